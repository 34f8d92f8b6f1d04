import Derived.Test.YtfbbidaoljfloaaDoorY17
namespace Go.Proofs.YtfbbidaoljfloaaDoor
open Go.RowKit Go.MuLone

theorem doneText_eq (num : Int) (n blk : Nat) (w : World) (e : num = n) (h1 : n < 65536) (h2 : blk ≤ 32) :
    Calls Tryd.prog 48 #[.int .i64 num, .int .i64 blk] w fun e w' => e = .returned (.string (strOf (doneB n blk))) ∧ Below w.heap.size w w' := by
  subst e
  exact doneText_any n blk w h1 h2

set_option maxRecDepth 100000 in
set_option maxHeartbeats 1000000 in
theorem handleS_yes (bs : Nat) (sl : Option Addr) (cap : Nat) (S : SV) (o : Thing) (text : ByteArray) (w : World) (h : Send w bs sl cap S) (hv : SVOk S) (hs : sendB S.l S.en = true) (ho : S.l[S.en]? = some o) :
    Calls Tryd.prog 21 #[.pointer (some ⟨bs, 0, none⟩), .string text] w fun e w' => e = .returned (.tuple #[]) ∧ SAft w w' bs sl sl cap (if bytesOf text = doneB (S.en + 1) S.blk then S.done 3 o else S) := by
  obtain ⟨s0, s2, s3, s4, s5, sf, slt⟩ := h.at_.cellsAt
  have hlt := (List.getElem?_eq_some_iff.1 ho).1
  have hn5 := hv.n5
  have hb2 := hv.b2
  have hA := h.at_.held
  have hth : Things (w.setCell ⟨bs, 0, none⟩ (.int .i32 1)) 110 sl S.l.length cap S.l := h.things.turn ((Turn.refl [bs] w).setCell (.inl (by simp)) _) (fun k hk => by simp; exact fun e => h.ne (by rw [hk, e]))
  obtain ⟨y0, y2, y3, y4, y5, yf, ylt⟩ := hA.cellsAt
  have HA : Hid _ := hA
  have HH : Hid _ := h
  have HT : Hid _ := hth
  have HO : Hid _ := ho
  have HE : Hid (∃ S', S' = (if bytesOf text = doneB (S.en + 1) S.blk then S.done 3 o else S)) := ⟨_, rfl⟩
  obtain ⟨S', hS'⟩ := HE.out
  rw [← hS']
  have HS' : Hid _ := hS'
  have hcmp : (text.toList == (strOf (doneB (S.en + 1) S.blk)).toList) = decide (doneB (S.en + 1) S.blk = bytesOf text) := by
    rw [← str_eq (doneB_lt _ _), Bool.eq_iff_iff, beq_iff_eq, beq_iff_eq]
    exact eq_comm
  have HC : Hid _ := hcmp
  have HI : Hid (IntKind.i64.wrap ((S.en : Int) + 1) = ((S.en + 1 : Nat) : Int)) := by rw [Hid]; simp [IntKind.wrap, IntKind.signed, IntKind.bits]; omega
  clear hA h hth hS' HE hcmp ho
  go_enter_defers Tryd.func21, Tryd.ntmps21
  go_wp2_with fail
  refine (lock_free muLib ⟨bs, 0, none⟩ _ s0 (sf _)).mono ?_
  rintro e w1 ⟨rfl, rfl⟩
  have HTw : Hid (Turn [bs] w (w.setCell ⟨bs, 0, none⟩ (.int .i32 1))) := (Turn.refl [bs] w).setCell (.inl (by simp)) _
  have hWs : (w.setCell ⟨bs, 0, none⟩ (.int .i32 1)).heap.size = w.heap.size := by simp
  generalize w.setCell ⟨bs, 0, none⟩ (.int .i32 1) = W at *
  have hlW : bs < W.heap.size := by omega
  have HQ : Hid (Calls Tryd.prog 49 #[.pointer (some ⟨bs, 0, none⟩)] W.drew fun e w' => e = .returned (.bool true) ∧ ∃ m, w' = (W.drew).drewN m) :=
    sending_as true bs S.blk S.bud sl S.l.length cap S.en S.l W.drew hs HA.out ⟨HT.out.owns, HT.out.len⟩ hv.le hv.n5
  clear yf sf s0 s2 s3 s4 s5 y0 y3 y4
  go_upto_region 2 with fail
  go_region_held3 (fun v => v.cell? ⟨bs, 5, none⟩ = some (.int .i64 S.en) ∧ v.cell? ⟨bs, 2, none⟩ = some (.int .i64 S.blk))
    (first | exact ⟨y5, y2⟩ | exact ⟨(hb3.cell (p := ⟨bs, 5, none⟩) hlW).trans y5, (hb3.cell (p := ⟨bs, 2, none⟩) hlW).trans y2⟩)
    (first
      | (go_at_call 49; refine (HQ.out).mono ?_; rintro e w2 ⟨rfl, m, rfl⟩)
      | (go_at_call 48; refine (doneText_eq _ (S.en + 1) S.blk _ HI.out (by omega) hb2).mono ?_; rintro e w3 ⟨rfl, hb3⟩))
  have hT3 : Turn [] W w3 := ((Turn.refl [] W).drewN (1 + m)).trans (Turn.below (S := []) hb3 (Nat.le_refl _)) (by simp)
  have hA3 : HeldAt w3 bs S.blk S.bud (.slice sl S.l.length cap) S.en := hT3.cells HA.out (by simp)
  have hth3 : Things w3 110 sl S.l.length cap S.l := HT.out.turn hT3 (by simp)
  have HA3 : Hid (HeldAt w3 bs S.blk S.bud (.slice sl S.l.length cap) S.en) := hA3
  have HT3 : Hid _ := hT3
  have HTH : Hid _ := hth3
  clear hA3 hT3 hth3 hb3
  by_cases hq : bytesOf text = doneB (S.en + 1) S.blk
  · have hc : (text.toList == (strOf (doneB (S.en + 1) S.blk)).toList) = true := by rw [HC.out]; simp [hq]
    have e : S' = S.done 3 o := by rw [HS'.out, if_pos hq]
    have HE : Hid _ := e
    clear e hq
    rw [hc]
    go_wp2_with fail
    refine (end_any bs S.blk S.bud sl S.l.length cap S.en S.l o 3 _ HA3.out HTH.out HH.out.ne hn5 hlt HO.out).mono ?_
    rintro e w5 ⟨rfl, ht5, hA5, hth5⟩
    obtain ⟨z0, _, _, _, _, zf, _⟩ := hA5.cellsAt
    have HA5 : Hid (HeldAt w5 bs S.blk S.bud (.slice sl S.l.length cap) ((S.en : Int) + 1)) := hA5
    clear hA5
    go_wp2_with fail
    refine leaves_cons (f := 40) (args := #[.pointer (some ⟨bs, 0, none⟩)]) (by simp) (by simp [go_sem]) ?_
    refine (unlock_deferred muLib ⟨bs, 0, none⟩ .returning _ z0 (zf _)).mono ?_
    rintro e u' w'' ⟨rfl, rfl, rfl⟩
    rw [HE.out]
    have hle : (S.done 3 o).l.length = S.l.length := by simp [SV.done]
    have hfin : SenderAt (w5.setCell ⟨bs, 0, none⟩ (.int .i32 0)) bs S.blk S.bud (.slice sl S.l.length cap) ((S.en + 1 : Nat) : Int) := by
      have := HA5.out.free
      simpa using this
    refine ⟨_, results_none rfl _ _ _, rfl, ⟨?_, ?_, ?_⟩, ?_, fun g hg => .inl hg⟩
    · rw [hle]; exact hfin
    · rw [hle]
      exact hth5.turn ((Turn.refl [bs] _).setCell (.inl (by simp)) _) (fun x hx => by simp; intro e; exact HH.out.ne (by rw [hx, e]))
    · rw [hle]; exact HH.out.ne
    · rw [← sfoot_eq bs sl S.l.length cap]
      exact (((HTw.out.mono (by simp)).trans (HT3.out.mono (S' := bs :: (Value.slice sl S.l.length cap).ownBlock.toList) (by simp)) (fun x hx => .inl hx)).trans ht5 (fun x hx => .inl hx)).setCell (.inl (by simp)) _
  · have hc : (text.toList == (strOf (doneB (S.en + 1) S.blk)).toList) = false := by rw [HC.out, decide_eq_false_iff_not]; exact fun e => hq e.symm
    have e : S' = S := by rw [HS'.out, if_neg hq]
    have HE : Hid _ := e
    clear e hq
    rw [hc]
    go_wp2_with fail
    obtain ⟨z0, _, _, _, _, zf, _⟩ := HA3.out.cellsAt
    refine leaves_cons (f := 40) (args := #[.pointer (some ⟨bs, 0, none⟩)]) (by simp) (by simp [go_sem]) ?_
    refine (unlock_deferred muLib ⟨bs, 0, none⟩ .returning _ z0 (zf _)).mono ?_
    rintro e u' w'' ⟨rfl, rfl, rfl⟩
    rw [HE.out]
    have hTT : Turn [bs] w (w3.setCell ⟨bs, 0, none⟩ (.int .i32 0)) := (HTw.out.trans HT3.out (by simp)).setCell (.inl (by simp)) _
    exact ⟨_, results_none rfl _ _ _, rfl, ⟨HA3.out.free, HH.out.things.turn hTT (fun k hk => by simp; intro e; exact HH.out.ne (by rw [hk, e])), HH.out.ne⟩, hTT.mono (by simp [sfoot]), fun g hg => .inl hg⟩

theorem handleS_any (bs : Nat) (sl : Option Addr) (cap : Nat) (S : SV) (text : ByteArray) (w : World) (h : Send w bs sl cap S) (hv : SVOk S) :
    Calls Tryd.prog 21 #[.pointer (some ⟨bs, 0, none⟩), .string text] w fun e w' => e = .returned (.tuple #[]) ∧ SAft w w' bs sl sl cap (S.handle (bytesOf text)) := by
  unfold SV.handle
  cases ho : S.l[S.en]? with
  | none => exact handleS_not bs sl cap S text w h hv (by rw [sendB, ho])
  | some o =>
    by_cases hs : o.st = 2
    · have hsb : sendB S.l S.en = true := by rw [sendB, ho]; simpa using hs
      have := handleS_yes bs sl cap S o text w h hv hsb ho
      simpa [hs] using this
    · have hsb : sendB S.l S.en = false := by rw [sendB, ho]; simpa using hs
      have := handleS_not bs sl cap S text w h hv hsb
      simpa [hs] using this

end Go.Proofs.YtfbbidaoljfloaaDoor
