import Derived.Test.YtfbbidaoljfloaaDoorJ29
import Derived.Deep.OwnRows
import Derived.BigQuiet
namespace Go.Proofs.YtfbbidaoljfloaaDoor
open Go.RowKit

/-- The receiver is at work on this object, or has not heard of it yet. -/
structure Track (V : RV) (num : Nat) (data : ByteArray) : Prop where
  und : V.dlv num = false
  at_ : V.num < num ∨ (V.num = num ∧ V.len = data.size ∧ V.bks = blocksOf data.size V.blk ∧ GoodSet data V.blk V.set ∧ V.rnk = V.srk)

/-- The set so far. -/
def RV.sofar (V : RV) (num : Nat) : Rx.SetV := if V.num < num then emptyS else V.set

/-- The text of a frame. -/
def fText (num blk row : Nat) (data : ByteArray) : List Nat := sumText num data.size row (sumRow data blk row)
theorem fText_frame (num blk : Nat) (o : Thing) : bytesOf (frameOf num blk o) = fText num blk (Dz.rowOf o.nonce (blocksOf o.data.size blk) o.sent) o.data := by
  unfold frameOf fText sumRow
  exact bytesOf_strOf _ (sumText_lt _ _ _ _ (sumUp_lt _ _ _ _))

structure Stepped (V V2 : RV) (num row : Nat) (data : ByteArray) : Prop where
  blk : V2.blk = V.blk
  snum : V2.num = num
  len : V2.len = data.size
  bks : V2.bks = blocksOf data.size V.blk
  set : V2.set = (Rx.addF 33 (V.sofar num) row (sumRow data V.blk row)).1
  rnk : V2.rnk = V2.srk
  dlv : V2.dlv = V.dlv
  ready : V2.ready = V.ready
  ok : RVOk V2
  good : GoodSet data V.blk V2.set

/-- A FRAME COMES. -/
theorem frame_step {V : RV} {num row : Nat} {data : ByteArray} (hv : RVOk V) (ht : Track V num data) (h1 : 1 ≤ num) (h5 : num ≤ 500) (hd : data.size ≤ 32 * V.blk) (hr0 : row ≠ 0) (hr : row < 2 ^ blocksOf data.size V.blk) :
    ∃ V2, Stepped V V2 num row data ∧ V.handle (fText num V.blk row data) = (if V2.srk = V2.bks then (V2.deliver, some (doneB num V.blk)) else (V2, none)) := by
  have hb1 := hv.b1
  have hb2 := hv.b2
  have hK := blocksOf_le data.size V.blk hb1 hd
  have hr32 := Rx.lt32 hK hr
  have hrd : readS (fText num V.blk row data) V.blk = some (num, data.size, row, sumRow data V.blk row) := by
    have := readS_text (x1 := num) (x2 := data.size) (x3 := row) (ns := sumRow data V.blk row) (by omega) (by omega) hr32
    rw [sumRow_len] at this
    exact this
  have hc : canB num data.size row V.blk = true := canB_iff.2 ⟨h1, h5, hK, hr0, hr⟩
  have hgo : V.gone num data.size row (sumRow data V.blk row) = V.gather num data.size row (sumRow data V.blk row) := by rw [RV.gone, if_neg (by rw [ht.und]; exact Bool.false_ne_true)]
  obtain ⟨f1, f2, f3, f4, f5⟩ := hv.first hc (by omega)
  have hfn : (V.first num data.size).num = num ∧ (V.first num data.size).len = data.size ∧ (V.first num data.size).bks = blocksOf data.size V.blk ∧ (V.first num data.size).set = V.sofar num ∧ GoodSet data V.blk (V.first num data.size).set := by
    unfold RV.first RV.sofar
    rcases ht.at_ with q | ⟨q1, q2, q3, q4, q5⟩
    · rw [if_pos q, if_pos q]
      exact ⟨rfl, rfl, rfl, rfl, fun j hj => absurd rfl hj⟩
    · rw [if_neg (by omega), if_neg (by omega)]
      exact ⟨q1, q2, q3, rfl, q4⟩
  obtain ⟨g1, g2, g3, g4, g5⟩ := hfn
  have hadd := f1.add (x3 := row) (ns := sumRow data V.blk row) (by rw [g3]; exact hr) (by rw [sumRow_len, f2]) (sumRow_lt _ _ _)
  have hgood : GoodSet data V.blk ((V.first num data.size).add row (sumRow data V.blk row)).set := addF_good (by omega) 33 _ row g5
  refine ⟨(V.first num data.size).add row (sumRow data V.blk row), ⟨f2, g1, g2, g3, by show (Rx.addF 33 (V.first num data.size).set row _).1 = _; rw [g4], rfl, f4, f5, hadd, hgood⟩, ?_⟩
  have hga : V.gather num data.size row (sumRow data V.blk row) = ((V.first num data.size).add row (sumRow data V.blk row)).last := by
    unfold RV.gather
    rw [if_neg (by rw [g1, g2]; omega)]
  unfold RV.handle
  rw [hrd]
  simp only
  rw [if_pos hc, hgo, hga]
  unfold RV.last
  by_cases hf : ((V.first num data.size).add row (sumRow data V.blk row)).srk = ((V.first num data.size).add row (sumRow data V.blk row)).bks
  · rw [if_pos hf, if_pos hf]
    have : (((V.first num data.size).add row (sumRow data V.blk row)).deliver).dlv num = true := by
      show (if num = (V.first num data.size).num then true else (V.first num data.size).dlv num) = true
      rw [if_pos g1.symm]
    rw [if_pos this]
  · rw [if_neg hf, if_neg hf]
    have : ((V.first num data.size).add row (sumRow data V.blk row)).dlv num = false := by
      show (V.first num data.size).dlv num = false
      rw [f4]; exact ht.und
    rw [if_neg (by rw [this]; exact Bool.false_ne_true)]

theorem Stepped.track {V V2 : RV} {num row : Nat} {data : ByteArray} (h : Stepped V V2 num row data) (ht : Track V num data) : Track V2 num data :=
  ⟨by rw [h.dlv]; exact ht.und, .inr ⟨h.snum, h.len, by rw [h.blk]; exact h.bks, by rw [h.blk]; exact h.good, h.rnk⟩⟩
theorem Stepped.sofar {V V2 : RV} {num row : Nat} {data : ByteArray} (h : Stepped V V2 num row data) : V2.sofar num = V2.set := by
  unfold RV.sofar
  rw [if_neg (by rw [h.snum]; omega)]

/-- What is delivered is the object. -/
theorem Stepped.data {V V2 : RV} {num row : Nat} {data : ByteArray} (h : Stepped V V2 num row data) (hf : V2.srk = V2.bks) : V2.deliver.ready = V.ready ++ [(data, num)] := by
  show V2.ready ++ [(strOf ((Rx.joinF V2.set V2.bks).take V2.len), V2.num)] = _
  have hb := h.ok.b1
  rw [h.len, joinF_data (data := data) (blk := V2.blk) (by omega) h.ok.bks (by rw [h.bks, h.blk]; exact blocksOf_cover _ _ (by rw [← h.blk]; exact hb)) h.ok.set (h.ok.full hf) (by rw [h.blk]; exact h.good), h.ready, h.snum]

/-- A frame of an object that was delivered. -/
theorem frame_late {V : RV} {num row : Nat} {data : ByteArray} (hv : RVOk V) (hdl : V.dlv num = true) (h1 : 1 ≤ num) (h5 : num ≤ 500) (hd : data.size ≤ 32 * V.blk) (hr0 : row ≠ 0) (hr : row < 2 ^ blocksOf data.size V.blk) :
    V.handle (fText num V.blk row data) = (V, some (doneB num V.blk)) := by
  have hb1 := hv.b1
  have hb2 := hv.b2
  have hK := blocksOf_le data.size V.blk hb1 hd
  have hr32 := Rx.lt32 hK hr
  have hrd : readS (fText num V.blk row data) V.blk = some (num, data.size, row, sumRow data V.blk row) := by
    have := readS_text (x1 := num) (x2 := data.size) (x3 := row) (ns := sumRow data V.blk row) (by omega) (by omega) hr32
    rw [sumRow_len] at this
    exact this
  have hc : canB num data.size row V.blk = true := canB_iff.2 ⟨h1, h5, hK, hr0, hr⟩
  have hgo : V.gone num data.size row (sumRow data V.blk row) = V := by rw [RV.gone, if_pos hdl]
  unfold RV.handle
  rw [hrd]
  simp only
  rw [if_pos hc, hgo, if_pos hdl]

end Go.Proofs.YtfbbidaoljfloaaDoor


namespace Go.Proofs.YtfbbidaoljfloaaDoor
open Go.RowKit Go.MuLone

theorem doneText_eq (num : Int) (n blk : Nat) (w : World) (e : num = n) (h1 : n < 65536) (h2 : blk ≤ 32) :
    Calls Tryd.prog 48 #[.int .i64 num, .int .i64 blk] w fun e w' => e = .returned (.string (strOf (doneB n blk))) ∧ Below w.heap.size w w' := by
  subst e
  exact doneText_any n blk w h1 h2

set_option maxRecDepth 100000 in
set_option maxHeartbeats 1000000 in
theorem handleS_yes (bs : Nat) (sl : Option Addr) (cap : Nat) (S : SV) (o : Thing) (text : ByteArray) (w : World) (h : Send w bs sl cap S) (hv : SVOk S) (hs : sendB S.l S.en = true) (ho : S.l[S.en]? = some o) :
    Calls Tryd.prog 21 #[.pointer (some ⟨bs, 0, none⟩), .string text] w fun e w' => e = .returned (.tuple #[]) ∧ SAft w w' bs sl sl cap (if bytesOf text = doneB (S.en + 1) S.blk then S.done 3 o else S) := by
  obtain ⟨s0, s2, s3, s4, s5, sf, slt⟩ := h.at_.cellsAt
  have hlt := (List.getElem?_eq_some_iff.1 ho).1
  have hn5 := hv.n5
  have hb2 := hv.b2
  have hA := h.at_.held
  have hth : Things (w.setCell ⟨bs, 0, none⟩ (.int .i32 1)) 110 sl S.l.length cap S.l := h.things.turn ((Turn.refl [bs] w).setCell (.inl (by simp)) _) (fun k hk => by simp; exact fun e => h.ne (by rw [hk, e]))
  obtain ⟨y0, y2, y3, y4, y5, yf, ylt⟩ := hA.cellsAt
  have HA : Hid _ := hA
  have HH : Hid _ := h
  have HT : Hid _ := hth
  have HO : Hid _ := ho
  have HE : Hid (∃ S', S' = (if bytesOf text = doneB (S.en + 1) S.blk then S.done 3 o else S)) := ⟨_, rfl⟩
  obtain ⟨S', hS'⟩ := HE.out
  rw [← hS']
  have HS' : Hid _ := hS'
  have hcmp : (text.toList == (strOf (doneB (S.en + 1) S.blk)).toList) = decide (doneB (S.en + 1) S.blk = bytesOf text) := by
    rw [← str_eq (doneB_lt _ _), Bool.eq_iff_iff, beq_iff_eq, beq_iff_eq]
    exact eq_comm
  have HC : Hid _ := hcmp
  have HI : Hid (IntKind.i64.wrap ((S.en : Int) + 1) = ((S.en + 1 : Nat) : Int)) := by rw [Hid]; simp [IntKind.wrap, IntKind.signed, IntKind.bits]; omega
  clear hA h hth hS' HE hcmp ho
  go_enter_defers Tryd.func21, Tryd.ntmps21
  go_wp2_with fail
  refine (lock_free muLib ⟨bs, 0, none⟩ _ s0 (sf _)).mono ?_
  rintro e w1 ⟨rfl, rfl⟩
  have HTw : Hid (Turn [bs] w (w.setCell ⟨bs, 0, none⟩ (.int .i32 1))) := (Turn.refl [bs] w).setCell (.inl (by simp)) _
  have hWs : (w.setCell ⟨bs, 0, none⟩ (.int .i32 1)).heap.size = w.heap.size := by simp
  generalize w.setCell ⟨bs, 0, none⟩ (.int .i32 1) = W at *
  have hlW : bs < W.heap.size := by omega
  have HQ : Hid (Calls Tryd.prog 49 #[.pointer (some ⟨bs, 0, none⟩)] W.drew fun e w' => e = .returned (.bool true) ∧ ∃ m, w' = (W.drew).drewN m) :=
    sending_as true bs S.blk S.bud sl S.l.length cap S.en S.l W.drew hs HA.out ⟨HT.out.owns, HT.out.len⟩ hv.le hv.n5
  clear yf sf s0 s2 s3 s4 s5 y0 y3 y4
  go_upto_region 2 with fail
  go_region_held3 (fun v => v.cell? ⟨bs, 5, none⟩ = some (.int .i64 S.en) ∧ v.cell? ⟨bs, 2, none⟩ = some (.int .i64 S.blk))
    (first | exact ⟨y5, y2⟩ | exact ⟨(hb3.cell (p := ⟨bs, 5, none⟩) hlW).trans y5, (hb3.cell (p := ⟨bs, 2, none⟩) hlW).trans y2⟩)
    (first
      | (go_at_call 49; refine (HQ.out).mono ?_; rintro e w2 ⟨rfl, m, rfl⟩)
      | (go_at_call 48; refine (doneText_eq _ (S.en + 1) S.blk _ HI.out (by omega) hb2).mono ?_; rintro e w3 ⟨rfl, hb3⟩))
  have hT3 : Turn [] W w3 := ((Turn.refl [] W).drewN (1 + m)).trans (Turn.below (S := []) hb3 (Nat.le_refl _)) (by simp)
  have hA3 : HeldAt w3 bs S.blk S.bud (.slice sl S.l.length cap) S.en := hT3.cells HA.out (by simp)
  have hth3 : Things w3 110 sl S.l.length cap S.l := HT.out.turn hT3 (by simp)
  have HA3 : Hid (HeldAt w3 bs S.blk S.bud (.slice sl S.l.length cap) S.en) := hA3
  have HT3 : Hid _ := hT3
  have HTH : Hid _ := hth3
  clear hA3 hT3 hth3 hb3
  by_cases hq : bytesOf text = doneB (S.en + 1) S.blk
  · have hc : (text.toList == (strOf (doneB (S.en + 1) S.blk)).toList) = true := by rw [HC.out]; simp [hq]
    have e : S' = S.done 3 o := by rw [HS'.out, if_pos hq]
    have HE : Hid _ := e
    clear e hq
    rw [hc]
    go_wp2_with fail
    refine (end_any bs S.blk S.bud sl S.l.length cap S.en S.l o 3 _ HA3.out HTH.out HH.out.ne hn5 hlt HO.out).mono ?_
    rintro e w5 ⟨rfl, ht5, hA5, hth5⟩
    obtain ⟨z0, _, _, _, _, zf, _⟩ := hA5.cellsAt
    have HA5 : Hid (HeldAt w5 bs S.blk S.bud (.slice sl S.l.length cap) ((S.en : Int) + 1)) := hA5
    clear hA5
    go_wp2_with fail
    refine leaves_cons (f := 40) (args := #[.pointer (some ⟨bs, 0, none⟩)]) (by simp) (by simp [go_sem]) ?_
    refine (unlock_deferred muLib ⟨bs, 0, none⟩ .returning _ z0 (zf _)).mono ?_
    rintro e u' w'' ⟨rfl, rfl, rfl⟩
    rw [HE.out]
    have hle : (S.done 3 o).l.length = S.l.length := by simp [SV.done]
    have hfin : SenderAt (w5.setCell ⟨bs, 0, none⟩ (.int .i32 0)) bs S.blk S.bud (.slice sl S.l.length cap) ((S.en + 1 : Nat) : Int) := by
      have := HA5.out.free
      simpa using this
    refine ⟨_, results_none rfl _ _ _, rfl, ⟨?_, ?_, ?_⟩, ?_, fun g hg => .inl hg⟩
    · rw [hle]; exact hfin
    · rw [hle]
      exact hth5.turn ((Turn.refl [bs] _).setCell (.inl (by simp)) _) (fun x hx => by simp; intro e; exact HH.out.ne (by rw [hx, e]))
    · rw [hle]; exact HH.out.ne
    · rw [← sfoot_eq bs sl S.l.length cap]
      exact (((HTw.out.mono (by simp)).trans (HT3.out.mono (S' := bs :: (Value.slice sl S.l.length cap).ownBlock.toList) (by simp)) (fun x hx => .inl hx)).trans ht5 (fun x hx => .inl hx)).setCell (.inl (by simp)) _
  · have hc : (text.toList == (strOf (doneB (S.en + 1) S.blk)).toList) = false := by rw [HC.out, decide_eq_false_iff_not]; exact fun e => hq e.symm
    have e : S' = S := by rw [HS'.out, if_neg hq]
    have HE : Hid _ := e
    clear e hq
    rw [hc]
    go_wp2_with fail
    obtain ⟨z0, _, _, _, _, zf, _⟩ := HA3.out.cellsAt
    refine leaves_cons (f := 40) (args := #[.pointer (some ⟨bs, 0, none⟩)]) (by simp) (by simp [go_sem]) ?_
    refine (unlock_deferred muLib ⟨bs, 0, none⟩ .returning _ z0 (zf _)).mono ?_
    rintro e u' w'' ⟨rfl, rfl, rfl⟩
    rw [HE.out]
    have hTT : Turn [bs] w (w3.setCell ⟨bs, 0, none⟩ (.int .i32 0)) := (HTw.out.trans HT3.out (by simp)).setCell (.inl (by simp)) _
    exact ⟨_, results_none rfl _ _ _, rfl, ⟨HA3.out.free, HH.out.things.turn hTT (fun k hk => by simp; intro e; exact HH.out.ne (by rw [hk, e])), HH.out.ne⟩, hTT.mono (by simp [sfoot]), fun g hg => .inl hg⟩

theorem handleS_any (bs : Nat) (sl : Option Addr) (cap : Nat) (S : SV) (text : ByteArray) (w : World) (h : Send w bs sl cap S) (hv : SVOk S) :
    Calls Tryd.prog 21 #[.pointer (some ⟨bs, 0, none⟩), .string text] w fun e w' => e = .returned (.tuple #[]) ∧ SAft w w' bs sl sl cap (S.handle (bytesOf text)) := by
  unfold SV.handle
  cases ho : S.l[S.en]? with
  | none => exact handleS_not bs sl cap S text w h hv (by rw [sendB, ho])
  | some o =>
    by_cases hs : o.st = 2
    · have hsb : sendB S.l S.en = true := by rw [sendB, ho]; simpa using hs
      have := handleS_yes bs sl cap S o text w h hv hsb ho
      simpa [hs] using this
    · have hsb : sendB S.l S.en = false := by rw [sendB, ho]; simpa using hs
      have := handleS_not bs sl cap S text w h hv hsb
      simpa [hs] using this

end Go.Proofs.YtfbbidaoljfloaaDoor


namespace Go.Proofs.YtfbbidaoljfloaaDoor
open Go.RowKit Go.MuLone

set_option maxRecDepth 100000 in
set_option maxHeartbeats 800000 in
theorem bent_any (n : Int) (lo hi : Nat) (w : World) (h1 : -9223372036854775808 ≤ n) (h2 : n ≤ 9223372036854775807) (hl : lo ≤ hi) (hh : hi ≤ 100000) :
    Calls Tryd.prog 14 #[.int .i64 n, .int .i64 lo, .int .i64 hi] w fun e w' => (∃ b : Nat, e = .returned (.int .i64 b) ∧ lo ≤ b ∧ b ≤ hi) ∧ w' = w := by
  have hp : (0 : Int) < (hi : Int) - (lo : Int) + 1 := by omega
  by_cases c1 : (lo : Int) ≤ n
  · by_cases c2 : n ≤ (hi : Int)
    · obtain ⟨b, rfl⟩ := Int.eq_ofNat_of_zero_le (show 0 ≤ n by omega)
      have q1 : decide (lo ≤ b) = true := by simp; omega
      have q2 : decide (b ≤ hi) = true := by simp; omega
      go_enter Tryd.func14, Tryd.ntmps14
      go_wp2
      go_ret
      exact ⟨⟨b, rfl, by omega, by omega⟩, rfl⟩
    · have hn0 : (0 : Int) ≤ n := by omega
      have hm0 := Int.emod_nonneg n (show (hi : Int) - (lo : Int) + 1 ≠ 0 by omega)
      have hm1 := Int.emod_lt_of_pos n hp
      obtain ⟨m, hm⟩ := Int.eq_ofNat_of_zero_le hm0
      have q1 : decide ((lo : Int) ≤ n) = true := by simpa using c1
      have q2 : decide (n ≤ (hi : Int)) = false := by simpa using c2
      have q3 : decide (n < 0) = false := by simpa using hn0
      have HM : Hid _ := hm
      have hml : m < hi - lo + 1 := by omega
      clear hm
      go_enter Tryd.func14, Tryd.ntmps14
      go_wp2
      go_ret
      refine ⟨⟨lo + m, ret_int ?_, by omega, by omega⟩, rfl⟩
      have := HM.out
      simp at this ⊢
      omega
  · have q1 : decide ((lo : Int) ≤ n) = false := by simpa using c1
    by_cases c3 : n < 0
    · have q3 : decide (n < 0) = true := by simpa using c3
      have hte : (-(n + 1)).tmod ((hi : Int) - (lo : Int) + 1) = (-(n + 1)) % ((hi : Int) - (lo : Int) + 1) := Int.tmod_eq_emod_of_nonneg (by omega)
      have hm0 := Int.emod_nonneg (-(n + 1)) (show (hi : Int) - (lo : Int) + 1 ≠ 0 by omega)
      have hm1 := Int.emod_lt_of_pos (-(n + 1)) hp
      obtain ⟨m, hm⟩ := Int.eq_ofNat_of_zero_le hm0
      have hml0 : m < hi - lo + 1 := by omega
      rw [← hte] at hm
      have hng : (-(n + 1)).tmod ((hi : Int) - (lo : Int) + 1) = -((n + 1).tmod ((hi : Int) - (lo : Int) + 1)) := Int.neg_tmod _ _
      rw [hng] at hm
      clear hte hng
      have HM : Hid _ := hm
      clear hm
      go_enter Tryd.func14, Tryd.ntmps14
      go_wp2
      go_ret
      refine ⟨⟨lo + m, ret_int ?_, by omega, by omega⟩, rfl⟩
      have := HM.out
      rw [this]
      simp [wrap64]
      omega
    · have hn0 : (0 : Int) ≤ n := by omega
      have q3 : decide (n < 0) = false := by simpa using hn0
      have hm0 := Int.emod_nonneg n (show (hi : Int) - (lo : Int) + 1 ≠ 0 by omega)
      have hm1 := Int.emod_lt_of_pos n hp
      obtain ⟨m, hm⟩ := Int.eq_ofNat_of_zero_le hm0
      have HM : Hid _ := hm
      have hml : m < hi - lo + 1 := by omega
      clear hm
      go_enter Tryd.func14, Tryd.ntmps14
      go_wp2
      go_ret
      refine ⟨⟨lo + m, ret_int ?_, by omega, by omega⟩, rfl⟩
      have := HM.out
      simp at this ⊢
      omega

/-- An object that is not too long. -/
def fitD (data : ByteArray) (blk : Nat) : ByteArray := if 32 * blk < data.size then data.extract 0 (32 * blk) else data
theorem fitD_size (data : ByteArray) (blk : Nat) : (fitD data blk).size ≤ 32 * blk := by
  unfold fitD
  split
  · rw [ByteArray.size_extract]; omega
  · omega

set_option maxRecDepth 100000 in
set_option maxHeartbeats 400000 in
theorem fit_any (data : ByteArray) (blk : Nat) (w : World) (h1 : 1 ≤ blk) (h2 : blk ≤ 32) :
    Calls Tryd.prog 16 #[.string data, .int .i64 blk] w fun e w' => e = .returned (.string (fitD data blk)) ∧ w' = w := by
  by_cases h : 32 * blk < data.size
  · have q : decide (32 * (blk : Int) < (data.size : Int)) = true := by simp; omega
    have a1 : (0 : Int) ≤ 32 * (blk : Int) := by omega
    have a2 : 32 * (blk : Int) ≤ (data.size : Int) := by omega
    have a3 : (32 * (blk : Int)).toNat = 32 * blk := by omega
    have HE : Hid (fitD data blk = data.extract 0 (32 * blk)) := by rw [Hid, fitD, if_pos h]
    clear h
    go_enter Tryd.func16, Tryd.ntmps16
    go_wp2
    go_ret
    refine ⟨?_, rfl⟩
    rw [HE.out]
    rfl
  · have q : decide (32 * (blk : Int) < (data.size : Int)) = false := by simp; omega
    have HE : Hid (fitD data blk = data) := by rw [Hid, fitD, if_neg h]
    clear h
    go_enter Tryd.func16, Tryd.ntmps16
    go_wp2
    go_ret
    refine ⟨?_, rfl⟩
    rw [HE.out]
    rfl

set_option maxRecDepth 100000 in
set_option maxHeartbeats 400000 in
theorem blocks_any (data : ByteArray) (blk : Nat) (w : World) (h1 : 1 ≤ blk) (h2 : blk ≤ 32) (hd : data.size ≤ 32 * blk) :
    Calls Tryd.prog 19 #[.string data, .int .i64 blk] w fun e w' => e = .returned (.int .i64 (blocksOf data.size blk)) ∧ w' = w := by
  have hq : ((data.size : Int) + (blk : Int) - 1) / (blk : Int) = (((data.size + blk - 1) / blk : Nat) : Int) := by
    rw [show (data.size : Int) + (blk : Int) - 1 = ((data.size + blk - 1 : Nat) : Int) by omega]
    simp
  have hb : (0 : Int) < (blk : Int) := by omega
  have HQ : Hid _ := hq
  have HB : Hid (blocksOf data.size blk = max 1 ((data.size + blk - 1) / blk)) := rfl
  by_cases h0 : (data.size + blk - 1) / blk = 0
  · have e : (((data.size : Int) + (blk : Int) - 1) / (blk : Int) == 0) = true := by rw [hq, h0]; rfl
    have HZ : Hid _ := h0
    clear hq h0
    go_enter Tryd.func19, Tryd.ntmps19
    go_wp2
    go_ret
    refine ⟨ret_int ?_, rfl⟩
    rw [HB.out, HZ.out]
    rfl
  · have e : (((data.size : Int) + (blk : Int) - 1) / (blk : Int) == 0) = false := by rw [hq, beq_eq_false_iff_ne]; omega
    have HZ : Hid (1 ≤ (data.size + blk - 1) / blk) := Nat.pos_of_ne_zero h0
    clear hq h0
    go_enter Tryd.func19, Tryd.ntmps19
    go_wp2
    go_ret
    refine ⟨ret_int ?_, rfl⟩
    rw [HB.out]
    have h1 := HQ.out
    have h2 := HZ.out
    show ((data.size : Int) + (blk : Int) - 1) / (blk : Int) = _
    rw [h1, Nat.max_eq_right h2]

theorem keepPick_any (c : Int) (n : Nat) (w : World) (h1 : -9223372036854775808 ≤ c) (h2 : c ≤ 9223372036854775807) (hn : 0 < n) (hn2 : n ≤ 4611686018427387904) :
    Calls Tryd.prog 26 #[.int .i64 c, .int .i64 n] w fun e w' => ∃ k : Nat, k < n ∧ e = .returned (.int .i64 k) ∧ w' = w := by
  go_enter Tryd.func26, Tryd.ntmps26
  go_wp2_with fail
  refine (pickNet_any c n _ h1 h2 hn hn2).mono ?_
  rintro e w1 ⟨k, hk, rfl, rfl⟩
  go_wp2
  go_ret
  exact ⟨k, hk, rfl, rfl⟩

structure PairAt (w : World) (bp bs br : Nat) : Prop where
  obj : w.heap[bp]? = some (.cells #[.pointer (some ⟨bs, 0, none⟩), .pointer (some ⟨br, 0, none⟩)] 36 (0, 0))
theorem PairAt.cells {w : World} {bp bs br : Nat} (h : PairAt w bp bs br) : w.cell? ⟨bp, 0, none⟩ = some (.pointer (some ⟨bs, 0, none⟩)) ∧ w.cell? ⟨bp, 1, none⟩ = some (.pointer (some ⟨br, 0, none⟩)) :=
  ⟨by rw [cell_of_row _ _ _ _ _ _ h.obj]; rfl, by rw [cell_of_row _ _ _ _ _ _ h.obj]; rfl⟩
theorem PairAt.turn {Z : List Nat} {w w' : World} {bp bs br : Nat} (h : PairAt w bp bs br) (ht : Turn Z w w') (hn : bp ∉ Z) : PairAt w' bp bs br := ⟨ht.cells h.obj hn⟩

def SV.fresh (blk bud : Nat) : SV := ⟨blk, bud, 0, []⟩
theorem SV.fresh_ok (blk bud : Nat) (h1 : 1 ≤ blk) (h2 : blk ≤ 32) (h3 : 1 ≤ bud) (h4 : bud ≤ 1000) : SVOk (SV.fresh blk bud) :=
  ⟨h1, h2, h3, h4, Nat.le_refl _, Nat.zero_le _, fun i o _ ho => by simp [SV.fresh] at ho⟩

set_option maxRecDepth 100000 in
set_option maxHeartbeats 800000 in
theorem pair_any (blk bud : Nat) (w : World) (ht : Tab w) (h1 : 1 ≤ blk) (h2 : blk ≤ 32) (h3 : 1 ≤ bud) (h4 : bud ≤ 1000) :
    Calls Tryd.prog 15 #[.int .i64 blk, .int .i64 bud] w fun e w' => ∃ bp bs br F, e = .returned (.tuple #[.pointer (some ⟨bp, 0, none⟩), .bool true]) ∧ Below w.heap.size w w' ∧ PairAt w' bp bs br ∧ Net w' bs br F (SV.fresh blk bud) (RV.fresh blk) ∧ (∀ g ∈ F, w.heap.size ≤ g) ∧ w.heap.size ≤ bp ∧ bp ∉ F := by
  have hgood : goodB blk bud = true := by unfold goodB; simp; omega
  have hpos : 0 < w.heap.size := World.block_lt_of_cell? w _ (ht 0 0 rfl)
  go_enter Tryd.func15, Tryd.ntmps15
  go_wp2_with fail
  refine (newSender_good blk bud _ hgood).mono ?_
  rintro e w1 ⟨bs, rfl, hb1, hbs, hs1⟩
  obtain ⟨hc1, hf1⟩ := bcell hb1
  have c0 : w1.cell? ⟨w.heap.size, 0, none⟩ = some (.int .i64 blk) := by rw [hc1 _ _ (by simp)]; simp [go_sem]
  have c1 : w1.cell? ⟨w.heap.size, 1, none⟩ = some (.int .i64 bud) := by rw [hc1 _ _ (by simp)]; simp [go_sem]
  have HB1 : Hid _ := hb1
  clear hc1 hf1 hb1
  go_wp2_with fail
  refine (newReceiver_good blk bud _ hgood).mono ?_
  rintro e w2 ⟨br, rfl, hb2, hbr, hr2⟩
  have HB2 : Hid _ := hb2
  have HR2 : Hid _ := hr2
  clear hb2 hr2
  go_wp2_with fail
  have hs0 : w.heap.size + 1 ≤ bs := by simpa using hbs
  have hbsl : bs < w1.heap.size := lt_of_heap hs1
  have hB1 : Below w.heap.size w w1 := ((Below.refl w.heap.size w).alloc (Nat.le_refl _) (.cells #[.int .i64 blk, .int .i64 bud] 72)).trans (HB1.out.mono (by simp))
  have hB2 : Below w.heap.size w w2 := hB1.trans (HB2.out.mono hB1.size)
  have hB3 : Below w.heap.size w (w2.alloc (.cells #[.pointer (some ⟨bs, 0, none⟩), .pointer (some ⟨br, 0, none⟩)] 36)) := hB2.alloc hB2.size _
  have T3 : Turn [] w2 (w2.alloc (.cells #[.pointer (some ⟨bs, 0, none⟩), .pointer (some ⟨br, 0, none⟩)] 36)) := (Turn.refl [] w2).alloc _
  have hbrl : br < w2.heap.size := HR2.out.held.at_.lt
  have hsz1 := hB1.size
  have hsz2 : w1.heap.size ≤ w2.heap.size := HB2.out.size
  have hs3 : SenderAt (w2.alloc (.cells #[.pointer (some ⟨bs, 0, none⟩), .pointer (some ⟨br, 0, none⟩)] 36)) bs blk bud (.slice none 0 0) 0 := T3.cells ((HB2.out.block bs hbsl).trans hs1) (by simp)
  obtain ⟨_, hft, hlk⟩ := fresh_recv blk w2 br HR2.out.held.at_
  refine bodyPost_ret (results_tmp2 rfl _ _ _) rfl ⟨w2.heap.size, bs, br, sfoot bs none ++ (RC.fresh blk).foot br, rfl, hB3, ⟨heap_alloc_new w2 _⟩, ⟨none, 0, RC.fresh blk, ⟨⟨?_, ?_, ?_⟩, HR2.out.turn T3 (by simp), hlk, ?_, SV.fresh_ok blk bud h1 h2 h3 h4, fresh_ok blk h1 h2, ?_, ?_, ?_⟩, rfl⟩, ?_, by omega, ?_⟩
  · exact hs3
  · exact ⟨World.ownsRow_nil _ _ _ _, rfl⟩
  · intro e; cases e
  · intro g hg
    rw [hft]
    simp [sfoot] at hg
    simp
    omega
  · exact ht.turn (Turn.below (S := []) hB3 (Nat.le_refl _)) (by simp)
  · simp [sfoot]; omega
  · rw [hft]; simp; omega
  · intro g hg
    rw [hft] at hg
    simp [sfoot] at hg
    omega
  · rw [hft]
    simp [sfoot]
    omega

set_option maxRecDepth 100000 in
set_option maxHeartbeats 800000 in
theorem taken_any (bp bs br num : Nat) (F : List Nat) (S : SV) (V : RV) (data : ByteArray) (w : World) (h : Net w bs br F S V) (hp : PairAt w bp bs br) (hr : V.ready = [(data, num)]) :
    Calls Tryd.prog 23 #[.pointer (some ⟨bp, 0, none⟩), .string data, .int .i64 num] w fun e w' => e = .returned (.bool true) ∧ ∃ F', NAft w w' bs br F F' S { V with ready := [] } := by
  obtain ⟨p0, p1⟩ := hp.cells
  have q : (data.toList == data.toList) = true := by simp
  go_enter Tryd.func23, Tryd.ntmps23
  go_wp2_with fail
  refine (nTake_some h hr).mono ?_
  rintro e w1 ⟨rfl, F', ha⟩
  go_wp2_with fail
  go_ret
  exact ⟨by simp, F', ha⟩

end Go.Proofs.YtfbbidaoljfloaaDoor


namespace Go.Proofs.YtfbbidaoljfloaaDoor
open Go.RowKit Go.MuLone

theorem rowOf_ne (nonce : Int) (K : Nat) (id : Int) (hK : 1 ≤ K) : Dz.rowOf nonce K id ≠ 0 := by
  unfold Dz.rowOf
  split
  · have := Nat.two_pow_pos ((id / 4).toNat % K)
    omega
  · intro e
    have hm := Dz.many_le K (Dz.num (Dz.lcg (Dz.seed0 nonce id)) % K + 1) hK (by omega)
    have h1 := Dz.many_more K (Dz.num (Dz.lcg (Dz.seed0 nonce id)) % K + 1) 0 (by omega) (by omega)
    have hc := Dz.rowAt_cnt K (Dz.lcg (Dz.seed0 nonce id)) hK _ hm
    have e' : Dz.rowAt K (Dz.lcg (Dz.seed0 nonce id)) (Dz.many K (Dz.num (Dz.lcg (Dz.seed0 nonce id)) % K + 1)) = 0 := e
    rw [e', Dz.cnt_zero] at hc
    omega

theorem rowOf_four (nonce : Int) (K k : Nat) (h4 : k % 4 = 0) : Dz.rowOf nonce K (k : Int) = 2 ^ (k / 4 % K) :=
  Dz.rowOf_plain nonce K k (k / 4 % K) (by omega) (by omega) (by simp)

theorem SVOk.handle {S : SV} (h : SVOk S) (bs : List Nat) : SVOk (S.handle bs) := by
  unfold SV.handle
  cases ho : S.l[S.en]? with
  | none => exact h
  | some o =>
    simp only
    split
    · exact h.done 3 ho
    · exact h

theorem nSHandle {w : World} {bs br : Nat} {F : List Nat} {S : SV} {V : RV} (text : ByteArray) (h : Net w bs br F S V) :
    Calls Tryd.prog 21 #[.pointer (some ⟨bs, 0, none⟩), .string text] w fun e w' => e = .returned (.tuple #[]) ∧ ∃ F', NAft w w' bs br F F' (S.handle (bytesOf text)) V := by
  obtain ⟨sl, cap, R, hn, rfl⟩ := h
  refine (handleS_any bs sl cap S text w hn.send hn.sok).mono ?_
  rintro e w' ⟨rfl, ha⟩
  exact ⟨rfl, _, hn.sender ha (hn.sok.handle _)⟩

theorem redF_addF (n k : Nat) : ∀ (S : Rx.SetV) (x : Nat) (b : List Nat) (r : Nat), redF n S r = true → redF n (Rx.addF k S x b).1 r = true := by
  induction k with
  | zero => intro S x b r h; exact h
  | succ k ih =>
    intro S x b r h
    unfold Rx.addF
    by_cases h0 : x = 0
    · rw [if_pos h0]; exact h
    · rw [if_neg h0]
      by_cases h1 : (S (Rx.low x)).1 = 0
      · rw [if_pos h1]
        exact redF_set n S r h1 h
      · rw [if_neg h1]
        exact ih S _ _ r h

theorem low_pow {j : Nat} (hj : j < 32) : Rx.low (2 ^ j) = j := by
  have hp : 2 ^ j < 4294967296 := Nat.lt_of_lt_of_le (Nat.pow_lt_pow_right (by decide) hj) (by decide)
  refine Rx.low_unique hp (by simp) (fun i hi => ?_)
  rw [Nat.testBit_two_pow]
  simp
  omega

theorem redF_pow {S : Rx.SetV} {j n : Nat} (hj : j < 32) (h : redF (n + 1) S (2 ^ j) = true) : (S j).1 ≠ 0 := by
  intro e
  have hp : (2 : Nat) ^ j ≠ 0 := by have := Nat.two_pow_pos j; omega
  rw [redF, if_neg hp, low_pow hj, if_pos e] at h
  cases h

/-- How far an object is, all its frames having come. -/
structure Prog (V : RV) (num : Nat) (data : ByteArray) (k : Nat) : Prop where
  track : Track V num data
  part : V.num < num ∨ V.srk ≠ V.bks
  red : ∀ m, m < k → m % 4 = 0 → redF 34 (V.sofar num) (2 ^ (m / 4 % blocksOf data.size V.blk)) = true

theorem Prog.start {V : RV} {num : Nat} {data : ByteArray} (hd : V.dlv num = false) (hn : V.num < num) : Prog V num data 0 :=
  ⟨⟨hd, .inl hn⟩, .inl hn, fun m hm => by omega⟩

theorem Prog.lt {V : RV} {num k : Nat} {data : ByteArray} (h : Prog V num data k) (hv : RVOk V) (hd : data.size ≤ 32 * V.blk) : k < 4 * blocksOf data.size V.blk := by
  apply Classical.byContradiction
  intro hk
  have hK1 := blocksOf_pos data.size V.blk
  have hK := blocksOf_le data.size V.blk hv.b1 hd
  have hall : ∀ j, j < blocksOf data.size V.blk → (V.sofar num j).1 ≠ 0 := fun j hj => by
    have := h.red (4 * j) (by omega) (by omega)
    rw [show 4 * j / 4 % blocksOf data.size V.blk = j by rw [Nat.mul_div_cancel_left _ (by decide), Nat.mod_eq_of_lt hj]] at this
    exact redF_pow (by omega) this
  rcases h.track.at_ with q | ⟨q1, q2, q3, q4, q5⟩
  · have := hall 0 (by omega)
    unfold RV.sofar at this
    rw [if_pos q] at this
    exact this rfl
  · rcases h.part with p | p
    · omega
    · apply p
      rw [hv.cnt, q3]
      apply Rx.cntR_all
      intro j hj
      have := hall j hj
      unfold RV.sofar at this
      rw [if_neg (by omega)] at this
      exact this

theorem sofar_ok {V : RV} {num : Nat} {data : ByteArray} (hv : RVOk V) (h : Track V num data) : Rx.SetOk V.blk (blocksOf data.size V.blk) (V.sofar num) := by
  unfold RV.sofar
  rcases h.at_ with q | ⟨q1, q2, q3, q4, q5⟩
  · rw [if_pos q]; exact emptyS_ok _ _
  · rw [if_neg (by omega), ← q3]; exact hv.set

theorem Prog.next {V V2 : RV} {num k : Nat} {data : ByteArray} {nonce : Int} (h : Prog V num data k) (hv : RVOk V) (hd : data.size ≤ 32 * V.blk) (hs : Stepped V V2 num (Dz.rowOf nonce (blocksOf data.size V.blk) k) data) (hnf : ¬ V2.srk = V2.bks) : Prog V2 num data (k + 1) := by
  have hK1 := blocksOf_pos data.size V.blk
  have hK := blocksOf_le data.size V.blk hv.b1 hd
  refine ⟨hs.track h.track, .inr hnf, fun m hm h4 => ?_⟩
  rw [hs.sofar, hs.set, hs.blk]
  by_cases hmk : m = k
  · subst hmk
    rw [rowOf_four nonce _ m h4]
    have hj : m / 4 % blocksOf data.size V.blk < blocksOf data.size V.blk := Nat.mod_lt _ (by omega)
    exact redF_added hK 33 _ _ _ (sofar_ok hv h.track) (Nat.pow_lt_pow_right (by decide) hj) (.inr (by omega)) (by omega)
  · exact redF_addF _ _ _ _ _ _ (h.red m (by omega) h4)

/-- The sender is at work on an object; k frames were sent, and all have come. -/
structure InObj (S : SV) (V : RV) (num : Nat) (data : ByteArray) (nonce : Int) (k : Nat) (L : List Thing) : Prop where
  pos : 1 ≤ num
  n5 : num ≤ 500
  en : S.en + 1 = num
  cur : ∃ st, S.l[S.en]? = some ⟨data, nonce, st, k⟩
  rest : S.l.drop num = L
  blk : S.blk = V.blk
  fit : data.size ≤ 32 * V.blk
  prog : Prog V num data k
  ready : V.ready = []
  later : ∀ j, num < j → V.dlv j = false

structure AftObj (S : SV) (V : RV) (num : Nat) (data : ByteArray) (k : Nat) (L : List Thing) : Prop where
  en : S.en = num
  cur : S.l[num - 1]? = some ⟨.empty, 0, 3, k⟩
  rest : S.l.drop num = L
  blk : S.blk = V.blk
  vnum : V.num ≤ num
  ready : V.ready = [(data, num)]
  later : ∀ j, num < j → V.dlv j = false

/-- One frame: the object is done, or not yet. -/
theorem InObj.step {S : SV} {V : RV} {num k : Nat} {data : ByteArray} {nonce : Int} {L : List Thing} {st : Int} (h : InObj S V num data nonce k L) (hv : RVOk V) (ho : S.l[S.en]? = some ⟨data, nonce, st, k⟩) :
    (∃ V1, V.handle (bytesOf (frameOf (S.en + 1) S.blk ⟨data, nonce, st, k⟩)) = (V1, none) ∧ InObj (S.sentOne ⟨data, nonce, st, k⟩) V1 num data nonce (k + 1) L) ∨
    (∃ V1, V.handle (bytesOf (frameOf (S.en + 1) S.blk ⟨data, nonce, st, k⟩)) = (V1, some (doneB num V.blk)) ∧ AftObj ((S.sentOne ⟨data, nonce, st, k⟩).handle (doneB num V.blk)) V1 num data (k + 1) L) := by
  have hlt := (List.getElem?_eq_some_iff.1 ho).1
  have hK1 := blocksOf_pos data.size V.blk
  obtain ⟨V2, hst, hh⟩ := frame_step (row := Dz.rowOf nonce (blocksOf data.size V.blk) k) hv h.prog.track h.pos h.n5 h.fit (rowOf_ne _ _ _ hK1) (Dz.rowOf_lt _ _ _ hK1)
  have htx : bytesOf (frameOf (S.en + 1) S.blk ⟨data, nonce, st, k⟩) = fText num V.blk (Dz.rowOf nonce (blocksOf data.size V.blk) k) data := by
    rw [fText_frame, h.en, h.blk]
  rw [htx, hh]
  have hcur : (S.sentOne ⟨data, nonce, st, k⟩).l[S.en]? = some ⟨data, nonce, 2, ((k + 1 : Nat) : Int)⟩ := by
    show (S.l.set S.en _)[S.en]? = _
    rw [List.getElem?_set_self hlt]
    simp
  have hrest : (S.sentOne ⟨data, nonce, st, k⟩).l.drop num = L := by
    show (S.l.set S.en _).drop num = L
    rw [← h.rest, List.drop_set_of_lt (by have := h.en; omega)]
  by_cases hf : V2.srk = V2.bks
  · right
    rw [if_pos hf]
    refine ⟨_, rfl, ?_⟩
    have hhan : (S.sentOne ⟨data, nonce, st, k⟩).handle (doneB num V.blk) = (S.sentOne ⟨data, nonce, st, k⟩).done 3 ⟨data, nonce, 2, ((k + 1 : Nat) : Int)⟩ := by
      unfold SV.handle
      rw [show (S.sentOne ⟨data, nonce, st, k⟩).en = S.en from rfl, hcur]
      simp only
      rw [if_pos ⟨trivial, by rw [h.en]; show doneB num V.blk = doneB num S.blk; rw [h.blk]⟩]
    rw [hhan]
    have hdr := hst.data hf
    rw [h.ready] at hdr
    refine ⟨h.en, ?_, ?_, ?_, ?_, hdr, fun j hj => ?_⟩
    · show ((S.l.set S.en _).set S.en _)[num - 1]? = _
      rw [show num - 1 = S.en by have := h.en; omega, List.getElem?_set_self (by simpa using hlt)]
    · show ((S.l.set S.en _).set S.en _).drop num = L
      rw [List.set_set, ← h.rest, List.drop_set_of_lt (by have := h.en; omega)]
    · show S.blk = V2.blk
      rw [hst.blk]; exact h.blk
    · show V2.num ≤ num
      rw [hst.snum]; exact Nat.le_refl _
    · show (if j = V2.num then true else V2.dlv j) = false
      rw [hst.snum, if_neg (by omega), hst.dlv]
      exact h.later j hj
  · left
    rw [if_neg hf]
    refine ⟨V2, rfl, ⟨h.pos, h.n5, h.en, ⟨2, hcur⟩, hrest, by show S.blk = V2.blk; rw [hst.blk]; exact h.blk, by rw [hst.blk]; exact h.fit, h.prog.next hv h.fit hst hf, by rw [hst.ready]; exact h.ready, fun j hj => by rw [hst.dlv]; exact h.later j hj⟩⟩

end Go.Proofs.YtfbbidaoljfloaaDoor


namespace Go.Proofs.YtfbbidaoljfloaaDoor
open Go.RowKit

/-- What sums of some of these rows can be. -/
def Sp : List Nat → Nat → Prop
  | [], x => x = 0
  | r :: l, x => Sp l x ∨ Sp l (x ^^^ r)
theorem Sp.zero : ∀ l : List Nat, Sp l 0
  | [] => rfl
  | _ :: l => .inl (Sp.zero l)
theorem xor_back (x r : Nat) : x ^^^ r ^^^ r = x := by rw [Nat.xor_assoc, Nat.xor_self, Nat.xor_zero]
theorem Sp.xor : ∀ (l : List Nat) (x y : Nat), Sp l x → Sp l y → Sp l (x ^^^ y)
  | [], x, y, hx, hy => by
    have hx : x = 0 := hx
    have hy : y = 0 := hy
    subst hx hy
    rfl
  | r :: l, x, y, hx, hy => by
    rcases hx with hx | hx
    · rcases hy with hy | hy
      · exact .inl (Sp.xor l x y hx hy)
      · right
        rw [Nat.xor_assoc]
        exact Sp.xor l x _ hx hy
    · rcases hy with hy | hy
      · right
        rw [Nat.xor_assoc, Nat.xor_comm y r, ← Nat.xor_assoc]
        exact Sp.xor l _ y hx hy
      · left
        have := Sp.xor l _ _ hx hy
        rw [xor_swap, Nat.xor_self, Nat.xor_zero] at this
        exact this
theorem Sp.mem : ∀ (l : List Nat) (r : Nat), r ∈ l → Sp l r
  | [], _, h => by cases h
  | a :: l, r, h => by
    rcases List.mem_cons.1 h with rfl | q
    · right
      rw [Nat.xor_self]
      exact Sp.zero l
    · exact .inl (Sp.mem l r q)
theorem Sp.of_mem {m : List Nat} : ∀ (l : List Nat) (x : Nat), (∀ r ∈ l, Sp m r) → Sp l x → Sp m x
  | [], x, _, h => by
    have h : x = 0 := h
    rw [h]
    exact Sp.zero m
  | r :: l, x, hl, h => by
    have hr := hl r (List.mem_cons_self ..)
    have hl' : ∀ r ∈ l, Sp m r := fun q hq => hl q (List.mem_cons_of_mem _ hq)
    rcases h with h | h
    · exact Sp.of_mem l x hl' h
    · have := Sp.xor m _ _ (Sp.of_mem l _ hl' h) hr
      rw [xor_back] at this
      exact this
theorem Sp.sub {l m : List Nat} {x : Nat} (h : ∀ r ∈ l, r ∈ m) (hx : Sp l x) : Sp m x := Sp.of_mem l x (fun r hr => Sp.mem m r (h r hr)) hx
theorem Sp.bit {j : Nat} : ∀ (l : List Nat) (x : Nat), (∀ r ∈ l, r.testBit j = false) → Sp l x → x.testBit j = false
  | [], x, _, h => by
    have h : x = 0 := h
    rw [h]; simp
  | r :: l, x, hl, h => by
    have hr := hl r (List.mem_cons_self ..)
    have hl' : ∀ r ∈ l, r.testBit j = false := fun q hq => hl q (List.mem_cons_of_mem _ hq)
    rcases h with h | h
    · exact Sp.bit l x hl' h
    · have := Sp.bit l _ hl' h
      rw [Nat.testBit_xor, hr] at this
      simpa using this

/-- Whether it can be. -/
def spB : List Nat → Nat → Bool
  | [], x => x == 0
  | r :: l, x => spB l x || spB l (x ^^^ r)
theorem spB_iff : ∀ (l : List Nat) (x : Nat), spB l x = true ↔ Sp l x
  | [], x => by simp [spB, Sp]
  | r :: l, x => by rw [spB, Bool.or_eq_true, spB_iff l x, spB_iff l (x ^^^ r)]; exact Iff.rfl
/-- One, if the row is independent of these. -/
def fresh1 (pre : List Nat) (r : Nat) : Nat := if spB pre r = true then 0 else 1
theorem fresh1_in {pre : List Nat} {r : Nat} (h : Sp pre r) : fresh1 pre r = 0 := if_pos ((spB_iff pre r).2 h)
theorem fresh1_out {pre : List Nat} {r : Nat} (h : ¬ Sp pre r) : fresh1 pre r = 1 := if_neg (fun q => h ((spB_iff pre r).1 q))
theorem fresh1_iff {pre pre' : List Nat} {r r' : Nat} (h : Sp pre r ↔ Sp pre' r') : fresh1 pre r = fresh1 pre' r' := by
  by_cases q : Sp pre r
  · rw [fresh1_in q, fresh1_in (h.1 q)]
  · rw [fresh1_out q, fresh1_out (fun z => q (h.2 z))]
/-- How many rows are independent of those ahead of them. -/
def gk : List Nat → List Nat → Nat
  | _, [] => 0
  | pre, r :: t => fresh1 pre r + gk (pre ++ [r]) t
theorem gk_snoc (r : Nat) : ∀ (l pre : List Nat), gk pre (l ++ [r]) = gk pre l + fresh1 (pre ++ l) r
  | [], pre => by simp [gk]
  | a :: l, pre => by
    show fresh1 pre a + gk (pre ++ [a]) (l ++ [r]) = fresh1 pre a + gk (pre ++ [a]) l + _
    rw [gk_snoc r l (pre ++ [a]), List.append_assoc, List.singleton_append]
    omega
theorem gk_congr : ∀ (l pre pre' : List Nat), (∀ x, Sp pre x ↔ Sp pre' x) → gk pre l = gk pre' l
  | [], _, _, _ => rfl
  | a :: l, pre, pre', h => by
    show fresh1 pre a + gk (pre ++ [a]) l = fresh1 pre' a + gk (pre' ++ [a]) l
    rw [gk_congr l (pre ++ [a]) (pre' ++ [a]) (fun x => ?_)]
    · rw [fresh1_iff (h a)]
    · have key : ∀ p q : List Nat, (∀ x, Sp p x → Sp q x) → Sp (p ++ [a]) x → Sp (q ++ [a]) x := fun p q hpq hx => Sp.of_mem _ _ (fun r hr => by
        rcases List.mem_append.1 hr with m | m
        · exact Sp.sub (fun z hz => List.mem_append_left _ hz) (hpq r (Sp.mem p r m))
        · exact Sp.mem _ r (List.mem_append_right _ m)) hx
      exact ⟨key pre pre' (fun x => (h x).1), key pre' pre (fun x => (h x).2)⟩

/-- A row rid of another one's lowest block. -/
def ridR (p r : Nat) : Nat := if p ≠ 0 ∧ r.testBit (Rx.low p) = true then r ^^^ p else r
/-- The document's rank, of so many rows at most. -/
def rankF : Nat → List Nat → Nat
  | 0, _ => 0
  | _ + 1, [] => 0
  | n + 1, p :: t => (if p = 0 then 0 else 1) + rankF n (t.map (ridR p))
/-- The document's rank. -/
def rankL (l : List Nat) : Nat := rankF l.length l
theorem rankL_nil : rankL [] = 0 := rfl
theorem rankL_cons (p : Nat) (t : List Nat) : rankL (p :: t) = (if p = 0 then 0 else 1) + rankL (t.map (ridR p)) := by
  unfold rankL
  rw [List.length_map]
  rfl

theorem rid_sp (p : Nat) (l : List Nat) (x : Nat) : Sp (p :: l) x ↔ Sp (p :: l.map (ridR p)) x := by
  constructor
  · refine Sp.of_mem _ _ (fun r hr => ?_)
    rcases List.mem_cons.1 hr with rfl | m
    · exact Sp.mem _ _ (List.mem_cons_self ..)
    · have h1 : Sp (p :: l.map (ridR p)) (ridR p r) := Sp.mem _ _ (List.mem_cons_of_mem _ (List.mem_map_of_mem m))
      unfold ridR at h1
      split at h1
      · have := Sp.xor _ _ _ h1 (Sp.mem (p :: l.map (ridR p)) p (List.mem_cons_self ..))
        rw [xor_back] at this
        exact this
      · exact h1
  · refine Sp.of_mem _ _ (fun r hr => ?_)
    rcases List.mem_cons.1 hr with rfl | m
    · exact Sp.mem _ _ (List.mem_cons_self ..)
    · obtain ⟨q, hq, rfl⟩ := List.mem_map.1 m
      have h1 : Sp (p :: l) q := Sp.mem _ _ (List.mem_cons_of_mem _ hq)
      unfold ridR
      split
      · exact Sp.xor _ _ _ h1 (Sp.mem _ _ (List.mem_cons_self ..))
      · exact h1
theorem ridR_bit {p r : Nat} (h0 : p ≠ 0) (hp : p < 4294967296) : (ridR p r).testBit (Rx.low p) = false := by
  unfold ridR
  by_cases h : r.testBit (Rx.low p) = true
  · rw [if_pos ⟨h0, h⟩, Nat.testBit_xor, h, Rx.low_bit h0 hp]; rfl
  · rw [if_neg (fun q => h q.2)]; simpa using h
theorem rid_in {p r : Nat} {l : List Nat} (h0 : p ≠ 0) (hp : p < 4294967296) : Sp (p :: l) r ↔ Sp (l.map (ridR p)) (ridR p r) := by
  have hb : ∀ q ∈ l.map (ridR p), q.testBit (Rx.low p) = false := fun q hq => by
    obtain ⟨z, _, rfl⟩ := List.mem_map.1 hq
    exact ridR_bit h0 hp
  have hpm : Sp (p :: l.map (ridR p)) p := Sp.mem _ _ (List.mem_cons_self ..)
  rw [rid_sp]
  constructor
  · intro h
    have h2 : Sp (p :: l.map (ridR p)) (ridR p r) := by
      unfold ridR
      split
      · exact Sp.xor _ _ _ h hpm
      · exact h
    rcases h2 with q | q
    · exact q
    · exfalso
      have := Sp.bit _ _ hb q
      rw [Nat.testBit_xor, ridR_bit h0 hp, Rx.low_bit h0 hp] at this
      cases this
  · intro h
    have h2 : Sp (p :: l.map (ridR p)) (ridR p r) := .inl h
    unfold ridR at h2
    split at h2
    · have := Sp.xor _ _ _ h2 hpm
      rw [xor_back] at this
      exact this
    · exact h2
theorem gk_rid {p : Nat} (h0 : p ≠ 0) (hp : p < 4294967296) : ∀ (t pre : List Nat), gk (p :: pre) t = gk (pre.map (ridR p)) (t.map (ridR p))
  | [], _ => rfl
  | r :: t, pre => by
    show fresh1 (p :: pre) r + gk (p :: pre ++ [r]) t = fresh1 (pre.map (ridR p)) (ridR p r) + gk (pre.map (ridR p) ++ [ridR p r]) (t.map (ridR p))
    have := gk_rid h0 hp t (pre ++ [r])
    rw [List.map_append] at this
    rw [show p :: pre ++ [r] = p :: (pre ++ [r]) from rfl, this]
    rw [fresh1_iff (rid_in h0 hp), List.map_cons, List.map_nil]
theorem ridR_lt {p r K : Nat} (hp : p < 2 ^ K) (hr : r < 2 ^ K) : ridR p r < 2 ^ K := by
  unfold ridR
  split
  · exact Nat.xor_lt_two_pow hr hp
  · exact hr
theorem rank_gk {K : Nat} (hK : K ≤ 32) : ∀ (n : Nat) (l : List Nat), l.length = n → (∀ r ∈ l, r < 2 ^ K) → rankL l = gk [] l := by
  intro n
  induction n with
  | zero => intro l hl _; rw [List.length_eq_zero_iff.1 hl, rankL_nil]; rfl
  | succ n ih =>
    intro l hl hr
    match l, hl with
    | p :: t, hl =>
      have hpK := hr p (List.mem_cons_self ..)
      have htK : ∀ r ∈ t, r < 2 ^ K := fun r h => hr r (List.mem_cons_of_mem _ h)
      rw [rankL_cons, ih (t.map (ridR p)) (by simpa using hl) (fun r h => by
        obtain ⟨q, hq, rfl⟩ := List.mem_map.1 h
        exact ridR_lt hpK (htK q hq))]
      show _ = fresh1 [] p + gk ([] ++ [p]) t
      by_cases h0 : p = 0
      · subst h0
        rw [if_pos rfl, fresh1_in (show Sp [] 0 from rfl), show t.map (ridR 0) = t by rw [show ridR 0 = id from funext (fun r => by simp [ridR])]; exact List.map_id t]
        rw [gk_congr t ([] ++ [0]) [] (fun x => ⟨fun h => by
          rcases h with h | h
          · exact h
          · have h : x ^^^ 0 = 0 := h
            rw [Nat.xor_zero] at h
            exact h, fun h => (show Sp [0] x from Or.inl h)⟩)]
      · rw [if_neg h0, fresh1_out (show ¬ Sp [] p from h0)]
        have := gk_rid h0 (Rx.lt32 hK hpK) t []
        rw [show ([] ++ [p] : List Nat) = [p] from rfl, this]
        rfl

/-- One block rid of, if it can be. -/
def stepN (S : Rx.SetV) (j x : Nat) : Nat := if x.testBit j = true ∧ (S j).1 ≠ 0 then x ^^^ (S j).1 else x
def nfN (S : Rx.SetV) : Nat → Nat → Nat → Nat
  | 0, _, x => x
  | k + 1, j, x => nfN S k (j + 1) (stepN S j x)
theorem low_self {blk K : Nat} {S : Rx.SetV} (hK : K ≤ 32) (hS : Rx.SetOk blk K S) {j : Nat} (h : (S j).1 ≠ 0) : (S j).1.testBit j = true ∧ ∀ i, i < j → (S j).1.testBit i = false := by
  obtain ⟨q1, q2, _⟩ := hS.row j h
  have hlt := Rx.lt32 hK q1
  have h1 := Rx.low_bit h hlt
  rw [q2] at h1
  exact ⟨h1, fun i hi => Rx.low_below h hlt (by rw [q2]; exact hi)⟩
theorem stepN_xor {blk K : Nat} {S : Rx.SetV} (hK : K ≤ 32) (hS : Rx.SetOk blk K S) (j x y : Nat) : stepN S j (x ^^^ y) = stepN S j x ^^^ stepN S j y := by
  unfold stepN
  by_cases h : (S j).1 ≠ 0
  · have hs := (low_self hK hS h).1
    rw [Nat.testBit_xor]
    cases hx : x.testBit j <;> cases hy : y.testBit j
    · simp
    · simp [h, Nat.xor_assoc]
    · simp [h]
      rw [Nat.xor_assoc, Nat.xor_comm y, ← Nat.xor_assoc]
    · simp [h]
      rw [xor_swap, Nat.xor_self, Nat.xor_zero]
  · rw [if_neg (fun q => h q.2), if_neg (fun q => h q.2), if_neg (fun q => h q.2)]
theorem nfN_xor {blk K : Nat} {S : Rx.SetV} (hK : K ≤ 32) (hS : Rx.SetOk blk K S) : ∀ (k j x y : Nat), nfN S k j (x ^^^ y) = nfN S k j x ^^^ nfN S k j y
  | 0, _, _, _ => rfl
  | k + 1, j, x, y => by
    rw [nfN, nfN, nfN, stepN_xor hK hS, nfN_xor hK hS k]
theorem nfN_keeps {blk K : Nat} {S : Rx.SetV} (hK : K ≤ 32) (hS : Rx.SetOk blk K S) : ∀ (k j x i : Nat), i < j → (nfN S k j x).testBit i = x.testBit i
  | 0, _, _, _, _ => rfl
  | k + 1, j, x, i, hi => by
    rw [nfN, nfN_keeps hK hS k (j + 1) _ i (by omega)]
    unfold stepN
    split
    · rename_i h
      rw [Nat.testBit_xor, (low_self hK hS h.2).2 i hi]
      simp
    · rfl
theorem red_nf {blk K : Nat} {S : Rx.SetV} (hK : K ≤ 32) (hS : Rx.SetOk blk K S) : ∀ (k j x m : Nat), k + j = 32 → x < 2 ^ K → (∀ i, i < j → x.testBit i = false) → k + 1 ≤ m → (redF m S x = true ↔ nfN S k j x = 0) := by
  intro k
  induction k with
  | zero =>
    intro j x m hj hx hb hm
    have hx0 : x = 0 := by
      apply Nat.eq_of_testBit_eq
      intro i
      rw [Nat.zero_testBit]
      by_cases h : i < 32
      · exact hb i (by omega)
      · exact Nat.testBit_lt_two_pow (Nat.lt_of_lt_of_le hx (Nat.pow_le_pow_right (by decide) (by omega)))
    subst hx0
    obtain ⟨n, rfl⟩ : ∃ n, m = n + 1 := ⟨m - 1, by omega⟩
    rw [redF, if_pos rfl]
    exact ⟨fun _ => rfl, fun _ => rfl⟩
  | succ k ih =>
    intro j x m hj hx hb hm
    rw [nfN]
    by_cases hbj : x.testBit j = true
    · have hx0 : x ≠ 0 := fun e => by rw [e] at hbj; simp at hbj
      have hl : Rx.low x = j := Rx.low_unique (Rx.lt32 hK hx) hbj hb
      obtain ⟨n, rfl⟩ : ∃ n, m = n + 1 := ⟨m - 1, by omega⟩
      rw [redF, if_neg hx0, hl]
      by_cases hs : (S j).1 = 0
      · rw [if_pos hs]
        have e : stepN S j x = x := by unfold stepN; rw [if_neg (fun q => q.2 hs)]
        rw [e]
        constructor
        · intro h; cases h
        · intro h
          exfalso
          have := nfN_keeps hK hS k (j + 1) x j (by omega)
          rw [h, hbj] at this
          simp at this
      · rw [if_neg hs]
        have e : stepN S j x = x ^^^ (S j).1 := by unfold stepN; rw [if_pos ⟨hbj, hs⟩]
        rw [e]
        obtain ⟨q1, q2⟩ := low_self hK hS hs
        refine ih (j + 1) _ n (by omega) (Nat.xor_lt_two_pow hx (hS.row j hs).1) (fun i hi => ?_) (by omega)
        rw [Nat.testBit_xor]
        by_cases e : i = j
        · subst e; rw [hbj, q1]; rfl
        · rw [hb i (by omega), q2 i (by omega)]; rfl
    · have e : stepN S j x = x := by unfold stepN; rw [if_neg (fun q => hbj q.1)]
      rw [e]
      refine ih (j + 1) x m (by omega) hx (fun i hi => ?_) (by omega)
      by_cases e : i = j
      · subst e; simpa using hbj
      · exact hb i (by omega)
theorem redF_xor {blk K : Nat} {S : Rx.SetV} (hK : K ≤ 32) (hS : Rx.SetOk blk K S) {x y : Nat} (hx : x < 2 ^ K) (hy : y < 2 ^ K) (h1 : redF 34 S x = true) (h2 : redF 34 S y = true) : redF 34 S (x ^^^ y) = true := by
  rw [red_nf hK hS 32 0 _ 34 rfl (Nat.xor_lt_two_pow hx hy) (by omega) (by omega), nfN_xor hK hS, (red_nf hK hS 32 0 x 34 rfl hx (by omega) (by omega)).1 h1, (red_nf hK hS 32 0 y 34 rfl hy (by omega) (by omega)).1 h2]
  rfl

/-- A set that holds just what these rows can make. -/
structure SetIs (blk K : Nat) (S : Rx.SetV) (rows : List Nat) : Prop where
  ok : Rx.SetOk blk K S
  lt : ∀ r ∈ rows, r < 2 ^ K
  sound : ∀ j, (S j).1 ≠ 0 → Sp rows (S j).1
  red : ∀ r ∈ rows, redF 34 S r = true
  cnt : Rx.cntR S K = gk [] rows
theorem SetIs.nil (blk K : Nat) : SetIs blk K emptyS [] := ⟨emptyS_ok _ _, by simp, fun j h => absurd rfl h, by simp, by rw [emptyS_cnt]; rfl⟩
theorem red_sp {S : Rx.SetV} {rows : List Nat} (h : ∀ j, (S j).1 ≠ 0 → Sp rows (S j).1) : ∀ (m x : Nat), redF m S x = true → Sp rows x
  | 0, _, hx => by cases hx
  | m + 1, x, hx => by
    rw [redF] at hx
    split at hx
    · rename_i h0; rw [h0]; exact Sp.zero _
    · split at hx
      · cases hx
      · rename_i hs
        have := Sp.xor _ _ _ (red_sp h m _ hx) (h _ hs)
        rw [xor_back] at this
        exact this
theorem sp_red {blk K : Nat} {S : Rx.SetV} (hK : K ≤ 32) (hS : Rx.SetOk blk K S) : ∀ (rows : List Nat) (x : Nat), x < 2 ^ K → (∀ r ∈ rows, r < 2 ^ K) → (∀ r ∈ rows, redF 34 S r = true) → Sp rows x → redF 34 S x = true
  | [], x, _, _, _, h => by
    have h : x = 0 := h
    rw [h, redF, if_pos rfl]
  | r :: l, x, hx, hl, hr, h => by
    have hl' : ∀ q ∈ l, q < 2 ^ K := fun q m => hl q (List.mem_cons_of_mem _ m)
    have hr' : ∀ q ∈ l, redF 34 S q = true := fun q m => hr q (List.mem_cons_of_mem _ m)
    have hrl := hl r (List.mem_cons_self ..)
    rcases h with h | h
    · exact sp_red hK hS l x hx hl' hr' h
    · have h1 := sp_red hK hS l (x ^^^ r) (Nat.xor_lt_two_pow hx hrl) hl' hr' h
      have := redF_xor hK hS (Nat.xor_lt_two_pow hx hrl) hrl h1 (hr r (List.mem_cons_self ..))
      rw [xor_back] at this
      exact this
theorem addF_flag {blk K : Nat} {S : Rx.SetV} (hK : K ≤ 32) (hS : Rx.SetOk blk K S) : ∀ (k r : Nat) (b : List Nat), r < 2 ^ K → (r = 0 ∨ 33 ≤ k + Rx.low r) → (Rx.addF k S r b).2 = !redF (k + 1) S r
  | 0, r, b, hr, hf => by
    rcases hf with rfl | hf
    · simp [Rx.addF, redF]
    · by_cases h0 : r = 0
      · subst h0; simp [Rx.addF, redF]
      · have := Rx.low_lt h0 (Rx.lt32 hK hr); omega
  | k + 1, r, b, hr, hf => by
    unfold Rx.addF
    rw [redF]
    by_cases h0 : r = 0
    · rw [if_pos h0, if_pos h0]; rfl
    · rw [if_neg h0, if_neg h0]
      by_cases h1 : (S (Rx.low r)).1 = 0
      · rw [if_pos h1, if_pos h1]; rfl
      · rw [if_neg h1, if_neg h1]
        obtain ⟨q1, q2, _⟩ := hS.row _ h1
        obtain ⟨n1, n2⟩ := Rx.next_row hK h0 hr h1 q1 q2
        exact addF_flag hK hS k _ _ n1 (by
          rcases n2 with q | q
          · exact .inl q
          · exact .inr (by omega))
theorem addF_sound {S : Rx.SetV} {rows : List Nat} (h : ∀ j, (S j).1 ≠ 0 → Sp rows (S j).1) : ∀ (k r : Nat) (b : List Nat), Sp rows r → ∀ j, ((Rx.addF k S r b).1 j).1 ≠ 0 → Sp rows ((Rx.addF k S r b).1 j).1
  | 0, _, _, _, j, hj => h j hj
  | k + 1, r, b, hr, j, hj => by
    unfold Rx.addF at hj ⊢
    by_cases h0 : r = 0
    · rw [if_pos h0] at hj ⊢; exact h j hj
    · rw [if_neg h0] at hj ⊢
      by_cases h1 : (S (Rx.low r)).1 = 0
      · rw [if_pos h1] at hj ⊢
        by_cases e : j = Rx.low r
        · subst e
          show Sp rows (Rx.setAt S (Rx.low r) (r, b) (Rx.low r)).1
          rw [Rx.setAt_same]
          exact hr
        · show Sp rows (Rx.setAt S (Rx.low r) (r, b) j).1
          have hj : (Rx.setAt S (Rx.low r) (r, b) j).1 ≠ 0 := hj
          rw [Rx.setAt_other _ _ e] at hj ⊢
          exact h j hj
      · rw [if_neg h1] at hj ⊢
        exact addF_sound h k _ _ (Sp.xor _ _ _ hr (h _ h1)) j hj
/-- One row more. -/
theorem SetIs.add {blk K : Nat} {S : Rx.SetV} {rows : List Nat} (hK : K ≤ 32) (h : SetIs blk K S rows) {r : Nat} {b : List Nat} (hr : r < 2 ^ K) (hb : b.length = blk) (hb2 : ∀ x ∈ b, x < 256) : SetIs blk K (Rx.addF 33 S r b).1 (rows ++ [r]) := by
  have hsub : ∀ x, Sp rows x → Sp (rows ++ [r]) x := fun x hx => Sp.sub (fun z hz => List.mem_append_left _ hz) hx
  have hrr : Sp (rows ++ [r]) r := Sp.mem _ _ (by simp)
  have hiff : redF 34 S r = true ↔ Sp rows r := ⟨red_sp h.sound 34 r, sp_red hK h.ok rows r hr h.lt h.red⟩
  refine ⟨Rx.addF_ok hK 33 S r b h.ok hr hb hb2, fun q hq => ?_, addF_sound (fun j hj => hsub _ (h.sound j hj)) 33 r b hrr, fun q hq => ?_, ?_⟩
  · rcases List.mem_append.1 hq with m | m
    · exact h.lt q m
    · rw [List.mem_singleton.1 m]; exact hr
  · rcases List.mem_append.1 hq with m | m
    · exact redF_addF _ _ _ _ _ _ (h.red q m)
    · rw [List.mem_singleton.1 m]
      exact redF_added hK 33 S r b h.ok hr (.inr (by omega)) (by omega)
  · rw [Rx.addF_cnt hK 33 S r b h.ok hr, gk_snoc, h.cnt, addF_flag hK h.ok 33 r b hr (.inr (by omega)), List.nil_append]
    by_cases hs : Sp rows r
    · rw [fresh1_in hs, hiff.2 hs]; rfl
    · rw [fresh1_out hs, show redF 34 S r = false by
        cases hq : redF 34 S r
        · rfl
        · exact absurd (hiff.1 hq) hs]
      rfl
theorem SetIs.rank {blk K : Nat} {S : Rx.SetV} {rows : List Nat} (hK : K ≤ 32) (h : SetIs blk K S rows) : Rx.cntR S K = rankL rows := by
  rw [h.cnt, rank_gk hK _ rows rfl h.lt]

end Go.Proofs.YtfbbidaoljfloaaDoor


namespace Go.Proofs.YtfbbidaoljfloaaDoor
open Go.RowKit Go.MuLone

/-- A row of the document's, in memory. -/
def BR (w : World) (g K r : Nat) : Prop := w.rowIs g 4 K (fun j => .bool (r.testBit j))
def rowV (g K : Nat) : Value := .slice (some ⟨g, 0, none⟩) K K
theorem BR.turn {Z : List Nat} {w w' : World} {g K r : Nat} (h : BR w g K r) (ht : Turn Z w w') (hz : g ∉ Z) : BR w' g K r := World.rowIs.of_block h (ht.block g (World.rowIs.lt h) hz)

/-- The first block of a row. -/
def firstI (r : Nat) : Int := if r = 0 then -1 else (Rx.low r : Int)

set_option maxRecDepth 100000 in
set_option maxHeartbeats 1000000 in
theorem first_any (g K r : Nat) (w : World) (hK : K ≤ 32) (hr : r < 2 ^ K) (h : BR w g K r) :
    Calls Tryd.prog 90 #[rowV g K] w fun e w' => e = .returned (.int .i64 (firstI r)) ∧ w' = w := by
  have HR : Hid _ := h
  unfold rowV
  go_enter Tryd.func90, Tryd.ntmps90
  go_wp2_with fail
  go_loop [3] (fun jv => ∃ j : Nat, jv = .int .i64 j ∧ j ≤ K ∧ ∀ i, i < j → r.testBit i = false) (fun jv => K - (intOf jv).toNat)
  case atStart => exact ⟨0, rfl, Nat.zero_le _, fun i hi => by omega⟩
  case round =>
    obtain ⟨j, rfl, hj, hb⟩ := hrel
    have HB : Hid _ := hb
    clear hb
    by_cases hjl : j < K
    · have g1 : decide ((j : Int) < (K : Int)) = true := by simp; omega
      have j0 : (0 : Int) ≤ (j : Int) := by omega
      have j1 : (j : Int) < (K : Int) := by omega
      have hc : w.cell? ⟨g, j, none⟩ = some (.bool (r.testBit j)) := World.rowIs.cell HR.out hjl
      cases hbj : r.testBit j with
      | true =>
        rw [hbj] at hc
        have hr0 : r ≠ 0 := fun e => by rw [e] at hbj; simp at hbj
        have hlow : Rx.low r = j := Rx.low_unique (Rx.lt32 hK hr) hbj HB.out
        have HE : Hid (firstI r = (j : Int)) := by unfold firstI; rw [Hid, if_neg hr0, hlow]
        clear hbj hlow
        go_wp2_with fail
        go_ret
        exact ⟨by rw [HE.out]; rfl, rfl⟩
      | false =>
        rw [hbj] at hc
        have HB2 : Hid (∀ i, i < j + 1 → r.testBit i = false) := fun i hi => by
          by_cases e : i = j
          · rw [e]; exact hbj
          · exact HB.out i (by omega)
        clear hbj
        go_wp2_with fail
        exact ⟨⟨j + 1, by go_num, by omega, HB2.out⟩, by simp [intOf]; omega⟩
    · obtain rfl : j = K := by omega
      have g1 : decide ((j : Int) < (j : Int)) = false := by simp
      have hr0 : r = 0 := by
        apply Nat.eq_of_testBit_eq
        intro i
        rw [Nat.zero_testBit]
        by_cases q : i < j
        · exact HB.out i q
        · exact Nat.testBit_lt_two_pow (Nat.lt_of_lt_of_le hr (Nat.pow_le_pow_right (by decide) (by omega)))
      go_wp2_with fail
      go_ret
      exact ⟨rfl, rfl⟩

set_option maxRecDepth 100000 in
set_option maxHeartbeats 1000000 in
theorem plus_any (g1 g2 K a b : Nat) (w : World) (hK : K ≤ 32) (h1 : BR w g1 K a) (h2 : BR w g2 K b) (ha : a < 2 ^ K) (hb : b < 2 ^ K) :
    Calls Tryd.prog 91 #[rowV g1 K, rowV g2 K] w fun e w' => ∃ g, e = .returned (rowV g K) ∧ w.heap.size ≤ g ∧ BR w' g K (a ^^^ b) ∧ Below w.heap.size w w' := by
  have hmk := fun w => run_make_row' (P := Tryd.prog) 76 4 (.bool false) 1 Tryd.underlying76 Tryd.infoBool rfl .i64 .i64 K (by omega) (by omega) w
  have H1 : Hid _ := h1
  have H2 : Hid _ := h2
  have hl1 := World.rowIs.lt h1
  have hl2 := World.rowIs.lt h2
  have HM : Hid ((w.alloc (.cells (madeCells #[.bool false] K) 4)).rowIs w.heap.size 4 K (fun j => .bool ((a ^^^ b).testBit j && decide (j < 0)))) := (World.rowIs_made w (.bool false) K 4).congr (fun i _ => by simp)
  have HBE : Hid (Below w.heap.size w (w.alloc (.cells (madeCells #[.bool false] K) 4))) := (Below.refl _ _).alloc (Nat.le_refl _) _
  clear h1 h2
  unfold rowV
  go_enter Tryd.func91, Tryd.ntmps91
  go_wp2_with fail
  generalize hg : w.heap.size = g at *
  generalize w.alloc (.cells (madeCells #[.bool false] K) 4) = w1 at *
  clear hmk
  go_loopw [6] (fun jv wr => ∃ j : Nat, jv = .int .i64 j ∧ j ≤ K ∧ wr.rowIs g 4 K (fun i => .bool ((a ^^^ b).testBit i && decide (i < j))) ∧ Below g w wr) (fun jv _ => K - (intOf jv).toNat)
  case atStart => exact ⟨0, rfl, Nat.zero_le _, HM.out, HBE.out⟩
  case round =>
    obtain ⟨j, rfl, hj, hrow, hbe⟩ := hrel
    clear HM HBE
    have HM : Hid _ := hrow
    have HBE : Hid _ := hbe
    by_cases hjl : j < K
    · have g1' : decide ((j : Int) < (K : Int)) = true := by simp; omega
      have j0 : (0 : Int) ≤ (j : Int) := by omega
      have j1 : (j : Int) < (K : Int) := by omega
      have c1 : wr.cell? ⟨g1, j, none⟩ = some (.bool (a.testBit j)) := (hbe.cell hl1).trans (World.rowIs.cell H1.out hjl)
      have c2 : wr.cell? ⟨g2, j, none⟩ = some (.bool (b.testBit j)) := (hbe.cell hl2).trans (World.rowIs.cell H2.out hjl)
      have c3 := hrow.cell hjl
      have c4 := hrow.frozen j
      have HS : Hid ((wr.setCell ⟨g, j, none⟩ (.bool ((a ^^^ b).testBit j))).rowIs g 4 K (fun i => .bool ((a ^^^ b).testBit i && decide (i < j + 1)))) := (hrow.set j (.bool ((a ^^^ b).testBit j))).congr (fun i _ => by
        by_cases e : i = j
        · subst e; simp
        · have : decide (i < j) = decide (i < j + 1) := by simp; omega
          simp [e, this])
      have HBS : Hid (Below g w (wr.setCell ⟨g, j, none⟩ (.bool ((a ^^^ b).testBit j)))) := hbe.setCell (Nat.le_refl _) _
      have hx : (a ^^^ b).testBit j = (a.testBit j != b.testBit j) := by rw [Nat.testBit_xor]
      rw [hx] at HS HBS
      generalize a.testBit j = ab at *
      generalize b.testBit j = bb at *
      clear hrow hbe hx
      go_wp2_with fail
      go_region
      go_wp2_with fail
      exact ⟨⟨j + 1, by go_num, by omega, HS.out.drew, HBS.out.drew⟩, by simp [intOf]; omega⟩
    · obtain rfl : j = K := by omega
      have g1' : decide ((j : Int) < (j : Int)) = false := by simp
      have HF : Hid (BR wr g j (a ^^^ b)) := hrow.congr (fun i hi => by simp [hi])
      clear hrow hbe HM
      go_wp2_with fail
      go_ret
      exact ⟨g, rfl, by omega, HF.out, by rw [hg]; exact HBE.out⟩
end Go.Proofs.YtfbbidaoljfloaaDoor
