import Derived.Test.YtfbbidaoljfloaaDoorY16
namespace Go.Proofs.YtfbbidaoljfloaaDoor
open Go.RowKit Go.MuLone

def sendB (l : List Thing) (en : Nat) : Bool := match l[en]? with | some o => o.st == 2 | none => false

set_option maxRecDepth 100000 in
set_option maxHeartbeats 800000 in
theorem sending_any (bs : Nat) (blk bud : Int) (sl : Option Addr) (n cap en : Nat) (l : List Thing) (w : World) (hs : HeldAt w bs blk bud (.slice sl n cap) en) (h : Things w 110 sl n cap l) (hen : en ≤ n) (hn : n ≤ 500) :
    Calls Tryd.prog 49 #[.pointer (some ⟨bs, 0, none⟩)] w fun e w' => e = .returned (.bool (sendB l en)) ∧ ∃ m, w' = w.drewN m := by
  obtain ⟨s0, s2, s3, s4, s5, sf, slt⟩ := hs.cellsAt
  clear hs
  by_cases hlt : en < n
  · obtain ⟨g, o, hsl, ho, c0, c1, c2, c3, hfz⟩ := h.at hlt
    subst hsl
    have HO : Hid (sendB l en = (o.st == 2)) := by rw [Hid, sendB, ho]
    have q1 : decide (en < n) = true := by simpa using hlt
    have k0 : (0 : Int) ≤ (en : Int) := by omega
    have k1 : (en : Int) < (n : Int) := by omega
    clear ho
    go_enter Tryd.func49, Tryd.ntmps49
    go_wp2_with fail
    go_quiet (fail)
    go_wp2_with fail
    go_ret
    refine ⟨?_, nq, rfl⟩
    rw [HO.out]
    rfl
  · obtain rfl : en = n := by omega
    have q1 : decide (en < en) = false := by simp
    have HE : Hid (sendB l en = false) := by rw [Hid, sendB, List.getElem?_eq_none (by have := h.len; omega)]
    go_enter Tryd.func49, Tryd.ntmps49
    go_wp2_with fail
    go_quiet (fail)
    go_wp2_with fail
    go_ret
    refine ⟨?_, nq, rfl⟩
    rw [HE.out]
    rfl

theorem sending_as (b : Bool) (bs : Nat) (blk bud : Int) (sl : Option Addr) (n cap en : Nat) (l : List Thing) (w : World) (hb : sendB l en = b) (hs : HeldAt w bs blk bud (.slice sl n cap) en) (h : Things w 110 sl n cap l) (hen : en ≤ n) (hn : n ≤ 500) :
    Calls Tryd.prog 49 #[.pointer (some ⟨bs, 0, none⟩)] w fun e w' => e = .returned (.bool b) ∧ ∃ m, w' = w.drewN m := by
  rw [← hb]
  exact sending_any bs blk bud sl n cap en l w hs h hen hn

/-- What a sender makes of a text. -/
def SV.handle (S : SV) (bs : List Nat) : SV := match S.l[S.en]? with | some o => if o.st = 2 ∧ bs = doneB (S.en + 1) S.blk then S.done 3 o else S | none => S

theorem doneB_lt (num blk : Nat) : ∀ b ∈ doneB num blk, b < 256 := by
  intro b hb
  simp only [doneB, doneBody, List.mem_append, List.mem_singleton] at hb
  rcases hb with ((q | q) | q) | q
  · omega
  · exact leBytes_lt _ _ b q
  · exact leBytes_lt _ _ b q
  · exact leBytes_lt _ _ b q

theorem HeldAt.below {w w' : World} {bs : Nat} {blk bud : Int} {pv : Value} {en : Int} (h : HeldAt w bs blk bud pv en) (hb : Below w.heap.size w w') : HeldAt w' bs blk bud pv en := HeldAt.turn (S := []) h (Turn.below hb (Nat.le_refl _)) (by simp)

set_option maxRecDepth 100000 in
set_option maxHeartbeats 1600000 in
theorem handleS_not (bs : Nat) (sl : Option Addr) (cap : Nat) (S : SV) (text : ByteArray) (w : World) (h : Send w bs sl cap S) (hv : SVOk S) (hnot : sendB S.l S.en = false) :
    Calls Tryd.prog 21 #[.pointer (some ⟨bs, 0, none⟩), .string text] w fun e w' => e = .returned (.tuple #[]) ∧ SAft w w' bs sl sl cap S := by
  obtain ⟨s0, s2, s3, s4, s5, sf, slt⟩ := h.at_.cellsAt
  have hA := h.at_.held
  have hth : Things (w.setCell ⟨bs, 0, none⟩ (.int .i32 1)) 110 sl S.l.length cap S.l := h.things.turn ((Turn.refl [bs] w).setCell (.inl (by simp)) _) (fun k hk => by simp; exact fun e => h.ne (by rw [hk, e]))
  have HA : Hid _ := hA
  have HH : Hid _ := h
  have HT : Hid _ := hth
  clear hA h hth
  go_enter_defers Tryd.func21, Tryd.ntmps21
  go_wp2_with fail
  refine (lock_free muLib ⟨bs, 0, none⟩ _ s0 (sf _)).mono ?_
  rintro e w1 ⟨rfl, rfl⟩
  go_wp2_with fail
  have HQ : Hid (∀ n, Calls Tryd.prog 49 #[.pointer (some ⟨bs, 0, none⟩)] ((w.setCell ⟨bs, 0, none⟩ (.int .i32 1)).drewN n) fun e w' => e = .returned (.bool false) ∧ ∃ m, w' = ((w.setCell ⟨bs, 0, none⟩ (.int .i32 1)).drewN n).drewN m) := fun n =>
    sending_as false bs S.blk S.bud sl S.l.length cap S.en S.l _ hnot HA.out ⟨HT.out.owns, HT.out.len⟩ hv.le hv.n5
  go_quiet ((go_at_call 49; exact Calls.quiet_of (HQ.out _)))
  go_wp2_with fail
  have hA2 : HeldAt ((w.setCell ⟨bs, 0, none⟩ (.int .i32 1)).drewN nq) bs S.blk S.bud (.slice sl S.l.length cap) S.en := HA.out
  obtain ⟨z0, _, _, _, _, zf, _⟩ := hA2.cellsAt
  refine leaves_cons (f := 40) (args := #[.pointer (some ⟨bs, 0, none⟩)]) (by simp) (by simp [go_sem]) ?_
  refine (unlock_deferred muLib ⟨bs, 0, none⟩ .returning _ z0 (zf _)).mono ?_
  rintro e u' w'' ⟨rfl, rfl, rfl⟩
  have hTT : Turn [bs] w (((w.setCell ⟨bs, 0, none⟩ (.int .i32 1)).drewN nq).setCell ⟨bs, 0, none⟩ (.int .i32 0)) := (((Turn.refl [bs] w).setCell (.inl (by simp)) _).drewN nq).setCell (.inl (by simp)) _
  exact ⟨_, results_none rfl _ _ _, rfl, ⟨hA2.free, HH.out.things.turn hTT (fun k hk => by simp; intro e; exact HH.out.ne (by rw [hk, e])), HH.out.ne⟩, hTT.mono (by simp [sfoot]), fun g hg => .inl hg⟩

end Go.Proofs.YtfbbidaoljfloaaDoor
