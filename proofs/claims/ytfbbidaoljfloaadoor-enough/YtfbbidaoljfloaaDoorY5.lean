import Derived.Test.YtfbbidaoljfloaaDoorY4
namespace Go.Proofs.YtfbbidaoljfloaaDoor
open Go.RowKit

/-- Whether a sum can be told of. -/
def canB (x1 x2 x3 blk : Nat) : Bool := decide (1 ≤ x1) && decide (x1 ≤ 500) && decide (blocksOf x2 blk ≤ 32) && !decide (x3 = 0) && decide (x3 < 2 ^ blocksOf x2 blk)

set_option maxRecDepth 100000 in
set_option maxHeartbeats 800000 in
theorem canBe_any (x1 x2 x3 blk : Nat) (sl : Value) (w : World) (_hv : sl.oneCell' = true) (h1 : 1 ≤ blk) (h2 : blk ≤ 32) (b1 : x1 < 65536) (b2 : x2 < 65536) (b3 : x3 < 4294967296) :
    Calls Tryd.prog 46 #[.agg #[.int .i64 x1, .int .i64 x2, .int .u32 x3, sl], .int .i64 blk] w fun e w' => e = .returned (.bool (canB x1 x2 x3 blk)) ∧ Below w.heap.size w w' := by
  have HE : Hid (canB x1 x2 x3 blk = (decide (1 ≤ x1) && decide (x1 ≤ 500) && decide (blocksOf x2 blk ≤ 32) && !decide (x3 = 0) && decide (x3 < 2 ^ blocksOf x2 blk))) := rfl
  have HBl : Hid (∀ w, Calls Tryd.prog 72 #[.int .i64 x2, .int .i64 blk] w fun e w' => e = .returned (.int .i64 (blocksOf x2 blk)) ∧ w' = w) := fun w => blockCount_any x2 blk w h1 h2 (by omega)
  generalize blocksOf x2 blk = K at *
  have HD : Hid (((x3 : Int) / 2 ^ K == 0) = decide (x3 < 2 ^ K)) := by
    rw [Hid, show (x3 : Int) / 2 ^ K = ((x3 / 2 ^ K : Nat) : Int) by simp, Bool.eq_iff_iff]
    simp
    rw [show ((0 : Int) = ((0 : Nat) : Int)) from rfl]
    have hp : 0 < 2 ^ K := Nat.two_pow_pos K
    constructor
    · intro h
      have : x3 / 2 ^ K = 0 := by
        have e : ((x3 / 2 ^ K : Nat) : Int) = 0 := by simpa using h
        omega
      exact (Nat.div_eq_zero_iff_lt hp).1 this
    · intro h
      have e : x3 / 2 ^ K = 0 := (Nat.div_eq_zero_iff_lt hp).2 h
      have e2 : ((x3 / 2 ^ K : Nat) : Int) = 0 := by omega
      simpa using e2
  go_enter Tryd.func46, Tryd.ntmps46
  go_wp2_with fail
  refine (HBl.out _).mono ?_
  rintro e w1 ⟨rfl, rfl⟩
  go_wp2_with fail
  all_goals
    go_ret
    refine ⟨ret_bool ?_, (Below.refl _ _).alloc (Nat.le_refl _) _⟩
    rw [HE.out]
    try rw [HD.out]
    clear HE HD HBl
    generalize 2 ^ K = p at *
    rw [Bool.eq_iff_iff]
    simp
    try omega

/-- The frame that says that an object is done. -/
def doneBody (num blk : Nat) : List Nat := [2] ++ leBytes 1 blk ++ leBytes 2 num
def doneB (num blk : Nat) : List Nat := doneBody num blk ++ leBytes 4 (crc (doneBody num blk))
theorem doneB_len (num blk : Nat) : (doneB num blk).length = 8 := by simp [doneB, doneBody, leBytes_len]

set_option maxRecDepth 100000 in
set_option maxHeartbeats 800000 in
theorem doneText_any (num blk : Nat) (w : World) (h1 : num < 65536) (h2 : blk ≤ 32) :
    Calls Tryd.prog 48 #[.int .i64 num, .int .i64 blk] w fun e w' => e = .returned (.string (strOf (doneB num blk))) ∧ Below w.heap.size w w' := by
  have hD : ∀ w, Calls Tryd.prog 81 #[.agg #[.int .i64 num, .int .i64 blk]] w fun e w' => e = .returned (.string (strOf (doneB num blk))) ∧ Below w.heap.size w w' := by
    intro w
    go_enter Tryd.func81, Tryd.ntmps81
    go_wp2_with fail
    have hb1 : Bytes ((w.alloc (.cells #[.int .i64 num, .int .i64 blk] 172)).alloc (.cells #[.int .u8 2] 5)) (w.heap.size + 1) 1 1 [2] :=
      ⟨⟨rfl, .inr ⟨w.heap.size + 1, 1, #[.int .u8 2], rfl, Nat.zero_le _, heap_alloc2_new _ _ _, Nat.le_refl _, by decide, rfl, rfl⟩⟩, rfl, by simp⟩
    have t1 : TextSt w (.cells #[.int .i64 num, .int .i64 blk] 172) ((w.alloc (.cells #[.int .i64 num, .int .i64 blk] 172)).alloc (.cells #[.int .u8 2] 5)) (w.heap.size + 1) :=
      ⟨((Turn.refl [] w).alloc _).alloc _, heap_alloc2_old _ _ _, Nat.le_refl _⟩
    refine (appendNumber_any (w.heap.size + 1) 1 1 1 blk [2] _ hb1 (by omega) (by omega) (by omega)).mono ?_
    rintro e w2 ⟨g2, c2, rfl, ht2, hb2, hg2⟩
    have t2 := t1.next ht2 hg2
    have k21 : w2.cell? ⟨w.heap.size, 0, none⟩ = some (.int .i64 num) := by rw [cell_of_row _ _ _ _ _ _ t2.hA]; rfl
    clear hb1 t1 ht2 hg2
    go_wp2_with fail
    refine (appendNumber_any g2 2 c2 2 num _ _ hb2 (by omega) (by omega) (by omega)).mono ?_
    rintro e w3 ⟨g3, c3, rfl, ht3, hb3, hg3⟩
    have t3 := t2.next ht3 hg3
    clear hb2 t2 ht3 hg3 k21
    go_wp2_with fail
    refine (seal_any g3 4 c3 _ _ hb3 (by omega)).mono ?_
    rintro e w6 ⟨rfl, ht6⟩
    have t6 := t3.next ht6 (.inl rfl)
    go_wp2
    go_ret
    exact ⟨rfl, t6.turn.toBelow (Nat.le_refl _) (by simp)⟩
  go_enter Tryd.func48, Tryd.ntmps48
  go_wp2_with fail
  refine (hD _).mono ?_
  rintro e w1 ⟨rfl, hb⟩
  go_wp2
  go_ret
  exact ⟨rfl, hb⟩

end Go.Proofs.YtfbbidaoljfloaaDoor
