import Derived.Test.YtfbbidaoljfloaaDoorY14
namespace Go.Proofs.YtfbbidaoljfloaaDoor
open Go.RowKit Go.MuLone

/-- A receiver to which nothing has come. -/
def RV.fresh (blk : Nat) : RV := ⟨blk, 0, 0, 0, 0, emptyS, 0, fun _ => false, []⟩
def RC.fresh (blk : Nat) : RC := ⟨0, blk, 0, 0, 0, 0, fun _ => 0, fun _ => .slice none 0 0, 0, fun _ => false, .slice none 0 0⟩

theorem RC.arr_set (R R' : RC) (j : Nat) (v : Value) (hR : ∀ i, i < 574 → R'.cell i = if i = j then v else R.cell i) : R.arr.setIfInBounds j v = R'.arr := by
  apply Array.ext
  · rw [Array.size_setIfInBounds, R.arr_size, R'.arr_size]
  · intro i h1 h2
    rw [R'.arr_size] at h2
    have e1 : (R'.arr)[i]? = some (R'.cell i) := R'.arr_get h2
    have e2 : (R.arr)[i]? = some (R.cell i) := R.arr_get h2
    have e3 : (R.arr.setIfInBounds j v)[i]? = some (R'.cell i) := by
      rw [hR i h2]
      by_cases hi : i = j
      · subst hi
        rw [Array.getElem?_setIfInBounds_self_of_lt (by rw [R.arr_size]; exact h2), if_pos rfl]
      · rw [Array.getElem?_setIfInBounds_ne (fun q => hi q.symm), e2, if_neg hi]
    exact ((Array.getElem?_eq_some_iff.1 e3).2).trans ((Array.getElem?_eq_some_iff.1 e1).2).symm

theorem zero_arr : Tryd.zeroCells123 = (RC.fresh 0).arr := by kernel_rfl
theorem fresh_arr (blk : Nat) : (Tryd.zeroCells123).setIfInBounds 2 (.int .i64 blk) = (RC.fresh blk).arr := by
  rw [zero_arr]
  exact RC.arr_set _ _ 2 _ (fun i _ => by by_cases hi : i = 2 <;> simp [RC.cell, RC.fresh, hi])

theorem fresh_ok (blk : Nat) (h1 : 1 ≤ blk) (h2 : blk ≤ 32) : RVOk (RV.fresh blk) :=
  ⟨h1, h2, Nat.zero_le _, Nat.zero_le _, emptyS_ok _ _, (emptyS_cnt _).symm, fun h => absurd h (by show ¬ 1 ≤ 0; omega), Nat.zero_le _, rfl⟩

theorem fresh_recv (blk : Nat) (w : World) (br : Nat) (h : w.heap[br]? = some (.cells (RC.fresh blk).arr 123 (0, 0))) : Recv w br (RC.fresh blk) (RV.fresh blk) ∧ (RC.fresh blk).foot br = [br] ∧ (RC.fresh blk).lk = 0 := by
  have hbl : (RC.fresh blk).blocks = [] := by
    rw [List.eq_nil_iff_forall_not_mem]
    intro g hg
    obtain ⟨j, _, e⟩ := RC.mem_blocks.1 hg
    cases e
  refine ⟨⟨⟨h, fun j _ => rfl, fun j _ => .inl ⟨rfl, rfl⟩, fun i j g _ _ _ e => by cases e⟩, rfl, rfl, rfl, rfl, rfl, rfl, rfl, World.ownsRow_nil _ _ _ _, (fun e => by cases e), by rw [hbl]; simp⟩, ?_, rfl⟩
  unfold RC.foot
  rw [hbl]
  rfl

set_option maxRecDepth 100000 in
set_option maxHeartbeats 800000 in
theorem newReceiver_good (b : Nat) (c : Int) (w : World) (h : goodB b c = true) :
    Calls Tryd.prog 31 #[.agg #[.int .i64 b, .int .i64 c]] w fun e w' => ∃ br, e = .returned (.tuple #[.pointer (some ⟨br, 0, none⟩), .int .i64 0]) ∧ Below w.heap.size w w' ∧ w.heap.size ≤ br ∧ Recv w' br (RC.fresh b) (RV.fresh b) := by
  have hnot := notOp
  go_enter Tryd.func31, Tryd.ntmps31
  go_wp2_with fail
  refine (valid_any b c _).mono ?_
  rintro e w1 ⟨rfl, hb1⟩
  rw [h]
  obtain ⟨hc, hf⟩ := bcell hb1
  go_wp2_with fail
  have hs := hb1.size
  simp at hs
  go_ret2
  refine ⟨w1.heap.size, rfl, (((Below.refl _ _).alloc (Nat.le_refl _) _).trans (hb1.mono (by simp))).alloc (by omega) _, by omega, ?_⟩
  refine (fresh_recv b _ _ ?_).1
  rw [← fresh_arr]
  exact heap_alloc_new w1 _

end Go.Proofs.YtfbbidaoljfloaaDoor
