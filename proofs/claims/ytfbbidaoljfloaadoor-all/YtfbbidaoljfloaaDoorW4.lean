import Derived.Test.YtfbbidaoljfloaaDoorJ3
import Derived.Test.YtfbbidaoljfloaaDoorW3
import Derived.Deep.QuietTactic
import Derived.BigQuiet
namespace Go.Proofs.YtfbbidaoljfloaaDoor
open Go.RowKit Go.Deep

set_option maxHeartbeats 400000 in
theorem num_any (n : Int) (w : World) : Calls Tryd.prog 56 #[.int .i64 n] w fun e w' => e = .returned (.int .i64 n) ∧ w' = w := by
  go_enter Tryd.func56, Tryd.ntmps56
  go_wp2
  go_ret
  exact ⟨rfl, rfl⟩

set_option maxHeartbeats 400000 in
theorem rows_bad (nonce blocks id : Int) (w : World) (h : ¬ (1 ≤ blocks ∧ blocks ≤ 32 ∧ 0 ≤ id ∧ id < 1048576)) :
    Calls Tryd.prog 33 #[.int .u64 nonce, .int .i64 blocks, .int .i64 id] w fun e w' => e = .returned (.bool true) ∧ Below w.heap.size w w' := by
  have H : Hid (¬ (1 ≤ blocks ∧ blocks ≤ 32 ∧ 0 ≤ id ∧ id < 1048576)) := h
  clear h
  have hnot : ∀ (x : Bool) (w : World), (Op.unary .not (.bool x)).run Tryd.prog w = .ok (.bool (!x)) w := fun _ _ => rfl
  go_enter Tryd.func33, Tryd.ntmps33
  go_wp2_with fail
  refine (row_bad nonce blocks id _ H.out).mono ?_
  rintro e w1 ⟨rfl, rfl⟩
  go_wp2_with fail
  refine (refRow_bad nonce blocks id _ H.out).mono ?_
  rintro e w2 ⟨rfl, rfl⟩
  go_wp2
  go_ret
  exact ⟨rfl, Below.refl _ _⟩

set_option maxHeartbeats 400000 in
theorem rows_good (nonce id : Int) (K : Nat) (w : World) (hK : 1 ≤ K) (hK2 : K ≤ 32) (hi0 : 0 ≤ id) (hi1 : id < 1048576) :
    Calls Tryd.prog 33 #[.int .u64 nonce, .int .i64 K, .int .i64 id] w fun e w' => e = .returned (.bool true) ∧ Below w.heap.size w w' := by
  have hnot : ∀ (x : Bool) (w : World), (Op.unary .not (.bool x)).run Tryd.prog w = .ok (.bool (!x)) w := fun _ _ => rfl
  have hlt := Dz.rowOf_lt nonce K id hK
  go_enter Tryd.func33, Tryd.ntmps33
  go_wp2_with fail
  refine (row_any nonce id K _ hK hK2 hi0 hi1).mono ?_
  rintro e w1 ⟨rfl, hb1⟩
  go_wp2_with fail
  refine (refRow_any nonce id K _ hK hK2 hi0 hi1).mono ?_
  rintro e w2 ⟨rfl, hb2, hrow⟩
  go_wp2_with fail
  refine (number_row (Dz.rowOf nonce K id) K w1.heap.size _ hK2 hlt hrow).mono ?_
  rintro e w3 ⟨rfl, hw3⟩
  subst hw3
  go_wp2
  go_ret
  exact ⟨rfl, hb1.trans (hb2.mono hb1.size)⟩

theorem rows_any (nonce blocks id : Int) (w : World) :
    Calls Tryd.prog 33 #[.int .u64 nonce, .int .i64 blocks, .int .i64 id] w fun e w' => e = .returned (.bool true) ∧ Below w.heap.size w w' := by
  by_cases h : 1 ≤ blocks ∧ blocks ≤ 32 ∧ 0 ≤ id ∧ id < 1048576
  · obtain ⟨h1, h2, h3, h4⟩ := h
    obtain ⟨K, rfl⟩ := Int.eq_ofNat_of_zero_le (show 0 ≤ blocks by omega)
    exact rows_good nonce id K w (by omega) (by omega) h3 h4
  · exact rows_bad nonce blocks id w h

end Go.Proofs.YtfbbidaoljfloaaDoor
