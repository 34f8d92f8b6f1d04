import Derived.Test.YtfbbidaoljfloaaDoorV28
import Derived.Test.YtfbbidaoljfloaaDoorV29
import Derived.Test.YtfbbidaoljfloaaDoorRows
import Derived.ProofKit
import Derived.OpenShut
import Derived.ShutString
import Derived.ChangeOld
import Derived.SizedLaws
import Derived.Deep.Slices
import Derived.Carry
namespace Go.Proofs.YtfbbidaoljfloaaDoor
open Go.RowKit Go.MuLone

theorem flat7_len (C : Nat → List Value) (n : Nat) (h : ∀ i, i < n → (C i).length = 7) : ((List.range n).flatMap C).length = n * 7 := by
  induction n with
  | zero => rfl
  | succ n ih =>
    rw [List.range_succ, List.flatMap_append, List.length_append, ih (fun i hi => h i (by omega))]
    simp [h n (by omega)]
    omega

theorem flat7_get (C : Nat → List Value) (n : Nat) (h : ∀ i, i < n → (C i).length = 7) (i r : Nat) (hi : i < n) (hr : r < 7) : ((List.range n).flatMap C)[i * 7 + r]? = (C i)[r]? := by
  induction n with
  | zero => omega
  | succ n ih =>
    have hl := flat7_len C n (fun i hi => h i (by omega))
    rw [List.range_succ, List.flatMap_append]
    by_cases hin : i < n
    · rw [List.getElem?_append_left (by omega)]
      exact ih (fun i hi => h i (by omega)) hin
    · obtain rfl : i = n := by omega
      rw [List.getElem?_append_right (by omega), show i * 7 + r - ((List.range i).flatMap C).length = r by omega]
      simp

theorem take_one {cs : List Value} {i : Nat} {v : Value} (h : (cs.drop i).take 1 = [v]) : cs[i]? = some v := by
  have := congrArg (fun l : List Value => l[0]?) h
  simpa [List.getElem?_take, List.getElem?_drop] using this

/-- One step of a script, as its cells. -/
def IsOp (C : List Value) : Prop := ∃ (k a b m nonce mask : Int) (s : ByteArray), C = [.int .i64 k, .int .i64 a, .int .i64 b, .int .i64 m, .int .u64 nonce, .int .u32 mask, .string s] ∧ -9223372036854775808 ≤ a ∧ a ≤ 9223372036854775807 ∧ -9223372036854775808 ≤ b ∧ b ≤ 9223372036854775807 ∧ -9223372036854775808 ≤ m ∧ m ≤ 9223372036854775807 ∧ 0 ≤ mask ∧ mask ≤ 4294967295

set_option maxHeartbeats 400000 in
theorem all_of (v : Value) (w : World) (h : Calls Tryd.prog 13 #[v, .bool false] w fun e w' => e = .returned (.bool true) ∧ Below w.heap.size w w') :
    Calls Tryd.prog 12 #[v] w fun e w' => e = .returned (.bool true) ∧ Below w.heap.size w w' := by
  have H := hide h
  clear h
  go_enter Tryd.func12, Tryd.ntmps12
  go_wp2_with fail
  refine (unhide H).mono ?_
  rintro e w1 ⟨rfl, hb⟩
  go_wp2
  go_ret
  exact ⟨rfl, hb⟩

theorem all_some (x : Addr) (len cap : Nat) (C : Nat → List Value) (w : World) (ht : Tab w) (hlen : len ≤ 2199023255488) (hop : ∀ i, i < len → IsOp (C i)) (hc : ∀ i, i < len → ∀ r, r < 7 → w.cell? (x.add (i * 7 + r)) = (C i)[r]?) :
    Calls Tryd.prog 12 #[.slice (some x) len cap] w fun e w' => e = .returned (.bool true) ∧ Below w.heap.size w w' := by
  apply all_of
  by_cases h0 : len = 0
  · subst h0
    exact playsA_zero w ht x cap
  · have h7 : ∀ i, i < len → (C i).length = 7 := fun i hi => by obtain ⟨k, a, b, m, nonce, mask, s, e, _⟩ := hop i hi; rw [e]; rfl
    have hl := flat7_len C len h7
    have hat : ∀ j, j < len * 7 → ∃ i r, i < len ∧ r < 7 ∧ j = i * 7 + r := fun j hj => ⟨j / 7, j % 7, by omega, by omega, by omega⟩
    refine playsA_some len cap ((List.range len).flatMap C) w ht hlen (by omega) hl x ?_ ?_ ?_
    · intro j u hu
      obtain ⟨i, r, hi, hr, rfl⟩ := hat j (by have := (List.getElem?_eq_some_iff.1 hu).1; omega)
      rw [flat7_get C len h7 i r hi hr] at hu
      rw [hc i hi r hr]
      exact hu
    · intro u hu
      obtain ⟨i, hi, hm⟩ := List.mem_flatMap.1 hu
      obtain ⟨k, a, b, m, nonce, mask, s, e, _⟩ := hop i (by simpa using hi)
      rw [e] at hm
      simp at hm
      rcases hm with rfl | rfl | rfl | rfl | rfl | rfl | rfl <;> rfl
    · intro j hj
      obtain ⟨k, a, b, m, nonce, mask, s, e, q⟩ := hop j hj
      refine ⟨k, a, b, m, nonce, mask, s, ?_, ?_, ?_, ?_, ?_, ?_, ?_, q⟩
      · rw [show j * 7 = j * 7 + 0 from rfl, flat7_get C len h7 j 0 hj (by omega), e]; rfl
      · rw [flat7_get C len h7 j 1 hj (by omega), e]; rfl
      · rw [flat7_get C len h7 j 2 hj (by omega), e]; rfl
      · rw [flat7_get C len h7 j 3 hj (by omega), e]; rfl
      · rw [flat7_get C len h7 j 4 hj (by omega), e]; rfl
      · rw [flat7_get C len h7 j 5 hj (by omega), e]; rfl
      · rw [flat7_get C len h7 j 6 hj (by omega), e]; rfl

theorem cells3 : Tryd.prog.cellsOf 3 = 1 := by kernel_rfl
theorem cells22 : Tryd.prog.cellsOf 25 = 1 := by kernel_rfl
theorem cells23 : Tryd.prog.cellsOf 55 = 1 := by kernel_rfl
theorem cells9 : Tryd.prog.cellsOf 9 = 1 := by kernel_rfl
theorem cells41 : Tryd.prog.cellsOf 89 = 7 := by kernel_rfl
theorem bytes41 : Tryd.prog.bytesOf 89 = 64 := by kernel_rfl

end Go.Proofs.YtfbbidaoljfloaaDoor
