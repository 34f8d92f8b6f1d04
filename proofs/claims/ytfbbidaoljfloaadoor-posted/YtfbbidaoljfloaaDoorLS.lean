import Derived.Test.YtfbbidaoljfloaaDoorLF
import Derived.Test.YtfbbidaoljfloaaDoorQ1
import Derived.SliceStrings
import Derived.SizedLaws
import Derived.Deep.Slices
namespace Go.Proofs.YtfbbidaoljfloaaDoor.LI
open Go.ChangeShapes Go.WideShapes Go.ChangeAt Go.RowKit

theorem laidOut : laidOutB Tryd.prog = true := by kernel_rfl
theorem cellsS : Tryd.prog.cellsOf 9 = 1 := by kernel_rfl
theorem bytesS : Tryd.prog.bytesOf 9 = 16 := by kernel_rfl

theorem addr_block2 (a : Addr) (i : Nat) : (a.add i).block = a.block := by unfold Addr.add; split <;> rfl
theorem weights_strs {H : Type} (e : TypeId) (l : List ByteArray) : ∀ s ∈ l, s.size ∈ DataW.weightsAll (H := H) Tryd.prog e (strs l) := by
  induction l with
  | nil => intro s hs; cases hs
  | cons t l ih =>
    intro s hs
    show s.size ∈ DataW.weights Tryd.prog e (.lit (.string t.data.toList)) ++ DataW.weightsAll Tryd.prog e (strs l)
    rcases List.mem_cons.1 hs with rfl | q
    · refine List.mem_append_left _ ?_
      show s.size ∈ [s.data.toList.length]
      exact List.mem_singleton.2 (by rw [Array.length_toList]; rfl)
    · exact List.mem_append_right _ (ih s q)

theorem strs_of {H : Type} {enc : TypeId × Value → H} {W : World} {base : Nat} {spare : Nat → Bool} {held : Bool} {a0 : Option Addr} {len0 cap0 : Nat} {d : DataW H} {p : List MemPlace}
    (h : DataW.Trod enc Tryd.prog W base spare held 38 (.slice a0 len0 cap0) d p) (hb : ∀ n ∈ d.weights Tryd.prog 38, n ≤ reachBytes) :
    ∃ zs : List ByteArray, len0 = zs.length ∧ TextsIn W a0 zs := by
  obtain ⟨fuel, hf⟩ := h
  rcases open_strings Tryd.underlying38 Tryd.underlying9 cellsS hf with ⟨hcs, hx⟩ | ⟨a, len, cap, zs, hcs, _, hl, hm, hzl, hx, hcell, hwf⟩
  · simp [Value.cells] at hcs
    obtain ⟨rfl, rfl, rfl⟩ := hcs
    exact ⟨[], rfl, ⟨fun i x hx => by simp at hx, fun x hx => by simp at hx, by simp⟩⟩
  · simp [Value.cells] at hcs
    obtain ⟨rfl, rfl, rfl⟩ := hcs
    have hd : d = .slice (strs (zs.take len0)) (strs (zs.drop len0)) := congrArg Prod.fst hx
    have hlz : len0 ≤ zs.length := by rw [hzl]; split <;> omega
    rw [hd] at hb
    simp only [DataW.weights, Tryd.underlying38] at hb
    have hb1 := hb _ (List.mem_cons_self ..)
    have hb2 : ∀ s ∈ zs.take len0, s.size ≤ reachBytes := fun s hs => hb _ (List.mem_cons_of_mem _ (List.mem_append_left _ (weights_strs _ _ s hs)))
    rw [bytesS] at hb1
    simp only [strs, List.length_map, List.length_take, List.length_drop, reachBytes] at hb1
    refine ⟨zs.take len0, by simp; omega, ⟨fun i x hx => ?_, fun x hx => ?_, by simp; omega⟩⟩
    · have hi : i < len0 := by have := (List.getElem?_eq_some_iff.1 hx).1; simp at this; omega
      rw [List.getElem?_take, if_pos hi] at hx
      have hc := hcell i (by omega)
      rw [List.getD_eq_getElem?_getD, hx] at hc
      have hlt := World.block_lt_of_cell? W _ hc
      rw [addr_block2] at hlt
      exact ⟨a, rfl, hlt, hc⟩
    · have := hb2 x hx
      simp only [reachBytes] at this
      omega
end Go.Proofs.YtfbbidaoljfloaaDoor.LI
