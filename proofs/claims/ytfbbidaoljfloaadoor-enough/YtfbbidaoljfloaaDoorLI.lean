import Derived.Test.YtfbbidaoljfloaaDoorLF
import Derived.Test.YtfbbidaoljfloaaDoorE4
import Derived.SliceStrings
import Derived.SizedLaws
import Derived.Deep.Slices
namespace Go.Proofs.YtfbbidaoljfloaaDoor.LI
open Go.ChangeShapes Go.WideShapes Go.ChangeAt Go.RowKit

theorem laidOut : laidOutB Tryd.prog = true := by kernel_rfl
theorem cellsI : Tryd.prog.cellsOf 3 = 1 := by kernel_rfl
theorem bytesI : Tryd.prog.bytesOf 3 = 8 := by kernel_rfl

theorem ints_of {H : Type} {enc : TypeId × Value → H} {W : World} {base : Nat} {spare : Nat → Bool} {held : Bool} {a0 : Option Addr} {len0 cap0 : Nat} {d : DataW H} {p : List MemPlace}
    (h : DataW.Trod enc Tryd.prog W base spare held 52 (.slice a0 len0 cap0) d p) (hb : ∀ elems sp, d = .slice elems sp → (elems.length + sp.length) * Tryd.prog.bytesOf 3 ≤ reachBytes) :
    ∃ zs : List Int, len0 = zs.length ∧ Ints W a0 zs := by
  obtain ⟨fuel, hf⟩ := h
  rcases open_ints Tryd.underlying52 Tryd.underlying3 cellsI hf with ⟨hcs, hx⟩ | ⟨a, len, cap, zs, hcs, _, hl, hm, hzl, hx, hcell, hwf⟩
  · simp [Value.cells] at hcs
    obtain ⟨rfl, rfl, rfl⟩ := hcs
    exact ⟨[], rfl, ⟨fun i x hx => by simp at hx, fun x hx => by simp at hx, by simp⟩⟩
  · simp [Value.cells] at hcs
    obtain ⟨rfl, rfl, rfl⟩ := hcs
    have hd : d = .slice (lits .i64 (zs.take len0)) (lits .i64 (zs.drop len0)) := congrArg Prod.fst hx
    have hb2 := hb _ _ hd
    have hlz : len0 ≤ zs.length := by rw [hzl]; split <;> omega
    rw [bytesI] at hb2
    simp only [lits, List.length_map, List.length_take, List.length_drop, reachBytes] at hb2
    refine ⟨zs.take len0, by simp; omega, ⟨fun i x hx => ?_, fun x hx => ?_, by simp; omega⟩⟩
    · have hi : i < len0 := by have := (List.getElem?_eq_some_iff.1 hx).1; simp at this; omega
      rw [List.getElem?_take, if_pos hi] at hx
      have hc := hcell i (by omega)
      rw [List.getD_eq_getElem?_getD, hx] at hc
      have hlt := World.block_lt_of_cell? W _ hc
      rw [addr_block] at hlt
      exact ⟨a, rfl, hlt, hc⟩
    · have := hwf x (List.mem_of_mem_take hx)
      simpa [Lit.wf, IntKind.min, IntKind.max, IntKind.signed, IntKind.bits] using this
end Go.Proofs.YtfbbidaoljfloaaDoor.LI
