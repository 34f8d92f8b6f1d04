import Derived.Test.YtfbbidaoljfloaaDoorLF
import Derived.Test.YtfbbidaoljfloaaDoorO2
import Derived.SliceStrings
import Derived.SizedLaws
import Derived.Deep.Slices
namespace Go.Proofs.YtfbbidaoljfloaaDoor.LI
open Go.ChangeShapes Go.WideShapes Go.ChangeAt Go.RowKit Go.Deep

theorem laidOut : laidOutB Tryd.prog = true := by kernel_rfl
theorem cellsS : Tryd.prog.cellsOf 9 = 1 := by kernel_rfl
theorem cellsN : Tryd.prog.cellsOf 3 = 1 := by kernel_rfl
theorem cellsU : Tryd.prog.cellsOf 25 = 1 := by kernel_rfl
theorem cellsItem : Tryd.prog.cellsOf 78 = 4 := by kernel_rfl
theorem bytesItem : Tryd.prog.bytesOf 78 = 40 := by kernel_rfl

theorem four {cs : List Value} {a b c d : Value} (hl : cs.length = 4) (e0 : (cs.drop 0).take 1 = [a]) (e1 : (cs.drop 1).take 1 = [b])
    (e2 : (cs.drop 2).take 1 = [c]) (e3 : (cs.drop 3).take 1 = [d]) : cs = [a, b, c, d] := by
  match cs, hl with
  | [c0, c1, c2, c3], _ =>
    simp at e0 e1 e2 e3
    rw [e0, e1, e2, e3]

/-- An item's cells. -/
def IsItem (cs : List Value) (x : Itm) : Prop := cs = [.int .i64 x.kind, .int .i64 x.a, .int .u64 x.nonce, .string x.data] ∧ -9223372036854775808 ≤ x.kind ∧ x.kind ≤ 9223372036854775807 ∧ -9223372036854775808 ≤ x.a ∧ x.a ≤ 9223372036854775807
theorem item_of {H : Type} {enc : TypeId × Value → H} {w : World} {base fuel : Nat} {spare : Nat → Bool} {held : Bool} {cs : List Value} {x : DataW H × List MemPlace}
    (h : DataW.trod enc Tryd.prog w base spare held fuel 78 cs = some x) : ∃ y, IsItem cs y := by
  obtain ⟨xs, n, _, _, hlen, hxs, hf⟩ := DataW.trod_struct Tryd.underlying78 h
  rw [cellsItem] at hlen
  have hx7 : xs.length = 4 := by simpa using hxs
  have g : ∀ i, i < 4 → xs[i]? = some (xs.getD i (.nil, [])) := fun i hi => by
    rw [List.getD_eq_getElem?_getD, List.getElem?_eq_getElem (by omega)]; rfl
  have f0 : DataW.trod enc Tryd.prog w base spare held n 3 ((cs.drop 0).take (Tryd.prog.cellsOf 3)) = some _ := (hf 0 _ rfl).trans (g 0 (by omega))
  have f1 : DataW.trod enc Tryd.prog w base spare held n 3 ((cs.drop 1).take (Tryd.prog.cellsOf 3)) = some _ := (hf 1 _ rfl).trans (g 1 (by omega))
  have f2 : DataW.trod enc Tryd.prog w base spare held n 25 ((cs.drop 2).take (Tryd.prog.cellsOf 25)) = some _ := (hf 2 _ rfl).trans (g 2 (by omega))
  have f3 : DataW.trod enc Tryd.prog w base spare held n 9 ((cs.drop 3).take (Tryd.prog.cellsOf 9)) = some _ := (hf 3 _ rfl).trans (g 3 (by omega))
  simp only [cellsN, cellsU, cellsS] at f0 f1 f2 f3
  obtain ⟨k, e0, _, w0⟩ := DataW.trod_int Tryd.underlying3 f0
  obtain ⟨a, e1, _, w1⟩ := DataW.trod_int Tryd.underlying3 f1
  obtain ⟨nonce, e2, _, _⟩ := DataW.trod_int Tryd.underlying25 f2
  obtain ⟨s, e3, _, _⟩ := DataW.trod_string Tryd.underlying9 f3
  have wk : -9223372036854775808 ≤ k ∧ k ≤ 9223372036854775807 := by simpa [Lit.wf, IntKind.min, IntKind.max, IntKind.signed, IntKind.bits] using w0
  have wa : -9223372036854775808 ≤ a ∧ a ≤ 9223372036854775807 := by simpa [Lit.wf, IntKind.min, IntKind.max, IntKind.signed, IntKind.bits] using w1
  exact ⟨⟨k, a, nonce, s⟩, four hlen e0 e1 e2 e3, wk.1, wk.2, wa.1, wa.2⟩

theorem choose_list {α : Type} {P : Nat → α → Prop} : ∀ n : Nat, (∀ i, i < n → ∃ x, P i x) → ∃ l : List α, l.length = n ∧ ∀ i x, l[i]? = some x → P i x := by
  intro n
  induction n with
  | zero => intro _; exact ⟨[], rfl, fun i x h => by simp at h⟩
  | succ n ih =>
    intro h
    obtain ⟨l, h1, h2⟩ := ih (fun i hi => h i (by omega))
    obtain ⟨x, hx⟩ := h n (by omega)
    refine ⟨l ++ [x], by simp [h1], fun i y hy => ?_⟩
    rcases get_snoc hy with q | ⟨rfl, rfl⟩
    · exact h2 i y q
    · rw [h1]; exact hx

theorem items_of {H : Type} {enc : TypeId × Value → H} {W : World} {base : Nat} {held : Bool} {a0 : Option Addr} {len0 cap0 : Nat} {d : DataW H} {p : List MemPlace}
    (h : DataW.Trod enc Tryd.prog W base (fun _ => true) held 75 (.slice a0 len0 cap0) d p) (hb : ∀ n ∈ d.weights Tryd.prog 75, n ≤ reachBytes) :
    ∃ zs : List Itm, len0 = zs.length ∧ ItemsIn W a0 zs := by
  obtain ⟨fuel, hf⟩ := h
  rcases open_slice Tryd.underlying75 hf with ⟨hcs, hx⟩ | ⟨a, len, cap, m, n, D, Pl, hcs, _, hl, hm, hmm, hx, hel⟩
  · simp [Value.cells] at hcs
    obtain ⟨rfl, rfl, rfl⟩ := hcs
    exact ⟨[], rfl, ⟨fun i x hx => by simp at hx, fun x hx => by simp at hx, by simp⟩⟩
  · simp [Value.cells] at hcs
    obtain ⟨rfl, rfl, rfl⟩ := hcs
    have hd : d = .slice ((List.range len0).map D) ((List.range (m - len0)).map fun j => D (len0 + j)) := congrArg Prod.fst hx
    rw [hd] at hb
    simp only [DataW.weights, Tryd.underlying75] at hb
    have hb1 := hb _ (List.mem_cons_self ..)
    rw [bytesItem] at hb1
    simp only [List.length_map, List.length_range, reachBytes] at hb1
    rw [cellsItem] at hel
    simp only [if_true] at hmm
    have hex : ∀ i, i < len0 → ∃ x : Itm, ∃ C : List Value, IsItem C x ∧ ∀ r, r < 4 → W.cell? (a.add (i * 4 + r)) = C[r]? := fun i hi => by
      obtain ⟨cs', hc', ht'⟩ := hel i (by omega)
      obtain ⟨_, _, hcell⟩ := World.cells?_some hc'
      obtain ⟨y, hy⟩ := item_of ht'
      exact ⟨y, cs', hy, fun r hr => by rw [← Go.Deep.add_add]; exact hcell r hr⟩
    obtain ⟨zs, hz1, hz2⟩ := choose_list len0 hex
    refine ⟨zs, hz1.symm, ⟨fun i x hx => ?_, fun x hx => ?_, by omega⟩⟩
    · obtain ⟨C, ⟨rfl, _⟩, hc⟩ := hz2 i x hx
      have c0 := hc 0 (by omega)
      have c1 := hc 1 (by omega)
      have c2 := hc 2 (by omega)
      have c3 := hc 3 (by omega)
      have hlt := World.block_lt_of_cell? W _ c0
      rw [show (a.add (i * 4 + 0)).block = a.block by unfold Addr.add; split <;> rfl] at hlt
      exact ⟨a, rfl, hlt, c0, c1, c2, c3⟩
    · obtain ⟨i, hi⟩ := List.getElem?_of_mem hx
      obtain ⟨C, ⟨_, q⟩, _⟩ := hz2 i x hi
      exact q
end Go.Proofs.YtfbbidaoljfloaaDoor.LI
