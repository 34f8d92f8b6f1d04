import Derived.Test.YtfbbidaoljfloaaDoorLF
import Derived.Test.YtfbbidaoljfloaaDoorV30
import Derived.SliceStrings
import Derived.SizedLaws
import Derived.Deep.Slices
namespace Go.Proofs.YtfbbidaoljfloaaDoor.LI
open Go.ChangeShapes Go.WideShapes Go.ChangeAt Go.RowKit Go.Deep

theorem laidOut : laidOutB Tryd.prog = true := by kernel_rfl

theorem seven {cs : List Value} {a b c d e f g : Value} (hl : cs.length = 7) (e0 : (cs.drop 0).take 1 = [a]) (e1 : (cs.drop 1).take 1 = [b])
    (e2 : (cs.drop 2).take 1 = [c]) (e3 : (cs.drop 3).take 1 = [d]) (e4 : (cs.drop 4).take 1 = [e]) (e5 : (cs.drop 5).take 1 = [f])
    (e6 : (cs.drop 6).take 1 = [g]) : cs = [a, b, c, d, e, f, g] := by
  match cs, hl with
  | [c0, c1, c2, c3, c4, c5, c6], _ =>
    simp at e0 e1 e2 e3 e4 e5 e6
    rw [e0, e1, e2, e3, e4, e5, e6]

/-- A step of a script, out of its reading. -/
theorem op_of {H : Type} {enc : TypeId × Value → H} {w : World} {base fuel : Nat} {spare : Nat → Bool} {held : Bool} {cs : List Value} {x : DataW H × List MemPlace}
    (h : DataW.trod enc Tryd.prog w base spare held fuel 89 cs = some x) : IsOp cs := by
  obtain ⟨xs, n, _, _, hlen, hxs, hf⟩ := DataW.trod_struct Tryd.underlying89 h
  rw [cells41] at hlen
  have hx7 : xs.length = 7 := by simpa using hxs
  have g : ∀ i, i < 7 → xs[i]? = some (xs.getD i (.nil, [])) := fun i hi => by
    rw [List.getD_eq_getElem?_getD, List.getElem?_eq_getElem (by omega)]; rfl
  have f0 : DataW.trod enc Tryd.prog w base spare held n 3 ((cs.drop 0).take (Tryd.prog.cellsOf 3)) = some _ := (hf 0 _ rfl).trans (g 0 (by omega))
  have f1 : DataW.trod enc Tryd.prog w base spare held n 3 ((cs.drop 1).take (Tryd.prog.cellsOf 3)) = some _ := (hf 1 _ rfl).trans (g 1 (by omega))
  have f2 : DataW.trod enc Tryd.prog w base spare held n 3 ((cs.drop 2).take (Tryd.prog.cellsOf 3)) = some _ := (hf 2 _ rfl).trans (g 2 (by omega))
  have f3 : DataW.trod enc Tryd.prog w base spare held n 3 ((cs.drop 3).take (Tryd.prog.cellsOf 3)) = some _ := (hf 3 _ rfl).trans (g 3 (by omega))
  have f4 : DataW.trod enc Tryd.prog w base spare held n 25 ((cs.drop 4).take (Tryd.prog.cellsOf 25)) = some _ := (hf 4 _ rfl).trans (g 4 (by omega))
  have f5 : DataW.trod enc Tryd.prog w base spare held n 55 ((cs.drop 5).take (Tryd.prog.cellsOf 55)) = some _ := (hf 5 _ rfl).trans (g 5 (by omega))
  have f6 : DataW.trod enc Tryd.prog w base spare held n 9 ((cs.drop 6).take (Tryd.prog.cellsOf 9)) = some _ := (hf 6 _ rfl).trans (g 6 (by omega))
  simp only [cells3, cells22, cells23, cells9] at f0 f1 f2 f3 f4 f5 f6
  obtain ⟨k, e0, _, _⟩ := DataW.trod_int Tryd.underlying3 f0
  obtain ⟨a, e1, _, w1⟩ := DataW.trod_int Tryd.underlying3 f1
  obtain ⟨b, e2, _, w2⟩ := DataW.trod_int Tryd.underlying3 f2
  obtain ⟨m, e3, _, w3⟩ := DataW.trod_int Tryd.underlying3 f3
  obtain ⟨nonce, e4, _, _⟩ := DataW.trod_int Tryd.underlying25 f4
  obtain ⟨mask, e5, _, w5⟩ := DataW.trod_int Tryd.underlying55 f5
  obtain ⟨s, e6, _, _⟩ := DataW.trod_string Tryd.underlying9 f6
  have wa : -9223372036854775808 ≤ a ∧ a ≤ 9223372036854775807 := by simpa [Lit.wf, IntKind.min, IntKind.max, IntKind.signed, IntKind.bits] using w1
  have wb : -9223372036854775808 ≤ b ∧ b ≤ 9223372036854775807 := by simpa [Lit.wf, IntKind.min, IntKind.max, IntKind.signed, IntKind.bits] using w2
  have wm : -9223372036854775808 ≤ m ∧ m ≤ 9223372036854775807 := by simpa [Lit.wf, IntKind.min, IntKind.max, IntKind.signed, IntKind.bits] using w3
  have wk : 0 ≤ mask ∧ mask ≤ 4294967295 := by simpa [Lit.wf, IntKind.min, IntKind.max, IntKind.signed, IntKind.bits] using w5
  refine ⟨k, a, b, m, nonce, mask, s, ?_, wa.1, wa.2, wb.1, wb.2, wm.1, wm.2, wk.1, wk.2⟩
  exact seven hlen e0 e1 e2 e3 e4 e5 e6

theorem all_main {H : Type} {enc : TypeId × Value → H} {W : World} {base : Nat} {held : Bool} {a0 : Option Addr} {len0 cap0 : Nat} {d : DataW H} {p : List MemPlace}
    (h : DataW.Trod enc Tryd.prog W base (fun _ => true) held 22 (.slice a0 len0 cap0) d p) (hb : ∀ n ∈ d.weights Tryd.prog 22, n ≤ reachBytes) (ht : Tab W) :
    Calls Tryd.prog 12 #[.slice a0 len0 cap0] W fun e w' => e = .returned (.bool true) ∧ Below W.heap.size W w' := by
  obtain ⟨fuel, hf⟩ := h
  rcases open_slice Tryd.underlying22 hf with ⟨hcs, hx⟩ | ⟨a, len, cap, m, n, D, Pl, hcs, _, hl, hm, hmm, hx, hel⟩
  · simp [Value.cells] at hcs
    obtain ⟨rfl, rfl, rfl⟩ := hcs
    exact all_of _ _ (playsA_nil W ht)
  · simp [Value.cells] at hcs
    obtain ⟨rfl, rfl, rfl⟩ := hcs
    have hd : d = .slice ((List.range len0).map D) ((List.range (m - len0)).map fun j => D (len0 + j)) := congrArg Prod.fst hx
    rw [hd] at hb
    simp only [DataW.weights, Tryd.underlying22] at hb
    have hb1 := hb _ (List.mem_cons_self ..)
    rw [bytes41] at hb1
    simp only [List.length_map, List.length_range, reachBytes] at hb1
    rw [cells41] at hel
    simp only [if_true] at hmm
    have hex : ∀ i, i < len0 → ∃ C : List Value, IsOp C ∧ ∀ r, r < 7 → W.cell? (a.add (i * 7 + r)) = C[r]? := fun i hi => by
      obtain ⟨cs', hc', ht'⟩ := hel i (by omega)
      obtain ⟨_, _, hcell⟩ := World.cells?_some hc'
      exact ⟨cs', op_of ht', fun r hr => by rw [← Go.Deep.add_add]; exact hcell r hr⟩
    obtain ⟨C, hC⟩ := choose_lt hex
    exact all_some a len0 cap0 C W ht (by omega) (fun i hi => (hC i hi).1) (fun i hi => (hC i hi).2)
end Go.Proofs.YtfbbidaoljfloaaDoor.LI
