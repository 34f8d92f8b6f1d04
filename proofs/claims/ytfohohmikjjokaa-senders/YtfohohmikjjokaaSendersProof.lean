import Derived.Test.YtfohohmikjjokaaG5
namespace Go.Proofs.Ytfohohmikjjokaa.sendersP
open Go.ChangeShapes Go.WideShapes Go.ChangeAt Go.RowKit Go.Deep

theorem own : ownKnob Try.prog.godebug = none := by kernel_rfl
theorem laidOut : laidOutB Try.prog = true := by kernel_rfl

theorem seven {cs : List Value} {a b c d e f g : Value} (hl : cs.length = 7) (e0 : (cs.drop 0).take 1 = [a]) (e1 : (cs.drop 1).take 1 = [b])
    (e2 : (cs.drop 2).take 1 = [c]) (e3 : (cs.drop 3).take 1 = [d]) (e4 : (cs.drop 4).take 1 = [e]) (e5 : (cs.drop 5).take 1 = [f])
    (e6 : (cs.drop 6).take 1 = [g]) : cs = [a, b, c, d, e, f, g] := by
  match cs, hl with
  | [c0, c1, c2, c3, c4, c5, c6], _ =>
    simp at e0 e1 e2 e3 e4 e5 e6
    rw [e0, e1, e2, e3, e4, e5, e6]

/-- A step of a script, out of its reading. -/
theorem op_of {H : Type} {enc : TypeId × Value → H} {w : World} {base fuel : Nat} {spare : Nat → Bool} {held : Bool} {cs : List Value} {x : DataW H × List MemPlace}
    (h : DataW.trod enc Try.prog w base spare held fuel 41 cs = some x) : IsOp cs := by
  obtain ⟨xs, n, _, _, hlen, hxs, hf⟩ := DataW.trod_struct Try.underlying41 h
  rw [cells41] at hlen
  have hx7 : xs.length = 7 := by simpa using hxs
  have g : ∀ i, i < 7 → xs[i]? = some (xs.getD i (.nil, [])) := fun i hi => by
    rw [List.getD_eq_getElem?_getD, List.getElem?_eq_getElem (by omega)]; rfl
  have f0 : DataW.trod enc Try.prog w base spare held n 3 ((cs.drop 0).take (Try.prog.cellsOf 3)) = some _ := (hf 0 _ rfl).trans (g 0 (by omega))
  have f1 : DataW.trod enc Try.prog w base spare held n 3 ((cs.drop 1).take (Try.prog.cellsOf 3)) = some _ := (hf 1 _ rfl).trans (g 1 (by omega))
  have f2 : DataW.trod enc Try.prog w base spare held n 3 ((cs.drop 2).take (Try.prog.cellsOf 3)) = some _ := (hf 2 _ rfl).trans (g 2 (by omega))
  have f3 : DataW.trod enc Try.prog w base spare held n 3 ((cs.drop 3).take (Try.prog.cellsOf 3)) = some _ := (hf 3 _ rfl).trans (g 3 (by omega))
  have f4 : DataW.trod enc Try.prog w base spare held n 22 ((cs.drop 4).take (Try.prog.cellsOf 22)) = some _ := (hf 4 _ rfl).trans (g 4 (by omega))
  have f5 : DataW.trod enc Try.prog w base spare held n 23 ((cs.drop 5).take (Try.prog.cellsOf 23)) = some _ := (hf 5 _ rfl).trans (g 5 (by omega))
  have f6 : DataW.trod enc Try.prog w base spare held n 9 ((cs.drop 6).take (Try.prog.cellsOf 9)) = some _ := (hf 6 _ rfl).trans (g 6 (by omega))
  simp only [cells3, cells22, cells23, cells9] at f0 f1 f2 f3 f4 f5 f6
  obtain ⟨k, e0, _, _⟩ := DataW.trod_int Try.underlying3 f0
  obtain ⟨a, e1, _, w1⟩ := DataW.trod_int Try.underlying3 f1
  obtain ⟨b, e2, _, w2⟩ := DataW.trod_int Try.underlying3 f2
  obtain ⟨m, e3, _, _⟩ := DataW.trod_int Try.underlying3 f3
  obtain ⟨nonce, e4, _, _⟩ := DataW.trod_int Try.underlying22 f4
  obtain ⟨mask, e5, _, _⟩ := DataW.trod_int Try.underlying23 f5
  obtain ⟨s, e6, _, _⟩ := DataW.trod_string Try.underlying9 f6
  have wa : -9223372036854775808 ≤ a ∧ a ≤ 9223372036854775807 := by simpa [Lit.wf, IntKind.min, IntKind.max, IntKind.signed, IntKind.bits] using w1
  have wb : -9223372036854775808 ≤ b ∧ b ≤ 9223372036854775807 := by simpa [Lit.wf, IntKind.min, IntKind.max, IntKind.signed, IntKind.bits] using w2
  refine ⟨k, a, b, m, nonce, mask, s, ?_, wa.1, wa.2, wb.1, wb.2⟩
  exact seven hlen e0 e1 e2 e3 e4 e5 e6

set_option maxRecDepth 100000 in
theorem lifted (os : Os) (started : os.Started) (H : Type) (enc : TypeId × Value → H) :
    ReturnsInHanded {} Try.checked os 4 .any (Rows.sendersSpec.pre6 enc Try.prog Try.f4 Rows.sendersRow.domain false) (Rows.sendersSpec.post enc Try.prog Try.f4 false true false false) := by
  refine returnsInHanded_of_change_sized (C := Try.checked) own started (by kernel_rfl) Try.func4
    (ChangeSpec.witness6 (enc := enc) (C := Try.checked) false ⟨#[], #[.slice none 0 0], []⟩ 8 (by kernel_rfl) (by kernel_rfl) (by kernel_rfl) (by kernel_rfl)) ?_
  intro W base args ds gs before hval0 hW _ hsz0 _
  have hval : ∀ (j : Nat) t v, Try.f4.params[j]? = some t → args[j]? = some v → Value.okWide Try.prog W .any base t v := hval0
  have hsz : (DataW.weightsEach Try.prog (Try.f4.params.toList ++ Rows.sendersSpec.plain.varTypes Try.prog) (ds ++ gs)).all (· ≤ reachBytes) = true := hsz0
  have hW' := hW
  obtain ⟨p, q, hA0, hV, rfl, hfz, hnd⟩ := hW
  have hA : DataW.TrodAll enc Try.prog W 0 (fun _ => true) true Try.f4.params.toList args.toList ds p := hA0
  rw [Try.params4] at hA hval hsz
  obtain ⟨v0, vs0, d0, ds0, p0, q0, hargs, rfl, rfl, h0, r0⟩ := trodAll_cons hA
  obtain ⟨rfl, rfl, rfl⟩ := trodAll_nil r0
  obtain rfl : args = #[v0] := by cases args; simp_all
  obtain ⟨rfl, rfl⟩ := trodVars_none hV
  obtain ⟨a0, len0, cap0, rfl⟩ := okWide_slice Try.underlying28 (hval 0 28 v0 rfl rfl)
  have k0 := h0
  have lt0 : ∀ x ∈ p0, x.block < W.heap.size := by obtain ⟨m, hm⟩ := k0; exact DataW.trod_lt m _ _ _ hm
  clear hA0 hval0
  have main : Calls Try.prog 4 #[.slice a0 len0 cap0] W fun e w' => e = .returned (.bool true) ∧ Below W.heap.size W w' := by
    obtain ⟨fuel, hf⟩ := h0
    rcases open_slice Try.underlying28 hf with ⟨hcs, hx⟩ | ⟨a, len, cap, m, n, D, Pl, hcs, _, hl, hm, hmm, hx, hel⟩
    · simp [Value.cells] at hcs
      obtain ⟨rfl, rfl, rfl⟩ := hcs
      exact senders_of _ _ (plays_nil W)
    · simp [Value.cells] at hcs
      obtain ⟨rfl, rfl, rfl⟩ := hcs
      have hd : d0 = .slice ((List.range len0).map D) ((List.range (m - len0)).map fun j => D (len0 + j)) := congrArg Prod.fst hx
      have hb := sized_slice hsz (j := 0) (t := 28) rfl (by rw [hd]; rfl) Try.underlying28
      rw [bytes41] at hb
      simp only [List.length_map, List.length_range, reachBytes] at hb
      rw [cells41] at hel
      simp only [if_true] at hmm
      have hex : ∀ i, i < len0 → ∃ C : List Value, IsOp C ∧ ∀ r, r < 7 → W.cell? (a.add (i * 7 + r)) = C[r]? := fun i hi => by
        obtain ⟨cs', hc', ht'⟩ := hel i (by omega)
        obtain ⟨_, _, hcell⟩ := World.cells?_some hc'
        exact ⟨cs', op_of ht', fun r hr => by rw [← Go.Deep.add_add]; exact hcell r hr⟩
      obtain ⟨C, hC⟩ := choose_lt hex
      exact senders_some a len0 cap0 C W (by omega) (fun i hi => (hC i hi).1) (fun i hi => (hC i hi).2)
  refine main.mono fun e W' ⟨he, bel⟩ => ?_
  subst he
  exact ⟨_, rfl, _, _, _, [], _, [], hW', trodAll_mk1 (shut_bool Try.underlying4 _), (trodAll_cons_mk (Below.trod laidOut (by kernel_rfl) (of_decide_eq_true (by kernel_rfl)) k0 bel lt0) trodAll_mk0), rfl, bel.frame _, fun h => by cases h⟩

theorem over : Rows.sendersRow.holds Try.pinned (OpenSpec.ofChange Rows.sendersSpec) :=
  OpenClaim.holds_of_wide 4 Try.f4 rfl rfl rfl rfl rfl rfl rfl ⟨rfl, rfl, rfl, rfl, rfl⟩ rfl rfl rfl rfl rfl (by kernel_rfl) Try.func4 (by kernel_rfl)
    (of_decide_eq_true (by kernel_rfl)) (by unfold Func.isWrapper; first | (rw [if_pos (by decide +kernel)]; kernel_rfl) | (rw [if_neg (by decide +kernel)]; exact ⟨rfl, rfl⟩))
    (fun os started H enc _ => lifted os started H enc)
end Go.Proofs.Ytfohohmikjjokaa.sendersP

namespace Go.Proofs.Ytfohohmikjjokaa
theorem senders_holds : Rows.SendersSaid := sendersP.over
#print axioms senders_holds
end Go.Proofs.Ytfohohmikjjokaa
