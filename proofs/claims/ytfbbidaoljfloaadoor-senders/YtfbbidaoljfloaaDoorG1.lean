import Derived.Test.YtfbbidaoljfloaaDoorL14
namespace Go.Proofs.YtfbbidaoljfloaaDoor
open Go.RowKit

def ptrOf (N : NetM) : Value := .pointer (some ⟨N.bn, 0, none⟩)

/-- Several networks side by side, and the script. -/
structure Game (B R n rcap : Nat) (xs : List Value) (i : Nat) (w : World) (L : List NetM) (nsl : Option Addr) (ncap : Nat) : Prop where
  row : w.ownsRow 0 89 7 (.slice (some ⟨R, 0, none⟩) n rcap) n xs
  nets : w.ownsRow 0 91 1 (.slice nsl L.length ncap) L.length (L.map ptrOf)
  inv : ∀ N ∈ L, Inv w N
  cnt : ∀ N ∈ L, N.hm ≤ 4 * i ∧ N.wn ≤ i
  ge : ∀ N ∈ L, ∀ k ∈ N.blocks, B ≤ k
  apart : ∀ a b (ha : a < L.length) (hb : b < L.length), a ≠ b → ∀ k ∈ L[a].blocks, k ∉ L[b].blocks ∧ k ∉ L[b].ros
  rowoff : ∀ N ∈ L, R ∉ N.blocks
  rowge : B ≤ R
  netoff : ∀ k, (Value.slice nsl L.length ncap).ownBlock = some k → B ≤ k ∧ k ≠ R ∧ ∀ N ∈ L, k ∉ N.blocks ∧ k ∉ N.ros
  len : L.length ≤ i

section
variable {B R n rcap : Nat} {xs : List Value} {i : Nat} {w w' : World} {L : List NetM} {nsl : Option Addr} {ncap : Nat}

theorem Game.same (g : Game B R n rcap xs i w L nsl ncap) (t : Turn [] w w') : Game B R n rcap xs i w' L nsl ncap :=
  ⟨t.owns g.row (by simp), t.owns g.nets (by simp), fun N hN => (g.inv N hN).turn t (by simp) (by simp), g.cnt, g.ge, g.apart, g.rowoff, g.rowge, g.netoff, g.len⟩

theorem Game.next (g : Game B R n rcap xs i w L nsl ncap) : Game B R n rcap xs (i + 1) w L nsl ncap :=
  ⟨g.row, g.nets, g.inv, fun N hN => by have := g.cnt N hN; omega, g.ge, g.apart, g.rowoff, g.rowge, g.netoff, by have := g.len; omega⟩

theorem Game.turnB (g : Game B R n rcap xs i w L nsl ncap) {p : Nat} (hp : p < L.length) {N' : NetM} (s : Stp w L[p] w' N') (hB : B ≤ w.heap.size) : Below B w w' :=
  s.turn.toBelow hB (fun x hx => g.ge _ (List.getElem_mem hp) x hx)

/-- A step on one of the networks. -/
theorem Game.step (g : Game B R n rcap xs i w L nsl ncap) {p : Nat} (hp : p < L.length) {N' : NetM} (s : Stp w L[p] w' N') (hB : B ≤ w.heap.size) : Game B R n rcap xs (i + 1) w' (L.set p N') nsl ncap := by
  have hrow : R < w.heap.size := owns_lt g.row rfl
  have hm : ∀ N ∈ L.set p N', N = N' ∨ ∃ b, ∃ hb : b < L.length, b ≠ p ∧ N = L[b] := by
    intro N hN
    obtain ⟨b, hb, rfl⟩ := List.mem_iff_getElem.1 hN
    rw [List.length_set] at hb
    rw [List.getElem_set]
    split
    · exact .inl rfl
    · exact .inr ⟨b, hb, by omega, rfl⟩
  have other : ∀ b (hb : b < L.length), b ≠ p → Inv w' L[b] := fun b hb hne =>
    (g.inv _ (List.getElem_mem hb)).turn s.turn (fun k hk hm => (g.apart b p hb hp hne k hk).1 hm) (fun k hk hm => (g.apart p b hp hb (Ne.symm hne) k hm).2 hk)
  have nlt : ∀ k, (Value.slice nsl L.length ncap).ownBlock = some k → k < w.heap.size := fun k hk => owns_lt g.nets hk
  have emap : (L.set p N').map ptrOf = L.map ptrOf := by
    apply List.ext_getElem (by simp)
    intro j h1 h2
    rw [List.getElem_map, List.getElem_map, List.getElem_set]
    split
    · rename_i e
      subst e
      simp [ptrOf, s.bn]
    · rfl
  refine ⟨s.turn.owns g.row (fun k hk hm => ?_), ?_, ?_, ?_, ?_, ?_, ?_, g.rowge, ?_, by rw [List.length_set]; have := g.len; omega⟩
  · simp only [Value.ownBlock, Option.some.injEq] at hk
    subst hk
    exact g.rowoff _ (List.getElem_mem hp) hm
  · rw [List.length_set, emap]
    exact s.turn.owns g.nets (fun k hk hm => ((g.netoff k hk).2.2 _ (List.getElem_mem hp)).1 hm)
  · intro N hN
    rcases hm N hN with rfl | ⟨b, hb, hne, rfl⟩
    · exact s.inv
    · exact other b hb hne
  · intro N hN
    rcases hm N hN with rfl | ⟨b, hb, hne, rfl⟩
    · have := g.cnt _ (List.getElem_mem hp)
      have h1 := s.hm
      have h2 := s.wn
      omega
    · have := g.cnt _ (List.getElem_mem hb)
      omega
  · intro N hN k hk
    rcases hm N hN with rfl | ⟨b, hb, hne, rfl⟩
    · rcases s.blocks k hk with q | q
      · exact g.ge _ (List.getElem_mem hp) k q
      · omega
    · exact g.ge _ (List.getElem_mem hb) k hk
  · intro a b ha hb hne k hk
    rw [List.length_set] at ha hb
    rw [List.getElem_set] at hk
    rw [List.getElem_set]
    split at hk
    · rename_i ea
      subst ea
      rw [if_neg hne]
      rcases s.blocks k hk with q | q
      · exact g.apart p b ha hb hne k q
      · exact ⟨fun hm => by have := (g.inv _ (List.getElem_mem hb)).lt k hm; omega, fun hm => by have := (g.inv _ (List.getElem_mem hb)).ro_lt k hm; omega⟩
    · split
      · rename_i eb
        subst eb
        have hk' := g.apart a p ha hb hne k hk
        have hlt := (g.inv _ (List.getElem_mem ha)).lt k hk
        refine ⟨fun hm => ?_, fun hm => ?_⟩
        · rcases s.blocks k hm with q | q
          · exact hk'.1 q
          · omega
        · rcases s.ros k hm with q | q
          · exact hk'.2 q
          · omega
      · exact g.apart a b ha hb hne k hk
  · intro N hN hm'
    rcases hm N hN with rfl | ⟨b, hb, hne, rfl⟩
    · rcases s.blocks R hm' with q | q
      · exact g.rowoff _ (List.getElem_mem hp) q
      · omega
    · exact g.rowoff _ (List.getElem_mem hb) hm'
  · intro k hk
    rw [List.length_set] at hk
    have h0 := g.netoff k hk
    have hlt := nlt k hk
    refine ⟨h0.1, h0.2.1, fun N hN => ?_⟩
    rcases hm N hN with rfl | ⟨b, hb, hne, rfl⟩
    · have h1 := h0.2.2 _ (List.getElem_mem hp)
      refine ⟨fun hm => ?_, fun hm => ?_⟩
      · rcases s.blocks k hm with q | q
        · exact h1.1 q
        · omega
      · rcases s.ros k hm with q | q
        · exact h1.2 q
        · omega
    · exact h0.2.2 _ (List.getElem_mem hb)

/-- A network more. -/
theorem Game.more (g : Game B R n rcap xs i w L nsl ncap) {w1 : World} {N : NetM} {g' cap' : Nat} (t : Turn [] w w1) (hN : Inv w1 N) (hm : N.hm = 0) (hw : N.wn = 0) (hnew : ∀ k ∈ N.blocks, w.heap.size ≤ k) (hro : N.ros = []) (hB : B ≤ w.heap.size)
    (T : Turn (Value.slice nsl L.length ncap).ownBlock.toList w1 w') (ho : w'.ownsRow 0 91 1 (.slice (some ⟨g', 0, none⟩) (L.length + 1) cap') (L.length + 1) (L.map ptrOf ++ [ptrOf N])) (ha : (Value.slice nsl L.length ncap).ownBlock = some g' ∨ w1.heap.size ≤ g') :
    Game B R n rcap xs (i + 1) w' (L ++ [N]) (some ⟨g', 0, none⟩) cap' := by
  have g1 := g.same t
  have z := t.size
  have nlt : ∀ k, (Value.slice nsl L.length ncap).ownBlock = some k → k < w.heap.size := fun k hk => owns_lt g.nets hk
  have hrow : R < w.heap.size := owns_lt g.row rfl
  have hcase : ∀ M ∈ L ++ [N], M ∈ L ∨ M = N := fun M hM => by simpa using hM
  have offT : ∀ M ∈ L, (∀ k ∈ M.blocks, k ∉ (Value.slice nsl L.length ncap).ownBlock.toList) ∧ (∀ k ∈ M.ros, k ∉ (Value.slice nsl L.length ncap).ownBlock.toList) := fun M hM =>
    ⟨fun k hk hm => ((g.netoff k (by simpa using hm)).2.2 M hM).1 hk, fun k hk hm => ((g.netoff k (by simpa using hm)).2.2 M hM).2 hk⟩
  have len1 : (L ++ [N]).length = L.length + 1 := by simp
  refine ⟨T.owns g1.row (fun k hk hm => ?_), ?_, ?_, ?_, ?_, ?_, ?_, g.rowge, ?_, by rw [len1]; have := g.len; omega⟩
  · simp only [Value.ownBlock, Option.some.injEq] at hk
    subst hk
    exact (g.netoff R (by simpa using hm)).2.1 rfl
  · rw [len1]
    simpa using ho
  · intro M hM
    rcases hcase M hM with q | rfl
    · exact (g1.inv M q).turn T (offT M q).1 (offT M q).2
    · exact hN.turn T (fun k hk hm => by have := nlt k (by simpa using hm); have := hnew k hk; omega) (by simp [hro])
  · intro M hM
    rcases hcase M hM with q | rfl
    · have := g.cnt M q; omega
    · omega
  · intro M hM k hk
    rcases hcase M hM with q | rfl
    · exact g.ge M q k hk
    · have := hnew k hk; omega
  · intro a b ha' hb' hne k hk
    rw [len1] at ha' hb'
    by_cases hA : a < L.length
    · rw [List.getElem_append_left hA] at hk
      have hlt := (g.inv _ (List.getElem_mem hA)).lt k hk
      by_cases hb : b < L.length
      · rw [List.getElem_append_left hb]
        exact g.apart a b hA hb hne k hk
      · rw [List.getElem_append_right (by omega)]
        simp only [show b - L.length = 0 by omega, List.getElem_cons_zero]
        exact ⟨fun hm => by have := hnew k hm; omega, by simp [hro]⟩
    · rw [List.getElem_append_right (by omega)] at hk
      simp only [show a - L.length = 0 by omega, List.getElem_cons_zero] at hk
      have := hnew k hk
      have hb : b < L.length := by omega
      rw [List.getElem_append_left hb]
      exact ⟨fun hm => by have := (g.inv _ (List.getElem_mem hb)).lt k hm; omega, fun hm => by have := (g.inv _ (List.getElem_mem hb)).ro_lt k hm; omega⟩
  · intro M hM hm'
    rcases hcase M hM with q | rfl
    · exact g.rowoff M q hm'
    · have := hnew R hm'; omega
  · intro k hk
    simp only [Value.ownBlock, Option.some.injEq] at hk
    subst hk
    rcases ha with q | q
    · have h0 := g.netoff _ q
      have hlt := nlt _ q
      refine ⟨h0.1, h0.2.1, fun M hM => ?_⟩
      rcases hcase M hM with r | rfl
      · exact h0.2.2 M r
      · exact ⟨fun hm => by have := hnew _ hm; omega, by simp [hro]⟩
    · refine ⟨by omega, by omega, fun M hM => ?_⟩
      rcases hcase M hM with r | rfl
      · exact ⟨fun hm => by have := (g1.inv M r).lt _ hm; omega, fun hm => by have := (g1.inv M r).ro_lt _ hm; omega⟩
      · exact ⟨fun hm => by have := hN.lt _ hm; omega, by simp [hro]⟩

theorem Game.turnN (g : Game B R n rcap xs i w L nsl ncap) {w1 : World} (t : Turn [] w w1) (hB : B ≤ w.heap.size) (T : Turn (Value.slice nsl L.length ncap).ownBlock.toList w1 w') : Below B w w' :=
  ((t.mono (by simp)).trans T (fun x hx => .inl hx)).toBelow hB (fun x hx => (g.netoff x (by simpa using hx)).1)

end

/-- A network as it is made. -/
def NetM.fresh (bn bs blk bud : Nat) : NetM := ⟨bn, bs, blk, bud, 0, [], [], none, 0, none, 0, none, 0, 0, [], none, 0, 0, []⟩
theorem Inv.fresh {w : World} {bn bs blk bud : Nat} (hne : bs < bn) (h1 : 1 ≤ blk) (h2 : blk ≤ 32) (h3 : 1 ≤ bud) (h4 : bud ≤ 1000)
    (hs : w.heap[bs]? = some (.cells (senderCells blk bud (.slice none 0 0) 0) 106 (0, 0))) (hn : w.heap[bn]? = some (.cells (netCells bs blk bud (.slice none 0 0) (.slice none 0 0) (.slice none 0 0)) 151 (0, 0))) : Inv w (NetM.fresh bn bs blk bud) := by
  refine ⟨⟨hn, World.ownsRow_nil _ _ _ _, by simp [Value.ownBlock, NetM.fresh], rfl⟩, ⟨World.ownsRow_nil _ _ _ _, by simp [NetM.fresh], by simp [Value.ownBlock, NetM.fresh], by simp [NetM.fresh]⟩, hs, ⟨World.ownsRow_nil _ _ _ _, rfl⟩, ⟨World.ownsRow_nil _ _ _ _, rfl⟩, by simp [NetM.fresh], by simp [NetM.ros, NetM.fresh], ?_, Shape.nil _ _, h1, h2, h3, h4, ⟨0, rfl⟩⟩
  show [some bn, some bs, none, none, none, none].Pairwise Ap
  rw [aps_iff]
  exact ⟨by omega, by simp, by simp, by simp, by simp, by simp, by simp, by simp, by simp, by simp [Ap], by simp [Ap], by simp [Ap], by simp [Ap], by simp [Ap], by simp [Ap]⟩
theorem NetM.fresh_blocks (bn bs blk bud : Nat) (k : Nat) (hk : k ∈ (NetM.fresh bn bs blk bud).blocks) : k = bn ∨ k = bs := by
  rw [NetM.mem_blocks] at hk
  simpa [NetM.own, NetM.fresh, NetM.pv, NetM.rv, NetM.wv, NetM.hv, Value.ownBlock] using hk

end Go.Proofs.YtfbbidaoljfloaaDoor
