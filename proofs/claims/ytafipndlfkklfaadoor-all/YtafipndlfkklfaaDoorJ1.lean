import Derived.Test.YtafipndlfkklfaaDoorChecked
import Derived.Deep.AppendLies
import Derived.Deep.DeepAppendWide
import Derived.Deep.DeepAppendRoom
import Derived.Deep.Draws
import Derived.Below
import Derived.Test.YtafipndlfkklfaaDoorRows
import Derived.WalkKit
import Derived.WalkSpells
import Derived.WalkLawsBesides
import Derived.Laws.BitsAllLaws
namespace Go.Proofs.YtafipndlfkklfaaDoor
open Go.RowKit

/-- What has turned lies in the blocks of S, or is new. -/
structure Turn (S : List Nat) (w w' : World) : Prop where
  os : w'.os = w.os
  tape : w'.tape = w.tape
  output : w'.output = w.output
  size : w.heap.size ≤ w'.heap.size
  block : ∀ k, k < w.heap.size → k ∉ S → w'.heap[k]? = w.heap[k]?

theorem Turn.refl (S : List Nat) (w : World) : Turn S w w := ⟨rfl, rfl, rfl, Nat.le_refl _, fun _ _ _ => rfl⟩

theorem Turn.trans {S S' : List Nat} {a b c : World} (h : Turn S a b) (k : Turn S' b c) (hs : ∀ x ∈ S', x ∈ S ∨ a.heap.size ≤ x) : Turn S a c :=
  ⟨k.os.trans h.os, k.tape.trans h.tape, k.output.trans h.output, Nat.le_trans h.size k.size, fun i hi hn => by
    have h1 : i ∉ S' := fun hm => by
      rcases hs i hm with h2 | h2
      · exact hn h2
      · omega
    exact (k.block i (Nat.lt_of_lt_of_le hi h.size) h1).trans (h.block i hi hn)⟩

theorem Turn.mono {S S' : List Nat} {a b : World} (h : Turn S a b) (hs : ∀ x ∈ S, x ∈ S') : Turn S' a b :=
  ⟨h.os, h.tape, h.output, h.size, fun i hi hn => h.block i hi (fun hm => hn (hs i hm))⟩

theorem Turn.alloc {S : List Nat} {a w : World} (h : Turn S a w) (o : Obj) : Turn S a (w.alloc o) :=
  h.trans (S' := []) ⟨rfl, rfl, rfl, by simp, fun k hk _ => heap_alloc_old w o k hk⟩ (by simp)

theorem Turn.setCell {S : List Nat} {a w : World} (h : Turn S a w) {p : Addr} (hp : p.block ∈ S ∨ a.heap.size ≤ p.block) (u : Value) : Turn S a (w.setCell p u) :=
  h.trans (S' := [p.block]) ⟨rfl, rfl, rfl, by simp [World.setCell], fun k hk hn => heap_setCell_other w p k u (by simpa using hn)⟩ (by simpa using hp)

theorem Turn.drew {S : List Nat} {a w : World} (h : Turn S a w) : Turn S a w.drew := ⟨h.os, h.tape, h.output, h.size, h.block⟩
theorem Turn.drewN {S : List Nat} {a w : World} (h : Turn S a w) (n : Nat) : Turn S a (w.drewN n) := ⟨h.os, h.tape, h.output, h.size, h.block⟩

theorem Turn.grown {S : List Nat} {a w w' : World} {row : Option Nat} (h : Turn S a w) (hg : w.grownBy w' row) (hr : ∀ k, row = some k → k ∈ S ∨ a.heap.size ≤ k) : Turn S a w' :=
  h.trans (S' := row.toList) ⟨hg.os, hg.tape, hg.output, hg.size, fun k hk hn => hg.block k hk (fun e => hn (by simp [← e]))⟩ (fun x hx => hr x (by simpa using hx))

theorem Turn.below {S : List Nat} {a w : World} {B : Nat} (h : Below B a w) (hB : a.heap.size ≤ B) : Turn S a w :=
  ⟨h.os, h.tape, h.output, h.size, fun k hk _ => h.block k (by omega)⟩

theorem Turn.toBelow {S : List Nat} {a w : World} {B : Nat} (h : Turn S a w) (hB : B ≤ a.heap.size) (hS : ∀ x ∈ S, B ≤ x) : Below B a w :=
  ⟨h.os, h.tape, h.output, h.size, fun k hk => h.block k (by omega) (fun hm => by have := hS k hm; omega)⟩

theorem Turn.cells {S : List Nat} {a w : World} (h : Turn S a w) {k : Nat} {o : Obj} (hk : a.heap[k]? = some o) (hn : k ∉ S) : w.heap[k]? = some o := by
  rw [h.block k (Array.getElem?_eq_some_iff.1 hk).1 hn]; exact hk

theorem lt_of_heap {w : World} {k : Nat} {o : Obj} (hk : w.heap[k]? = some o) : k < w.heap.size := (Array.getElem?_eq_some_iff.1 hk).1

theorem Turn.owns {S : List Nat} {w w' : World} {base : Nat} {e : TypeId} {size : Nat} {v : Value} {n : Nat} {xs : List Value} (h : Turn S w w') (ho : w.ownsRow base e size v n xs)
    (hn : ∀ k, v.ownBlock = some k → k ∉ S) : w'.ownsRow base e size v n xs := by
  refine ⟨ho.1, ?_⟩
  rcases ho.2 with h0 | ⟨g, cap, cur, rfl, hb, hg, rest⟩
  · exact .inl h0
  · exact .inr ⟨g, cap, cur, rfl, hb, h.cells hg (hn g rfl), rest⟩

/-- A store into an owned row. -/
theorem owns_setCell {w : World} {base : Nat} {e : TypeId} {size : Nat} {v : Value} {n : Nat} {xs : List Value} (ho : w.ownsRow base e size v n xs) {g : Nat} (hv : v.ownBlock = some g) (j : Nat) (u : Value) :
    (w.setCell ⟨g, j, none⟩ u).ownsRow base e size v n (xs.set j u) := by
  refine ⟨by rw [List.length_set]; exact ho.1, ?_⟩
  rcases ho.2 with ⟨rfl, _⟩ | ⟨g', cap, cur, rfl, hb, hg, h1, h2, h3, h4⟩
  · simp [Value.ownBlock] at hv
  · obtain rfl : g' = g := by simpa [Value.ownBlock] using hv
    refine .inr ⟨g', cap, cur.setIfInBounds j u, rfl, hb, heap_setCell_same w g' j cur e u hg, h1, h2, by simpa using h3, ?_⟩
    rw [Array.toList_setIfInBounds, ← h4, List.take_set]

theorem owns_cell {w : World} {base : Nat} {e : TypeId} {size : Nat} {v : Value} {n : Nat} {xs : List Value} (ho : w.ownsRow base e size v n xs) {g : Nat} (hv : v.ownBlock = some g) {j : Nat} {u : Value} (hu : xs[j]? = some u) :
    w.cell? ⟨g, j, none⟩ = some u := by
  have h := ho.cells hv j u hu
  have hadd : (⟨g, 0, none⟩ : Addr).add j = ⟨g, j, none⟩ := by unfold Addr.add; split <;> simp_all
  rwa [hadd] at h

theorem owns_frozen {w : World} {base : Nat} {e : TypeId} {size : Nat} {v : Value} {n : Nat} {xs : List Value} (ho : w.ownsRow base e size v n xs) {g : Nat} (hv : v.ownBlock = some g) (j : Nat) :
    w.frozen? ⟨g, j, none⟩ = false := by
  rcases ho.2 with ⟨rfl, _⟩ | ⟨g', cap, cur, rfl, hb, hg, h1, h2, h3, h4⟩
  · simp [Value.ownBlock] at hv
  · obtain rfl : g' = g := by simpa [Value.ownBlock] using hv
    exact frozen_of_row w g' j cur e hg

theorem owns_lt {w : World} {base : Nat} {e : TypeId} {size : Nat} {v : Value} {n : Nat} {xs : List Value} (ho : w.ownsRow base e size v n xs) {g : Nat} (hv : v.ownBlock = some g) : g < w.heap.size :=
  (ho.lt g hv).2

section
variable {P : Program} (w : World)
/-- append onto an owned row: where the new row lies; by growslice's own bound. -/
theorem run_append_far (t ty : TypeId) (e : TypeId) (i : TypeInfo) (z : Value) (size bytes : Nat) (ht : P.underlying t = some (.slice e)) (hi : P.info? e = some i) (hz : i.zero = some z)
    (hsize : i.size = size) (hby : i.bytes = bytes) (hzs : z.cells.size = size) (hsz : 0 < size)
    (v : Value) (n : Nat) (xs : List Value) (hown : w.ownsRow 0 e size v n xs)
    (ad : Addr) (m c : Nat) (news : List Value) (hl : news.length = m * size) (hnews : ∀ j u, news[j]? = some u → w.cell? (ad.add j) = some u) (h1 : ∀ u ∈ news, u.oneCell' = true)
    (hm : 0 < m) (h63 : n + m ≤ maxLen) (hbytes : ((n + m) + (n + m) / 4 + 192) * bytes ≤ 281474976710656) :
    ∃ g cap w', (Builtin.append_ #[t, t] ty #[v, .slice (some ad) m c]).run P w = .ok (.slice (some ⟨g, 0, none⟩) (n + m) cap) w' ∧
      w'.ownsRow 0 e size (.slice (some ⟨g, 0, none⟩) (n + m) cap) (n + m) (xs ++ news) ∧ w.grownBy w' v.ownBlock ∧ (v.ownBlock = some g ∨ g = w.heap.size) ∧ g < w'.heap.size := by
  by_cases hr : ∃ g cap, v = .slice (some ⟨g, 0, none⟩) n cap ∧ n + m ≤ cap
  · obtain ⟨g, cap, rfl, hroom⟩ := hr
    obtain ⟨w', h2, h3, h4⟩ := run_append_own_spare (P := P) w 0 t ty e i size ht hi hsize g n cap xs hown ad m c news hl hnews h1 hroom
    exact ⟨g, cap, w', h2, h3, h4, .inl rfl, (h3.lt g rfl).2⟩
  · obtain ⟨v', w', h2, h3, h4, _⟩ := run_append_own_wide (P := P) w 0 t ty e i z size bytes ht hi hz hsize hby hzs hsz v n xs hown ad m c news hl hnews h1 h63 hbytes (Nat.zero_le _)
    obtain ⟨g, cap, rfl, _, hlt⟩ := h3.form (by omega)
    refine ⟨g, cap, w', h2, h3, h4, .inr ?_, hlt⟩
    subst hsize
    subst hby
    have hsmall : n + m ≤ 9223372036854775807 := by simp only [maxLen] at h63; omega
    rcases hown.2 with ⟨rfl, rfl⟩ | ⟨g', cap', cur, rfl, hbg, hg, hnc, hcm, hcs, htake⟩
    · have hq := run_append_nil (P := P) w t ty e i z ht hi hz ad m c news hl hnews (by omega) (by omega) (by have hb := hbytes; simp only [Nat.zero_add] at hb; exact Nat.le_trans (Nat.mul_le_mul_right _ (by omega)) hb)
      rw [hq] at h2
      simp only [Result.ok.injEq, Value.slice.injEq, Option.some.injEq, Addr.mk.injEq] at h2
      exact h2.1.1.1.symm
    · have hno : ¬ n + m ≤ cap' := fun h => hr ⟨g', cap', rfl, h⟩
      have hq := run_append_grow (P := P) w t ty e i z ht hi hz ⟨g', 0, none⟩ n cap' xs hown.1 (hown.cells (g := g') rfl) ad m c news hl hnews (by omega) (by omega) (growslice_fits_wide (by omega) hbytes)
      rw [hq] at h2
      simp only [Result.ok.injEq, Value.slice.injEq, Option.some.injEq, Addr.mk.injEq] at h2
      exact h2.1.1.1.symm

theorem wp_append_far {o : Oper} {a : Act} {K : Act → World → Prop} {Q : Exit → Act → World → Prop} (s x : Operand) (t : TypeId)
    (ho : o.op = .call { callee := .builtin .append, args := #[s, x], argTypes := #[t, t] })
    (e : TypeId) (i : TypeInfo) (z : Value) (size bytes : Nat) (ht : P.underlying t = some (.slice e)) (hi : P.info? e = some i) (hz : i.zero = some z)
    (hsize : i.size = size) (hby : i.bytes = bytes) (hzs : z.cells.size = size) (hsz : 0 < size)
    (v : Value) (n : Nat) (xs : List Value) (hs : a.eval s = v) (hown : w.ownsRow 0 e size v n xs)
    (ad : Addr) (m c : Nat) (news : List Value) (hx : a.eval x = .slice (some ad) m c) (hl : news.length = m * size) (hnews : ∀ j u, news[j]? = some u → w.cell? (ad.add j) = some u) (h1 : ∀ u ∈ news, u.oneCell' = true)
    (hm : 0 < m) (h63 : n + m ≤ maxLen) (hbytes : ((n + m) + (n + m) / 4 + 192) * bytes ≤ 281474976710656)
    (h : ∀ g cap w', w'.ownsRow 0 e size (.slice (some ⟨g, 0, none⟩) (n + m) cap) (n + m) (xs ++ news) → w.grownBy w' v.ownBlock → (v.ownBlock = some g ∨ g = w.heap.size) → g < w'.heap.size → K (a.put o.dst (.slice (some ⟨g, 0, none⟩) (n + m) cap)) w') : o.wp P a w K Q := by
  obtain ⟨g, cap, w', hr, h2, h3, h4, h5⟩ := run_append_far (P := P) w t o.type e i z size bytes ht hi hz hsize hby hzs hsz v n xs hown ad m c news hl hnews h1 hm h63 hbytes
  unfold Oper.wp execOp
  simp only [ho, resolve, invoke, builtin, Sem.run_bind, Sem.run_pure, Result.andThen_ok, List.map_toArray, List.map_cons, List.map_nil, hs, hx, hr]
  exact h g cap w' h2 h3 h4 h5

theorem wpList_append_far {ops : Array Oper} {rest : List Oper} {o : Oper} {a : Act} {Q : Exit → Act → World → Prop} (hgd : o.guard = none) (s x : Operand) (t : TypeId)
    (ho : o.op = .call { callee := .builtin .append, args := #[s, x], argTypes := #[t, t] })
    (e : TypeId) (i : TypeInfo) (z : Value) (size bytes : Nat) (ht : P.underlying t = some (.slice e)) (hi : P.info? e = some i) (hz : i.zero = some z)
    (hsize : i.size = size) (hby : i.bytes = bytes) (hzs : z.cells.size = size) (hsz : 0 < size)
    (v : Value) (n : Nat) (xs : List Value) (hs : a.eval s = v) (hown : w.ownsRow 0 e size v n xs)
    (ad : Addr) (m c : Nat) (news : List Value) (hx : a.eval x = .slice (some ad) m c) (hl : news.length = m * size) (hnews : ∀ j u, news[j]? = some u → w.cell? (ad.add j) = some u) (h1 : ∀ u ∈ news, u.oneCell' = true)
    (hm : 0 < m) (h63 : n + m ≤ maxLen) (hbytes : ((n + m) + (n + m) / 4 + 192) * bytes ≤ 281474976710656)
    (h : ∀ g cap w', w'.ownsRow 0 e size (.slice (some ⟨g, 0, none⟩) (n + m) cap) (n + m) (xs ++ news) → w.grownBy w' v.ownBlock → (v.ownBlock = some g ∨ g = w.heap.size) → g < w'.heap.size → wpList P ops Q rest (a.put o.dst (.slice (some ⟨g, 0, none⟩) (n + m) cap)) w') : wpList P ops Q (o :: rest) a w :=
  wpList_plain hgd fun _ hK => wp_append_far w s x t ho e i z size bytes ht hi hz hsize hby hzs hsz v n xs hs hown ad m c news hx hl hnews h1 hm h63 hbytes fun g cap w' h2 h3 h4 h5 => hK _ _ (h g cap w' h2 h3 h4 h5)

theorem step_append_far {ops : Array Oper} {o : Oper} {a : Act} {K : Act → World → Prop} {Q : Exit → Act → World → Prop} {E : Prop} (hgd : o.guard = none) (s x : Operand) (t : TypeId)
    (ho : o.op = .call { callee := .builtin .append, args := #[s, x], argTypes := #[t, t] })
    (e : TypeId) (i : TypeInfo) (z : Value) (size bytes : Nat) (ht : P.underlying t = some (.slice e)) (hi : P.info? e = some i) (hz : i.zero = some z)
    (hsize : i.size = size) (hby : i.bytes = bytes) (hzs : z.cells.size = size) (hsz : 0 < size)
    (v : Value) (n : Nat) (xs : List Value) (hs : a.eval s = v) (hown : w.ownsRow 0 e size v n xs)
    (ad : Addr) (m c : Nat) (news : List Value) (hx : a.eval x = .slice (some ad) m c) (hl : news.length = m * size) (hnews : ∀ j u, news[j]? = some u → w.cell? (ad.add j) = some u) (h1 : ∀ u ∈ news, u.oneCell' = true)
    (hm : 0 < m) (h63 : n + m ≤ maxLen) (hbytes : ((n + m) + (n + m) / 4 + 192) * bytes ≤ 281474976710656)
    (h : ∀ g cap w', w'.ownsRow 0 e size (.slice (some ⟨g, 0, none⟩) (n + m) cap) (n + m) (xs ++ news) → w.grownBy w' v.ownBlock → (v.ownBlock = some g ∨ g = w.heap.size) → g < w'.heap.size → K (a.put o.dst (.slice (some ⟨g, 0, none⟩) (n + m) cap)) w') :
    if Region.wanted o (yielded ops a.tmps) = true then Oper.wp P o a w K Q else E := by
  have hw : Region.wanted o (yielded ops a.tmps) = true := by simp [Region.wanted, hgd]
  rw [if_pos hw]
  exact wp_append_far w s x t ho e i z size bytes ht hi hz hsize hby hzs hsz v n xs hs hown ad m c news hx hl hnews h1 hm h63 hbytes h
end

end Go.Proofs.YtafipndlfkklfaaDoor


/- Plain numbers: seeds, free blocks, rows. Nothing of the program. -/
namespace Go.Proofs.YtafipndlfkklfaaDoor
namespace Dz

/-- The seed behind one number. -/
def lcg (s : Int) : Int := (s * 6364136223846793005 + 1442695040888963407) % 18446744073709551616
/-- The number that a seed shows. -/
def num (s : Int) : Nat := (s / 4294967296).toNat

theorem lcg_lo (s : Int) : 0 ≤ lcg s := by unfold lcg; omega
theorem lcg_hi (s : Int) : lcg s < 18446744073709551616 := by unfold lcg; omega
theorem num_cast (s : Int) (h : 0 ≤ s) : (num s : Int) = s / 4294967296 := by unfold num; omega
theorem num_lt (s : Int) (h : s < 18446744073709551616) : num s < 4294967296 := by unfold num; omega

theorem lcg_wrap (s : Int) : (s * 6364136223846793005 % 18446744073709551616 + 1442695040888963407) % 18446744073709551616 = lcg s := by
  unfold lcg; omega

theorem halves (p q r u : Int) :
    (p % 18446744073709551616 + ((q % 18446744073709551616 % 4294967296 + r % 18446744073709551616 % 4294967296) % 18446744073709551616 % 4294967296 * 4294967296) % 18446744073709551616) % 18446744073709551616
      = (p + 4294967296 * (q + r) + 18446744073709551616 * u) % 18446744073709551616 := by omega

theorem times_eq (a b : Int) :
    ((a % 4294967296 * (b % 4294967296)) % 18446744073709551616 + (((a % 4294967296 * (b / 4294967296)) % 18446744073709551616 % 4294967296 + (a / 4294967296 * (b % 4294967296)) % 18446744073709551616 % 4294967296) % 18446744073709551616 % 4294967296 * 4294967296) % 18446744073709551616) % 18446744073709551616
      = a * b % 18446744073709551616 := by
  rw [halves _ _ _ (a / 4294967296 * (b / 4294967296))]
  have ha : a = a % 4294967296 + 4294967296 * (a / 4294967296) := by omega
  have hb : b = b % 4294967296 + 4294967296 * (b / 4294967296) := by omega
  generalize a % 4294967296 = al at *
  generalize a / 4294967296 = ah at *
  generalize b % 4294967296 = bl at *
  generalize b / 4294967296 = bh at *
  subst ha hb
  congr 1
  simp only [Int.add_mul, Int.mul_add]
  have e1 : al * (4294967296 * bh) = 4294967296 * (al * bh) := by rw [Int.mul_left_comm]
  have e2 : 4294967296 * ah * bl = 4294967296 * (ah * bl) := by rw [Int.mul_assoc]
  have e3 : 4294967296 * ah * (4294967296 * bh) = 18446744073709551616 * (ah * bh) := by
    rw [Int.mul_assoc, Int.mul_left_comm ah, ← Int.mul_assoc]; rfl
  rw [e1, e2, e3]
  omega

/-- The first block from s on, round behind the last one, of which p says no: at most f are looked at. -/
def fb (p : Nat → Bool) (K : Nat) : Nat → Nat → Nat
  | 0, s => s
  | f + 1, s => if p s then fb p K f ((s + 1) % K) else s

/-- j is that first block. -/
def IsFree (p : Nat → Bool) (K s j : Nat) : Prop := ∃ t, t < K ∧ j = (s + t) % K ∧ p j = false ∧ ∀ u, u < t → p ((s + u) % K) = true

theorem isFree_one {p : Nat → Bool} {K s j j' : Nat} (h : IsFree p K s j) (h' : IsFree p K s j') : j = j' := by
  obtain ⟨t, _, rfl, hp, hu⟩ := h
  obtain ⟨t', _, rfl, hp', hu'⟩ := h'
  rcases Nat.lt_trichotomy t t' with h | h | h
  · have := hu' t h; rw [hp] at this; cases this
  · rw [h]
  · have := hu t' h; rw [hp'] at this; cases this

theorem isFree_lt {p : Nat → Bool} {K s j : Nat} (hK : 1 ≤ K) (h : IsFree p K s j) : j < K := by
  obtain ⟨t, _, rfl, _, _⟩ := h
  exact Nat.mod_lt _ (by omega)

theorem fb_from (p : Nat → Bool) (K : Nat) : ∀ f s, s < K → (∃ t, t < f ∧ p ((s + t) % K) = false) →
    ∃ t, t < f ∧ fb p K f s = (s + t) % K ∧ p (fb p K f s) = false ∧ ∀ u, u < t → p ((s + u) % K) = true := by
  intro f
  induction f with
  | zero => intro s _ ⟨t, ht, _⟩; omega
  | succ f ih =>
    intro s hs ⟨t, ht, hp⟩
    have hs0 : (s + 0) % K = s := Nat.mod_eq_of_lt hs
    by_cases h : p s = true
    · have ht0 : t ≠ 0 := by intro e; subst e; rw [hs0] at hp; rw [hp] at h; cases h
      have hstep : ∀ u, ((s + 1) % K + u) % K = (s + (u + 1)) % K := by
        intro u
        rw [Nat.mod_add_mod]; congr 1; omega
      obtain ⟨t', ht', e1, e2, e3⟩ := ih ((s + 1) % K) (Nat.mod_lt _ (by omega)) ⟨t - 1, by omega, by rw [hstep, show t - 1 + 1 = t by omega]; exact hp⟩
      have efb : fb p K (f + 1) s = fb p K f ((s + 1) % K) := by simp [fb, h]
      rw [efb]
      refine ⟨t' + 1, by omega, by rw [e1, hstep], e2, ?_⟩
      intro u hu
      match u with
      | 0 => rw [hs0]; exact h
      | u + 1 => rw [← hstep]; exact e3 u (by omega)
    · have h' : p s = false := by simpa using h
      have efb : fb p K (f + 1) s = s := by simp [fb, h']
      rw [efb]
      exact ⟨0, by omega, by rw [hs0], h', by intro u hu; omega⟩

theorem fb_free (p : Nat → Bool) (K s : Nat) (hs : s < K) (h : ∃ j, j < K ∧ p j = false) : IsFree p K s (fb p K K s) := by
  obtain ⟨j, hj, hp⟩ := h
  have e : (s + (j + K - s) % K) % K = j := by
    rw [Nat.add_mod_mod, show s + (j + K - s) = j + K by omega, Nat.add_mod_right, Nat.mod_eq_of_lt hj]
  exact fb_from p K K s hs ⟨(j + K - s) % K, Nat.mod_lt _ (by omega), by rw [e]; exact hp⟩

theorem dist_eq (K st t u : Nat) (ht : t < K) (hu : u ≤ t) : ((st + t) % K + K - (st + u) % K) % K = t - u := by
  have hK : 0 < K := by omega
  have e : (st + t) % K = ((st + u) % K + (t - u)) % K := by
    rw [Nat.mod_add_mod]; congr 1; omega
  have hv : (st + u) % K < K := Nat.mod_lt _ hK
  rw [e]
  generalize (st + u) % K = v at *
  by_cases h : v + (t - u) < K
  · rw [Nat.mod_eq_of_lt h, show v + (t - u) + K - v = (t - u) + K by omega, Nat.add_mod_right, Nat.mod_eq_of_lt (by omega)]
  · rw [Nat.mod_eq_sub_mod (a := v + (t - u)) (by omega), Nat.mod_eq_of_lt (a := v + (t - u) - K) (by omega), show v + (t - u) - K + K - v = t - u by omega, Nat.mod_eq_of_lt (by omega)]

/-- The seed behind i numbers. -/
def seedAt (s : Int) : Nat → Int
  | 0 => s
  | i + 1 => lcg (seedAt s i)

/-- The row behind i draws. -/
def rowAt (K : Nat) (s : Int) : Nat → Nat
  | 0 => 0
  | i + 1 => rowAt K s i ||| 2 ^ fb (rowAt K s i).testBit K K (num (seedAt s (i + 1)) % K)

theorem seedAt_lo (s : Int) (h : 0 ≤ s) : ∀ i, 0 ≤ seedAt s i
  | 0 => h
  | _ + 1 => lcg_lo _
theorem seedAt_hi (s : Int) (h : s < 18446744073709551616) : ∀ i, seedAt s i < 18446744073709551616
  | 0 => h
  | _ + 1 => lcg_hi _

/-- How many of the first k blocks are in a row. -/
def cnt (row : Nat) : Nat → Nat
  | 0 => 0
  | k + 1 => cnt row k + if row.testBit k then 1 else 0

theorem cnt_zero : ∀ k, cnt 0 k = 0
  | 0 => rfl
  | k + 1 => by simp [cnt, cnt_zero k]
theorem cnt_full (row : Nat) : ∀ k, (∀ j, j < k → row.testBit j = true) → cnt row k = k
  | 0, _ => rfl
  | k + 1, h => by rw [cnt, cnt_full row k (fun j hj => h j (by omega)), h k (by omega)]; rfl
theorem bit_or (row j i : Nat) : (row ||| 2 ^ j).testBit i = (row.testBit i || decide (j = i)) := by
  rw [Nat.testBit_or, Nat.testBit_two_pow]
theorem cnt_past (row j : Nat) : ∀ k, k ≤ j → cnt (row ||| 2 ^ j) k = cnt row k
  | 0, _ => rfl
  | k + 1, h => by rw [cnt, cnt, cnt_past row j k (by omega), bit_or]; simp [show j ≠ k by omega]
theorem cnt_or (row j : Nat) (hb : row.testBit j = false) : ∀ k, j < k → cnt (row ||| 2 ^ j) k = cnt row k + 1
  | 0, h => by omega
  | k + 1, h => by
    rw [cnt, cnt, bit_or]
    by_cases e : j = k
    · subst e; rw [cnt_past row j j (Nat.le_refl _), hb]; simp
    · rw [cnt_or row j hb k (by omega)]; simp [e]; omega
theorem free_of_cnt (row K : Nat) (h : cnt row K < K) : ∃ j, j < K ∧ row.testBit j = false := by
  refine Classical.byContradiction fun hn => ?_
  have : cnt row K = K := cnt_full row K fun j hj => by
    cases e : row.testBit j with
    | true => rfl
    | false => exact absurd ⟨j, hj, e⟩ hn
  omega

theorem rowAt_cnt (K : Nat) (s : Int) (hK : 1 ≤ K) : ∀ i, i ≤ K → cnt (rowAt K s i) K = i
  | 0, _ => cnt_zero K
  | i + 1, h => by
    have ih := rowAt_cnt K s hK i (by omega)
    have hf := fb_free (rowAt K s i).testBit K (num (seedAt s (i + 1)) % K) (Nat.mod_lt _ (by omega)) (free_of_cnt _ K (by omega))
    have hlt := isFree_lt hK hf
    obtain ⟨t, _, e, hp, _⟩ := hf
    show cnt (rowAt K s i ||| _) K = i + 1
    rw [cnt_or _ _ hp K hlt, ih]

theorem rowAt_free (K : Nat) (s : Int) (hK : 1 ≤ K) (i : Nat) (h : i < K) :
    IsFree (rowAt K s i).testBit K (num (seedAt s (i + 1)) % K) (fb (rowAt K s i).testBit K K (num (seedAt s (i + 1)) % K)) :=
  fb_free _ K _ (Nat.mod_lt _ (by omega)) (free_of_cnt _ K (by rw [rowAt_cnt K s hK i (by omega)]; exact h))

theorem rowAt_lt (K : Nat) (s : Int) (hK : 1 ≤ K) : ∀ i, i ≤ K → rowAt K s i < 2 ^ K
  | 0, _ => Nat.two_pow_pos K
  | i + 1, h => by
    have hlt := isFree_lt hK (rowAt_free K s hK i (by omega))
    exact Nat.or_lt_two_pow (rowAt_lt K s hK i (by omega)) (Nat.pow_lt_pow_right (by decide) hlt)

theorem pow_K (K : Nat) (h : K ≤ 32) : 2 ^ K ≤ 4294967296 := by
  have := Nat.pow_le_pow_right (n := 2) (by decide) h
  simpa using this

/-- How many blocks a row has. -/
def many (K r : Nat) : Nat := (K + r - 1) / r
theorem many_le (K r : Nat) (hK : 1 ≤ K) (hr : 1 ≤ r) : many K r ≤ K := by
  unfold many
  have : (K + r - 1) / r < K + 1 := by
    rw [Nat.div_lt_iff_lt_mul (by omega)]
    have := Nat.le_mul_of_pos_right K (show 0 < r by omega)
    rw [Nat.add_mul]; omega
  omega
theorem many_more (K r d : Nat) (hr : 1 ≤ r) (h : d * r < K) : d + 1 ≤ many K r := by
  unfold many
  rw [Nat.le_div_iff_mul_le (by omega), Nat.add_mul]; omega
theorem many_end (K r d : Nat) (hr : 1 ≤ r) (h : K ≤ d * r) (hd : d ≤ many K r) : d = many K r := by
  have : many K r < d + 1 := by
    unfold many
    rw [Nat.div_lt_iff_lt_mul (by omega), Nat.add_mul]; omega
  omega

theorem testBit_div (row i : Nat) : row / 2 ^ i = 2 * (row / 2 ^ (i + 1)) + (if row.testBit i then 1 else 0) := by
  have e : row / 2 ^ (i + 1) = row / 2 ^ i / 2 := by rw [Nat.pow_succ, Nat.div_div_eq_div_mul]
  rw [e, Nat.testBit_eq_decide_div_mod_eq]
  by_cases h : row / 2 ^ i % 2 = 1 <;> simp [h] <;> omega

/-- The seed of a frame's row. -/
def seed0 (nonce id : Int) : Int := (nonce + id * 11400714819323198485) % 18446744073709551616
theorem seed0_lo (n i : Int) : 0 ≤ seed0 n i := by unfold seed0; omega
theorem seed0_hi (n i : Int) : seed0 n i < 18446744073709551616 := by unfold seed0; omega

/-- The row of a frame. -/
def mixed (K : Nat) (s : Int) : Nat := rowAt K (lcg s) (many K (num (lcg s) % K + 1))
theorem mixed_lt (K : Nat) (s : Int) (hK : 1 ≤ K) : mixed K s < 2 ^ K :=
  rowAt_lt K _ hK _ (many_le K _ hK (by omega))
def rowOf (nonce : Int) (K : Nat) (id : Int) : Nat := if id % 4 = 0 then 2 ^ ((id / 4).toNat % K) else mixed K (seed0 nonce id)
theorem rowOf_lt (nonce : Int) (K : Nat) (id : Int) (hK : 1 ≤ K) : rowOf nonce K id < 2 ^ K := by
  unfold rowOf
  split
  · exact Nat.pow_lt_pow_right (by decide) (Nat.mod_lt _ (by omega))
  · exact mixed_lt K _ hK
theorem rowOf_plain (nonce : Int) (K : Nat) (id : Int) (j : Nat) (hi0 : 0 ≤ id) (h4 : id % 4 = 0) (hj : id / 4 % (K : Int) = (j : Int)) : rowOf nonce K id = 2 ^ j := by
  obtain ⟨m, hm⟩ : ∃ m : Nat, id / 4 = (m : Int) := ⟨(id / 4).toNat, by omega⟩
  rw [hm, show (m : Int) % (K : Int) = ((m % K : Nat) : Int) by simp] at hj
  rw [rowOf, if_pos h4, hm, Int.toNat_natCast]
  congr 1
  omega
theorem bit_new (row j i : Nat) : (row ||| 2 ^ j).testBit i = if i = j then true else row.testBit i := by
  rw [bit_or]
  by_cases h : i = j
  · subst h; simp
  · rw [if_neg h]; simp; intro e; exact absurd e.symm h
theorem bit_pow (j i : Nat) : (2 ^ j).testBit i = if i = j then true else false := by
  have := bit_new 0 j i
  simpa using this
end Dz
end Go.Proofs.YtafipndlfkklfaaDoor


namespace Go.Proofs.YtafipndlfkklfaaDoor
open Go.RowKit

theorem ret_int {k : IntKind} {a b : Int} (h : a = b) : Ending.returned (.int k a) = .returned (.int k b) := by rw [h]
theorem u64w (n : Int) : IntKind.u64.wrap n = n % 18446744073709551616 := IntKind.wrap_u64 n
theorem tmod32 (n : Int) : (n % 18446744073709551616).tmod 4294967296 = n % 18446744073709551616 % 4294967296 := Int.tmod_eq_emod_of_nonneg (by omega)

set_option maxHeartbeats 400000 in
theorem times_any (a b : Int) (w : World) (ha0 : 0 ≤ a) (ha : a < 18446744073709551616) (hb0 : 0 ≤ b) (hb : b < 18446744073709551616) :
    Calls Tryd.prog 85 #[.int .u64 a, .int .u64 b] w fun e w' => e = .returned (.int .u64 (a * b % 18446744073709551616)) ∧ w' = w := by
  go_enter Tryd.func85, Tryd.ntmps85
  go_wp2
  go_ret
  refine ⟨ret_int ?_, rfl⟩
  simp only [u64w, tmod32]
  exact Dz.times_eq a b

theorem lcg_go (s : Int) : IntKind.u64.wrap (IntKind.u64.wrap (s * 6364136223846793005) + 1442695040888963407) = Dz.lcg s := by
  rw [u64w, u64w, Dz.lcg_wrap]
theorem num_go (s : Int) : IntKind.u64.wrap (IntKind.u64.wrap (s * 6364136223846793005) + 1442695040888963407) / 4294967296 % 4294967296 = (Dz.num (Dz.lcg s) : Int) := by
  have h1 := Dz.lcg_lo s
  have h2 := Dz.lcg_hi s
  rw [lcg_go, Dz.num_cast _ h1]
  omega

set_option maxHeartbeats 400000 in
/-- One call of the closure: the next number; the cell that it keeps holds the next seed. -/
theorem number_any (s : Int) (p : Nat) (w : World) (hc : w.cell? ⟨p, 0, none⟩ = some (.int .u64 s)) (hf : w.frozen? ⟨p, 0, none⟩ = false) :
    Calls Tryd.prog 83 #[.pointer (some ⟨p, 0, none⟩)] w fun e w' => e = .returned (.int .u32 (Dz.num (Dz.lcg s))) ∧ w' = w.setCell ⟨p, 0, none⟩ (.int .u64 (Dz.lcg s)) := by
  go_enter Tryd.func83, Tryd.ntmps83
  go_wp2
  go_ret
  exact ⟨ret_int (num_go s), by rw [lcg_go]⟩

set_option maxHeartbeats 400000 in
theorem numbers_any (s : Int) (w : World) :
    Calls Tryd.prog 53 #[.int .u64 s] w fun e w' => e = .returned (.func (.func 83) #[] #[.pointer (some ⟨w.heap.size, 0, none⟩)]) ∧ w' = w.alloc (.cells #[.int .u64 s] 25) := by
  have hmf : ∀ (fn : Fn) (first cap : Array Value) (w : World), (Instr.makeFunc fn first cap).run Tryd.prog w = .ok (.func fn first cap) w := fun _ _ _ _ => rfl
  go_enter Tryd.func53, Tryd.ntmps53
  go_wp2
  go_ret
  exact ⟨rfl, rfl⟩

theorem bit_go (row t : Nat) (hr : row < 4294967296) : (bits BinOp.and IntKind.u32 ((row : Int) / 2 ^ t) 1 == 1) = row.testBit t := by
  have e : (row : Int) / 2 ^ t = ((row / 2 ^ t : Nat) : Int) := by simp
  have hlt : row / 2 ^ t < 4294967296 := Nat.lt_of_le_of_lt (Nat.div_le_self _ _) hr
  have h := u32_and_nat (row / 2 ^ t) 1 hlt (by decide)
  rw [e, show (1 : Int) = ((1 : Nat) : Int) from rfl, h, Nat.and_one_is_mod, Nat.testBit_eq_decide_div_mod_eq]
  rcases Nat.mod_two_eq_zero_or_one (row / 2 ^ t) with h0 | h0 <;> rw [h0] <;> rfl

set_option maxHeartbeats 400000 in
theorem freeBlock_any (row st K : Nat) (w : World) (hK : 1 ≤ K) (hK2 : K ≤ 32) (hs : st < K) (hr : row < 4294967296) (j : Nat) (hfree : Dz.IsFree row.testBit K st j) :
    Calls Tryd.prog 82 #[.int .u32 row, .int .u32 st, .int .u32 K] w fun e w' => e = .returned (.int .u32 j) ∧ w' = w := by
  obtain ⟨t, ht, hj, hpj, hpu⟩ := hfree
  have HJ : Hid (j = (st + t) % K) := hj
  have HP : Hid (row.testBit j = false) := hpj
  have HU : Hid (∀ u, u < t → row.testBit ((st + u) % K) = true) := hpu
  clear hj hpj hpu
  go_enter Tryd.func82, Tryd.ntmps82
  go_wp2
  go_loop [1] (fun s => ∃ u v : Nat, u ≤ t ∧ Hid (v = (st + u) % K) ∧ v < K ∧ s = .int .u32 v) (fun i => (j + K - (intOf i).toNat) % K)
  case atStart => exact ⟨0, st, Nat.zero_le _, by rw [Hid, Nat.add_zero, Nat.mod_eq_of_lt hs], hs, rfl⟩
  case round =>
    obtain ⟨u, v, hu, HV, hv, rfl⟩ := hrel
    have hbit := bit_go row v hr
    by_cases hut : u = t
    · have hb : (bits BinOp.and IntKind.u32 ((row : Int) / 2 ^ v) 1 == 1) = false := by
        rw [hbit, HV.out, hut, ← HJ.out]; exact HP.out
      have HE : Hid (v = j) := by rw [Hid, HV.out, hut, ← HJ.out]
      clear hbit hut
      go_wp2
      go_ret
      exact ⟨ret_int (by rw [HE.out]), rfl⟩
    · have hb : (bits BinOp.and IntKind.u32 ((row : Int) / 2 ^ v) 1 == 1) = true := by
        rw [hbit, HV.out]; exact HU.out u (by omega)
      clear hbit
      have hlt : u < t := by omega
      clear hut
      have HN : Hid ((v + 1) % K = (st + (u + 1)) % K) := by rw [Hid, HV.out, Nat.mod_add_mod]; rfl
      have hd1 := Dz.dist_eq K st t u ht hu
      have hd2 := Dz.dist_eq K st t (u + 1) ht (by omega)
      rw [← HJ.out, ← HV.out] at hd1
      rw [← HJ.out, ← HN.out] at hd2
      have HM : Hid ((j + K - (v + 1) % K) % K < (j + K - v) % K) := by rw [Hid, hd1, hd2]; omega
      clear hd1 hd2
      go_wp2
      go_round
      case rel => exact ⟨u + 1, (v + 1) % K, by omega, HN, Nat.mod_lt _ (by omega), by simp⟩
      case measure =>
        have e : (((v : Int) + 1) % (K : Int)).toNat = (v + 1) % K := by
          have e' : ((v : Int) + 1) % (K : Int) = (((v + 1) % K : Nat) : Int) := by simp
          rw [e', Int.toNat_natCast]
        simp only [intOf, e, Int.toNat_natCast]; exact HM.out
end Go.Proofs.YtafipndlfkklfaaDoor


namespace Go.Proofs.YtafipndlfkklfaaDoor
open Go.RowKit

theorem many_go (K n : Nat) (hK : 1 ≤ K) : ((K : Int) + ((n : Int) % (K : Int) + 1) - 1) / ((n : Int) % (K : Int) + 1) = ((Dz.many K (n % K + 1) : Nat) : Int) := by
  have e : K + (n % K + 1) - 1 = K + n % K := by omega
  unfold Dz.many
  rw [e]
  simp
  congr 1
  omega

theorem pow_go (j : Nat) (hj : j < 32) : (2 : Int) ^ j % 4294967296 = ((2 ^ j : Nat) : Int) := by
  have h : 2 ^ j < 4294967296 := Nat.lt_of_lt_of_le (Nat.pow_lt_pow_right (by decide) hj) (Nat.le_refl (2 ^ 32))
  have e : (2 : Int) ^ j = ((2 ^ j : Nat) : Int) := by simp
  rw [e]
  clear e
  generalize 2 ^ j = x at *
  omega
theorem or_go (row j : Nat) (hr : row < 4294967296) (hj : j < 32) : bits BinOp.or IntKind.u32 (row : Int) (2 ^ j % 4294967296) = ((row ||| 2 ^ j : Nat) : Int) := by
  have h : 2 ^ j < 4294967296 := Nat.lt_of_lt_of_le (Nat.pow_lt_pow_right (by decide) hj) (Nat.le_refl (2 ^ 32))
  rw [pow_go j hj, u32_or_nat row _ hr h]

set_option maxHeartbeats 400000 in
theorem mixedRow_any (p : Nat) (s : Int) (K : Nat) (w : World) (hK : 1 ≤ K) (hK2 : K ≤ 32) (hc : w.cell? ⟨p, 0, none⟩ = some (.int .u64 s)) (hf : w.frozen? ⟨p, 0, none⟩ = false) :
    Calls Tryd.prog 52 #[.func (.func 83) #[] #[.pointer (some ⟨p, 0, none⟩)], .int .u32 K] w fun e w' => e = .returned (.int .u32 (Dz.mixed K s)) ∧ Below p w w' := by
  go_enter Tryd.func52, Tryd.ntmps52
  go_wp2_with fail
  refine (number_any s p _ hc hf).mono ?_
  rintro e w1 ⟨rfl, hw1⟩
  have hn := Dz.num_lt (Dz.lcg s) (Dz.lcg_hi s)
  have hm0 : 0 ≤ ((Dz.num (Dz.lcg s) : Nat) : Int) % (K : Int) := Int.emod_nonneg _ (by omega)
  have hm1 : ((Dz.num (Dz.lcg s) : Nat) : Int) % (K : Int) < K := Int.emod_lt_of_pos _ (by omega)
  have hb1 : Below p w w1 := by rw [hw1]; exact (Below.refl p w).setCell (p := ⟨p, 0, none⟩) (Nat.le_refl p) _
  have hc1 : w1.cell? ⟨p, 0, none⟩ = some (.int .u64 (Dz.lcg s)) := by rw [hw1]; exact World.cell?_setCell_same _ _ _ hc
  have hf1 : w1.frozen? ⟨p, 0, none⟩ = false := by rw [hw1, World.frozen?_setCell]; exact hf
  clear hw1 hc hf
  go_wp2_with fail
  obtain ⟨D, HD⟩ : ∃ D : Nat, Hid (D = Dz.many K (Dz.num (Dz.lcg s) % K + 1)) := ⟨_, rfl⟩
  have hD : ((K : Int) + (((Dz.num (Dz.lcg s) : Nat) : Int) % (K : Int) + 1) - 1) / (((Dz.num (Dz.lcg s) : Nat) : Int) % (K : Int) + 1) = (D : Int) := by rw [HD.out]; exact many_go K _ hK
  have hDK : D ≤ K := by rw [HD.out]; exact Dz.many_le K _ hK (by omega)
  rw [hD]
  clear hD
  have hs1 := Dz.lcg_lo s
  have hs2 := Dz.lcg_hi s
  obtain ⟨s1, HS⟩ : ∃ s1, Hid (s1 = Dz.lcg s) := ⟨_, rfl⟩
  rw [← HS.out] at hc1
  go_loopw [7, 20] (fun r c wr => ∃ i : Nat, i ≤ D ∧ r = .int .u32 (Dz.rowAt K s1 i) ∧ c = .int .u32 i ∧ wr.cell? ⟨p, 0, none⟩ = some (.int .u64 (Dz.seedAt s1 i)) ∧ wr.frozen? ⟨p, 0, none⟩ = false ∧ Below p w wr)
    (fun _ c _ => D - (intOf c).toNat)
  case atStart => exact ⟨0, Nat.zero_le _, rfl, rfl, hc1, hf1, hb1⟩
  case round =>
    obtain ⟨i, hi, rfl, rfl, hcr, hfr, hbr⟩ := hrel
    clear hc1 hf1 hb1
    by_cases hlt : i < D
    · go_wp2_with fail
      refine (number_any _ p _ hcr hfr).mono ?_
      rintro e w2 ⟨rfl, hw2⟩
      have hcw : w2.cell? ⟨p, 0, none⟩ = some (.int .u64 (Dz.seedAt s1 (i + 1))) := by rw [hw2]; exact World.cell?_setCell_same _ _ _ hcr
      have hfw : w2.frozen? ⟨p, 0, none⟩ = false := by rw [hw2, World.frozen?_setCell]; exact hfr
      have hbw : Below p w w2 := by rw [hw2]; exact hbr.setCell (p := ⟨p, 0, none⟩) (Nat.le_refl p) _
      clear hw2 hcr hfr hbr
      obtain ⟨n, HN⟩ : ∃ n, Hid (Dz.num (Dz.seedAt s1 (i + 1)) = n) := ⟨_, rfl⟩
      rw [show Dz.num (Dz.lcg (Dz.seedAt s1 i)) = n from HN.out]
      have hn0 : 0 ≤ (n : Int) % (K : Int) := Int.emod_nonneg _ (by omega)
      have hn1 : (n : Int) % (K : Int) < K := Int.emod_lt_of_pos _ (by omega)
      have hfree := Dz.rowAt_free K s1 hK i (by omega)
      have hjK := Dz.isFree_lt hK hfree
      have hrow := Dz.rowAt_lt K s1 hK i (by omega)
      have hpK := Dz.pow_K K hK2
      obtain ⟨j, HJ⟩ : ∃ j, Hid (Dz.fb (Dz.rowAt K s1 i).testBit K K (Dz.num (Dz.seedAt s1 (i + 1)) % K) = j) := ⟨_, rfl⟩
      rw [HJ.out] at hfree hjK
      rw [HN.out] at hfree
      have HF := hfree
      clear hfree
      go_wp2_with fail
      rw [show (n : Int) % (K : Int) = ((n % K : Nat) : Int) by simp]
      refine (freeBlock_any (Dz.rowAt K s1 i) (n % K) K _ hK hK2 (Nat.mod_lt _ (by omega)) (by omega) j HF).mono ?_
      rintro e w3 ⟨rfl, rfl⟩
      go_wp2
      go_roundw
      case rel =>
        refine ⟨i + 1, by omega, ?_, by go_num, hcw, hfw, hbw⟩
        rw [or_go _ j (by omega) (by omega)]
        show _ = Value.int .u32 ((Dz.rowAt K s1 i ||| 2 ^ Dz.fb (Dz.rowAt K s1 i).testBit K K (Dz.num (Dz.seedAt s1 (i + 1)) % K) : Nat) : Int)
        rw [HJ.out]
      case measure => simp [intOf]; omega
    · have HI : Hid (i = D) := by rw [Hid]; omega
      go_wp2
      go_ret
      refine ⟨ret_int ?_, hbr⟩
      rw [HI.out, HD.out, HS.out]
      rfl
set_option maxHeartbeats 400000 in
theorem row_bad (nonce blocks id : Int) (w : World) (h : ¬ (1 ≤ blocks ∧ blocks ≤ 32 ∧ 0 ≤ id ∧ id < 1048576)) :
    Calls Tryd.prog 27 #[.int .u64 nonce, .int .i64 blocks, .int .i64 id] w fun e w' => e = .returned (.tuple #[.int .u32 0, .int .i64 1]) ∧ w' = w := by
  by_cases h1 : blocks < 1
  · go_enter Tryd.func27, Tryd.ntmps27
    go_wp2
    go_ret2
    exact ⟨rfl, rfl⟩
  · by_cases h2 : 32 < blocks
    · go_enter Tryd.func27, Tryd.ntmps27
      go_wp2
      go_ret2
      exact ⟨rfl, rfl⟩
    · by_cases h3 : id < 0
      · go_enter Tryd.func27, Tryd.ntmps27
        go_wp2
        go_ret2
        exact ⟨rfl, rfl⟩
      · have h4 : 1048576 ≤ id := by omega
        go_enter Tryd.func27, Tryd.ntmps27
        go_wp2
        go_ret2
        exact ⟨rfl, rfl⟩

theorem seed_go (nonce id : Int) : IntKind.u64.wrap (nonce + IntKind.u64.wrap (id * 11400714819323198485)) = Dz.seed0 nonce id := by
  rw [u64w, u64w]; unfold Dz.seed0; omega

theorem ret_row {a b : Int} (h : a = b) : Ending.returned (.tuple #[.int .u32 a, .int .i64 0]) = .returned (.tuple #[.int .u32 b, .int .i64 0]) := by rw [h]

theorem plain_go (nonce id : Int) (K : Nat) (hK : 1 ≤ K) (hK2 : K ≤ 32) (hi0 : 0 ≤ id) (h4 : id % 4 = 0) :
    (2 : Int) ^ (id / 4 % (K : Int)).toNat % 4294967296 = ((Dz.rowOf nonce K id : Nat) : Int) := by
  have e : (id / 4 % (K : Int)).toNat = (id / 4).toNat % K := by
    obtain ⟨m, hm⟩ : ∃ m : Nat, id / 4 = (m : Int) := ⟨(id / 4).toNat, by omega⟩
    rw [hm, Int.toNat_natCast, show (m : Int) % (K : Int) = ((m % K : Nat) : Int) by simp, Int.toNat_natCast]
  have hlt : (id / 4).toNat % K < K := Nat.mod_lt _ (by omega)
  rw [Dz.rowOf, if_pos h4, e, pow_go _ (by omega)]

set_option maxHeartbeats 400000 in
theorem row_plain (nonce id : Int) (K : Nat) (w : World) (hK : 1 ≤ K) (hK2 : K ≤ 32) (hi0 : 0 ≤ id) (hi1 : id < 1048576) (h4 : id % 4 = 0) :
    Calls Tryd.prog 27 #[.int .u64 nonce, .int .i64 K, .int .i64 id] w fun e w' => e = .returned (.tuple #[.int .u32 (Dz.rowOf nonce K id), .int .i64 0]) ∧ w' = w := by
  have hj0 : 0 ≤ id / 4 % (K : Int) := Int.emod_nonneg _ (by omega)
  have hj1 : id / 4 % (K : Int) < (K : Int) := Int.emod_lt_of_pos _ (by omega)
  go_enter Tryd.func27, Tryd.ntmps27
  go_wp2
  go_ret2
  exact ⟨ret_row (plain_go nonce id K hK hK2 hi0 h4), rfl⟩

set_option maxHeartbeats 400000 in
theorem row_mixed (nonce id : Int) (K : Nat) (w : World) (hK : 1 ≤ K) (hK2 : K ≤ 32) (hi0 : 0 ≤ id) (hi1 : id < 1048576) (h4 : (id % 4 == 0) = false) :
    Calls Tryd.prog 27 #[.int .u64 nonce, .int .i64 K, .int .i64 id] w fun e w' => e = .returned (.tuple #[.int .u32 (Dz.rowOf nonce K id), .int .i64 0]) ∧ Below w.heap.size w w' := by
  have HR : Hid (Dz.rowOf nonce K id = Dz.mixed K (Dz.seed0 nonce id)) := by
    rw [Hid, Dz.rowOf, if_neg]; simpa using h4
  go_enter Tryd.func27, Tryd.ntmps27
  go_wp2_with fail
  rw [seed_go]
  refine (numbers_any _ _).mono ?_
  rintro e w1 ⟨rfl, hw1⟩
  have hc1 : w1.cell? ⟨w.heap.size, 0, none⟩ = some (.int .u64 (Dz.seed0 nonce id)) := by rw [hw1]; simp
  have hf1 : w1.frozen? ⟨w.heap.size, 0, none⟩ = false := by rw [hw1]; simp
  have hb1 : Below w.heap.size w w1 := by rw [hw1]; exact (Below.refl _ _).alloc (Nat.le_refl _) _
  clear hw1
  go_wp2_with fail
  refine (mixedRow_any _ _ K _ hK hK2 hc1 hf1).mono ?_
  rintro e w2 ⟨rfl, hb2⟩
  go_wp2
  go_ret2
  exact ⟨ret_row (by rw [HR.out]), hb1.trans hb2⟩

theorem row_any (nonce id : Int) (K : Nat) (w : World) (hK : 1 ≤ K) (hK2 : K ≤ 32) (hi0 : 0 ≤ id) (hi1 : id < 1048576) :
    Calls Tryd.prog 27 #[.int .u64 nonce, .int .i64 K, .int .i64 id] w fun e w' => e = .returned (.tuple #[.int .u32 (Dz.rowOf nonce K id), .int .i64 0]) ∧ Below w.heap.size w w' := by
  by_cases h4 : id % 4 = 0
  · refine (row_plain nonce id K w hK hK2 hi0 hi1 h4).mono ?_
    rintro e w' ⟨rfl, rfl⟩
    exact ⟨rfl, Below.refl _ _⟩
  · exact row_mixed nonce id K w hK hK2 hi0 hi1 (by simpa using h4)
end Go.Proofs.YtafipndlfkklfaaDoor
