import Derived.Test.YtfbbidaoljfloaaDoorJ22
import Derived.Deep.RegionHeld3
import Derived.Deep.RegionLaw
import Derived.Deep.MidRow
namespace Go.Proofs.YtfbbidaoljfloaaDoor
open Go.RowKit

/-- A receiver's cells, as they lie. -/
structure RC where
  lk : Int
  blk : Nat
  num : Nat
  rnk : Nat
  bks : Nat
  len : Nat
  rows : Nat → Nat
  sls : Nat → Value
  srk : Nat
  dlv : Nat → Bool
  rdy : Value

def RC.cell (R : RC) (j : Nat) : Value :=
  if j = 0 then .int .i32 R.lk else if j = 1 then .int .u32 0 else if j = 2 then .int .i64 R.blk else if j = 3 then .int .i64 R.num else if j = 4 then .int .i64 R.rnk else if j = 5 then .int .i64 R.bks else if j = 6 then .int .i64 R.len
  else if j < 71 then (if (j - 7) % 2 = 0 then .int .u32 (R.rows ((j - 7) / 2)) else R.sls ((j - 7) / 2))
  else if j = 71 then .int .i64 R.srk else if j < 573 then .bool (R.dlv (j - 72)) else R.rdy

def RC.arr (R : RC) : Array Value := Array.ofFn (n := 574) (fun i => R.cell i.val)
def RAt (w : World) (br : Nat) (R : RC) : Prop := w.heap[br]? = some (.cells R.arr 123 (0, 0))

theorem RC.arr_get (R : RC) {j : Nat} (hj : j < 574) : R.arr[j]? = some (R.cell j) := by
  unfold RC.arr
  rw [Array.getElem?_ofFn]
  simp [hj]
theorem RC.arr_size (R : RC) : R.arr.size = 574 := by unfold RC.arr; rw [Array.size_ofFn]
theorem RAt.cell {w : World} {br : Nat} {R : RC} (h : RAt w br R) {j : Nat} (hj : j < 574) : w.cell? ⟨br, j, none⟩ = some (R.cell j) := by
  rw [cell_of_row _ _ _ _ _ _ h]
  exact R.arr_get hj
theorem RAt.frozen {w : World} {br : Nat} {R : RC} (h : RAt w br R) (j : Nat) : w.frozen? ⟨br, j, none⟩ = false := frozen_of_row _ _ _ _ _ h
theorem RAt.turn {S : List Nat} {w w' : World} {br : Nat} {R : RC} (h : RAt w br R) (ht : Turn S w w') (hn : br ∉ S) : RAt w' br R := ht.cells h hn
theorem RAt.put {w : World} {br : Nat} {R : RC} (h : RAt w br R) (R' : RC) (j : Nat) (v : Value) (hR : ∀ i, i < 574 → R'.cell i = if i = j then v else R.cell i) : RAt (w.setCell ⟨br, j, none⟩ v) br R' := by
  unfold RAt
  rw [heap_setCell_same _ _ _ _ _ _ h]
  have e : R.arr.setIfInBounds j v = R'.arr := by
    apply Array.ext
    · rw [Array.size_setIfInBounds, R.arr_size, R'.arr_size]
    · intro i h1 h2
      rw [R'.arr_size] at h2
      have e1 : (R'.arr)[i]? = some (R'.cell i) := R'.arr_get h2
      have e2 : (R.arr)[i]? = some (R.cell i) := R.arr_get h2
      have e3 : (R.arr.setIfInBounds j v)[i]? = some (R'.cell i) := by
        rw [hR i h2]
        by_cases hi : i = j
        · subst hi
          rw [Array.getElem?_setIfInBounds_self_of_lt (by rw [R.arr_size]; exact h2), if_pos rfl]
        · rw [Array.getElem?_setIfInBounds_ne (fun q => hi q.symm), e2, if_neg hi]
      have f1 := (Array.getElem?_eq_some_iff.1 e3).2
      have f2 := (Array.getElem?_eq_some_iff.1 e1).2
      exact f1.trans f2.symm
  rw [e]

theorem setCells_row {b : Nat} {t : TypeId} : ∀ (vs : List Value) (o : Nat) (w : World) (arr : Array Value), w.heap[b]? = some (.cells arr t (0, 0)) →
    ∃ arr', (w.setCells b o vs).heap[b]? = some (.cells arr' t (0, 0)) ∧ arr'.size = arr.size ∧ ∀ i, i < arr.size → arr'[i]? = if o ≤ i ∧ i < o + vs.length then vs[i - o]? else arr[i]? := by
  intro vs
  induction vs with
  | nil => intro o w arr h; exact ⟨arr, h, rfl, fun i _ => by rw [if_neg (by simp)]⟩
  | cons v r ih =>
    intro o w arr h
    obtain ⟨arr', h1, h2, h3⟩ := ih (o + 1) (w.setCell ⟨b, o, none⟩ v) (arr.setIfInBounds o v) (heap_setCell_same _ _ _ _ _ _ h)
    refine ⟨arr', h1, by rw [h2, Array.size_setIfInBounds], fun i hi => ?_⟩
    rw [h3 i (by rw [Array.size_setIfInBounds]; exact hi)]
    by_cases hio : i = o
    · subst hio
      rw [if_neg (by omega), if_pos (by simp), Array.getElem?_setIfInBounds_self_of_lt hi]
      simp
    · rw [Array.getElem?_setIfInBounds_ne (fun q => hio q.symm)]
      by_cases hr : o + 1 ≤ i ∧ i < o + 1 + r.length
      · rw [if_pos hr, if_pos (by simp; omega)]
        obtain ⟨d, rfl⟩ : ∃ d, i = o + 1 + d := ⟨i - (o + 1), by omega⟩
        rw [show o + 1 + d - o = d + 1 by omega, show o + 1 + d - (o + 1) = d by omega]
        simp
      · rw [if_neg hr, if_neg (by simp; omega)]

theorem RAt.puts {w : World} {br : Nat} {R : RC} (h : RAt w br R) (R' : RC) (o : Nat) (vs : List Value) (hR : ∀ i, i < 574 → some (R'.cell i) = if o ≤ i ∧ i < o + vs.length then vs[i - o]? else some (R.cell i)) : RAt (w.setCells br o vs) br R' := by
  obtain ⟨arr', h1, h2, h3⟩ := setCells_row vs o w R.arr h
  unfold RAt
  rw [h1]
  have e : arr' = R'.arr := by
    rw [R.arr_size] at h2 h3
    apply Array.ext
    · rw [h2, R'.arr_size]
    · intro i k1 k2
      rw [R'.arr_size] at k2
      have e1 := R'.arr_get k2
      have e2 := h3 i k2
      rw [R.arr_get k2, ← hR i k2] at e2
      exact ((Array.getElem?_eq_some_iff.1 e2).2).trans ((Array.getElem?_eq_some_iff.1 e1).2).symm
  rw [e]

theorem Turn.setCells {S : List Nat} {a : World} {b : Nat} (hp : b ∈ S) : ∀ (vs : List Value) (o : Nat) {w : World}, Turn S a w → Turn S a (w.setCells b o vs) := by
  intro vs
  induction vs with
  | nil => intro o w h; exact h
  | cons v r ih => intro o w h; exact ih (o + 1) (h.setCell (p := ⟨b, o, none⟩) (.inl hp) v)

theorem RAt.there {w : World} {br : Nat} {R : RC} (h : RAt w br R) {o n : Nat} (hn : o + n ≤ 574) : w.there br o n := fun j hj => ⟨by rw [h.cell (by omega)]; rfl, h.frozen _⟩

/-- An empty set's cells. -/
def emptyAt (d : Nat) : Value := if d = 64 then Value.int .i64 0 else if d % 2 = 0 then .int .u32 0 else .slice none 0 0
def emptySet : List Value := (List.range 65).map emptyAt
theorem emptySet_at (d : Nat) (hd : d < 65) : emptySet[d]? = some (emptyAt d) := by
  unfold emptySet
  rw [List.getElem?_map, List.getElem?_range hd]
  rfl
theorem emptySet_len : emptySet.length = 65 := by unfold emptySet; rw [List.length_map, List.length_range]
theorem emptySet_size : emptySet.toArray.size = 65 := by rw [List.size_toArray, emptySet_len]
theorem emptySet_one : emptySet.toArray.all (·.oneCell') = true := by kernel_rfl

/-- The set emptied. -/
def RC.emptied (R : RC) : RC := { R with rows := fun _ => 0, sls := fun _ => .slice none 0 0, srk := 0 }
theorem RC.emptied_cell (R : RC) (i : Nat) (_ : i < 574) : some (R.emptied.cell i) = if 7 ≤ i ∧ i < 7 + emptySet.length then emptySet[i - 7]? else some (R.cell i) := by
  rw [emptySet_len]
  by_cases h : 7 ≤ i ∧ i < 7 + 65
  · rw [if_pos h, emptySet_at _ (by omega)]
    obtain ⟨d, rfl⟩ : ∃ d, i = 7 + d := ⟨i - 7, by omega⟩
    unfold RC.cell emptyAt RC.emptied
    rw [if_neg (by omega), if_neg (by omega), if_neg (by omega), if_neg (by omega), if_neg (by omega), if_neg (by omega), if_neg (by omega), show 7 + d - 7 = d by omega]
    by_cases h2 : d = 64
    · subst h2; rfl
    · rw [if_pos (by omega), if_neg h2]
      by_cases h3 : d % 2 = 0
      · rw [if_pos h3, if_pos h3]; rfl
      · rw [if_neg h3, if_neg h3]
  · rw [if_neg h]
    unfold RC.cell RC.emptied
    by_cases h7 : i < 7
    · have : i = 0 ∨ i = 1 ∨ i = 2 ∨ i = 3 ∨ i = 4 ∨ i = 5 ∨ i = 6 := by omega
      rcases this with rfl | rfl | rfl | rfl | rfl | rfl | rfl <;> rfl
    · have a1 : ¬ i < 71 := by omega
      have a2 : ¬ i = 71 := by omega
      simp only [a1, a2, if_false]
theorem RAt.empty {w : World} {br : Nat} {R : RC} (h : RAt w br R) : RAt (w.setCells br 7 emptySet) br R.emptied := h.puts _ 7 emptySet R.emptied_cell

theorem RAt.setNum {w : World} {br : Nat} {R : RC} (h : RAt w br R) (x : Nat) : RAt (w.setCell ⟨br, 3, none⟩ (.int .i64 x)) br { R with num := x } := h.put _ 3 _ (fun i _ => by by_cases hi : i = 3 <;> simp [RC.cell, hi])
theorem RAt.setRnk {w : World} {br : Nat} {R : RC} (h : RAt w br R) (x : Nat) : RAt (w.setCell ⟨br, 4, none⟩ (.int .i64 x)) br { R with rnk := x } := h.put _ 4 _ (fun i _ => by by_cases hi : i = 4 <;> simp [RC.cell, hi])
theorem RAt.setBks {w : World} {br : Nat} {R : RC} (h : RAt w br R) (x : Nat) : RAt (w.setCell ⟨br, 5, none⟩ (.int .i64 x)) br { R with bks := x } := h.put _ 5 _ (fun i _ => by by_cases hi : i = 5 <;> simp [RC.cell, hi])
theorem RAt.setLen {w : World} {br : Nat} {R : RC} (h : RAt w br R) (x : Nat) : RAt (w.setCell ⟨br, 6, none⟩ (.int .i64 x)) br { R with len := x } := h.put _ 6 _ (fun i _ => by by_cases hi : i = 6 <;> simp [RC.cell, hi])
theorem RAt.setLk {w : World} {br : Nat} {R : RC} (h : RAt w br R) (x : Int) : RAt (w.setCell ⟨br, 0, none⟩ (.int .i32 x)) br { R with lk := x } := h.put _ 0 _ (fun i _ => by by_cases hi : i = 0 <;> simp [RC.cell, hi])
theorem RAt.setSrk {w : World} {br : Nat} {R : RC} (h : RAt w br R) (x : Nat) : RAt (w.setCell ⟨br, 71, none⟩ (.int .i64 x)) br { R with srk := x } := h.put _ 71 _ (fun i _ => by by_cases hi : i = 71 <;> simp [RC.cell, hi])
theorem RAt.setRdy {w : World} {br : Nat} {R : RC} (h : RAt w br R) (v : Value) : RAt (w.setCell ⟨br, 573, none⟩ v) br { R with rdy := v } := h.put _ 573 _ (fun i hi => by
  by_cases h5 : i = 573
  · simp [RC.cell, h5]
  · have : i < 573 := by omega
    simp [RC.cell, h5, this])
theorem RAt.setDlv {w : World} {br : Nat} {R : RC} (h : RAt w br R) (n : Nat) (hn : n < 501) (b : Bool) : RAt (w.setCell ⟨br, 72 + n, none⟩ (.bool b)) br { R with dlv := fun i => if i = n then b else R.dlv i } := h.put _ (72 + n) _ (fun i hi => by
  by_cases h5 : i = 72 + n
  · subst h5
    unfold RC.cell
    rw [if_pos rfl, if_neg (by omega), if_neg (by omega), if_neg (by omega), if_neg (by omega), if_neg (by omega), if_neg (by omega), if_neg (by omega), if_neg (by omega), if_neg (by omega), if_pos (by omega), show 72 + n - 72 = n by omega]
    simp
  · rw [if_neg h5]
    unfold RC.cell
    by_cases hb : i < 573
    · by_cases hc : 72 ≤ i
      · have : ¬ i - 72 = n := by omega
        simp only [this, if_false]
      · have a1 : i < 71 ∨ i = 71 := by omega
        rcases a1 with a1 | a1
        · simp only [a1, if_true]
        · subst a1; rfl
    · have a1 : ¬ i < 71 := by omega
      have a2 : ¬ i = 71 := by omega
      simp only [a1, a2, hb, if_false])
theorem RAt.setRow {w : World} {br : Nat} {R : RC} (h : RAt w br R) (j : Nat) (hj : j < 32) (x : Nat) : RAt (w.setCell ⟨br, 7 + j * 2, none⟩ (.int .u32 x)) br { R with rows := fun i => if i = j then x else R.rows i } := h.put _ (7 + j * 2) _ (fun i hi => by
  unfold RC.cell
  by_cases h5 : i = 7 + j * 2
  · subst h5
    rw [if_pos rfl, if_neg (by omega), if_neg (by omega), if_neg (by omega), if_neg (by omega), if_neg (by omega), if_neg (by omega), if_neg (by omega), if_pos (by omega), if_pos (by omega), show (7 + j * 2 - 7) / 2 = j by omega]
    simp
  · rw [if_neg h5]
    by_cases h7 : 7 ≤ i ∧ i < 71
    · by_cases hp : (i - 7) % 2 = 0
      · have : ¬ (i - 7) / 2 = j := by omega
        simp only [this, if_false]
      · simp only [hp, if_false]
    · by_cases h8 : i < 7
      · have : i = 0 ∨ i = 1 ∨ i = 2 ∨ i = 3 ∨ i = 4 ∨ i = 5 ∨ i = 6 := by omega
        rcases this with rfl | rfl | rfl | rfl | rfl | rfl | rfl <;> rfl
      · have a1 : ¬ i < 71 := by omega
        simp only [a1, if_false])
theorem RAt.setSl {w : World} {br : Nat} {R : RC} (h : RAt w br R) (j : Nat) (hj : j < 32) (v : Value) : RAt (w.setCell ⟨br, 7 + j * 2 + 1, none⟩ v) br { R with sls := fun i => if i = j then v else R.sls i } := h.put _ (7 + j * 2 + 1) _ (fun i hi => by
  unfold RC.cell
  by_cases h5 : i = 7 + j * 2 + 1
  · subst h5
    rw [if_pos rfl, if_neg (by omega), if_neg (by omega), if_neg (by omega), if_neg (by omega), if_neg (by omega), if_neg (by omega), if_neg (by omega), if_pos (by omega), if_neg (by omega), show (7 + j * 2 + 1 - 7) / 2 = j by omega]
    simp
  · rw [if_neg h5]
    by_cases h7 : 7 ≤ i ∧ i < 71
    · by_cases hp : (i - 7) % 2 = 0
      · simp only [hp, if_true]
      · have : ¬ (i - 7) / 2 = j := by omega
        simp only [this, if_false]
    · by_cases h8 : i < 7
      · have : i = 0 ∨ i = 1 ∨ i = 2 ∨ i = 3 ∨ i = 4 ∨ i = 5 ∨ i = 6 := by omega
        rcases this with rfl | rfl | rfl | rfl | rfl | rfl | rfl <;> rfl
      · have a1 : ¬ i < 71 := by omega
        simp only [a1, if_false])
theorem RAt.rowAt {w : World} {br : Nat} {R : RC} (h : RAt w br R) {j : Nat} (hj : j < 32) : w.cell? ⟨br, 7 + j * 2, none⟩ = some (.int .u32 (R.rows j)) := by
  rw [h.cell (by omega)]
  unfold RC.cell
  rw [if_neg (by omega), if_neg (by omega), if_neg (by omega), if_neg (by omega), if_neg (by omega), if_neg (by omega), if_neg (by omega), if_pos (by omega), if_pos (by omega), show (7 + j * 2 - 7) / 2 = j by omega]
theorem RAt.slAt {w : World} {br : Nat} {R : RC} (h : RAt w br R) {j : Nat} (hj : j < 32) : w.cell? ⟨br, 7 + j * 2 + 1, none⟩ = some (R.sls j) := by
  rw [h.cell (by omega)]
  unfold RC.cell
  rw [if_neg (by omega), if_neg (by omega), if_neg (by omega), if_neg (by omega), if_neg (by omega), if_neg (by omega), if_neg (by omega), if_pos (by omega), if_neg (by omega), show (7 + j * 2 + 1 - 7) / 2 = j by omega]
theorem RAt.dlvAt {w : World} {br : Nat} {R : RC} (h : RAt w br R) {n : Nat} (hn : n < 501) : w.cell? ⟨br, 72 + n, none⟩ = some (.bool (R.dlv n)) := by
  rw [h.cell (by omega)]
  unfold RC.cell
  rw [if_neg (by omega), if_neg (by omega), if_neg (by omega), if_neg (by omega), if_neg (by omega), if_neg (by omega), if_neg (by omega), if_neg (by omega), if_neg (by omega), if_pos (by omega), show 72 + n - 72 = n by omega]
theorem RAt.lt {w : World} {br : Nat} {R : RC} (h : RAt w br R) : br < w.heap.size := lt_of_heap h

theorem infoSet : (Tryd.prog.info? 119).map (·.size) = some 65 := by kernel_rfl

set_option maxRecDepth 100000 in
set_option maxHeartbeats 1600000 in
theorem begin_any (br : Nat) (R : RC) (x1 x2 x3 : Nat) (sl : Value) (w : World) (h : RAt w br R) (h1 : 1 ≤ R.blk) (h2 : R.blk ≤ 32) (b2 : x2 < 65536) :
    Calls Tryd.prog 77 #[.pointer (some ⟨br, 0, none⟩), .agg #[.int .i64 x1, .int .i64 x2, .int .u32 x3, sl]] w fun e w' => e = .returned (.tuple #[]) ∧ Turn [br] w w' ∧ RAt w' br (RC.emptied { R with num := x1, rnk := 0, bks := blocksOf x2 R.blk, len := x2 }) := by
  have c2 : w.cell? ⟨br, 2, none⟩ = some (.int .i64 R.blk) := h.cell (by decide)
  have c3 : w.cell? ⟨br, 3, none⟩ = some (.int .i64 R.num) := h.cell (by decide)
  have c4 : w.cell? ⟨br, 4, none⟩ = some (.int .i64 R.rnk) := h.cell (by decide)
  have c5 : w.cell? ⟨br, 5, none⟩ = some (.int .i64 R.bks) := h.cell (by decide)
  have c6 : w.cell? ⟨br, 6, none⟩ = some (.int .i64 R.len) := h.cell (by decide)
  have hf := h.frozen
  have hlt : br < w.heap.size := lt_of_heap h
  have HR : Hid (RAt w br R) := h
  clear h
  go_enter Tryd.func77, Tryd.ntmps77
  go_wp2_with fail
  refine wp_region_noPanic ?_
  go_region_law (first | (go_simp; go_at_call 72; refine (blockCount_any x2 R.blk _ h1 h2 (by omega)).mono ?_; rintro e w' ⟨rfl, rfl⟩))
  all_goals
    refine NoPanic.normal ?_
    go_wp2_with (refine wpList_store_mid rfl 119 _ _ rfl br 7 emptySet.toArray rfl rfl ?thr (by rw [emptySet_size]; exact infoSet) emptySet_one ?_)
    case thr =>
      have h6 := (((HR.out.setNum x1).setRnk 0).setBks (blocksOf x2 R.blk)).setLen x2
      rw [emptySet_size]
      exact (h6.turn (((Turn.refl [] _).alloc (.cells #[.int .i64 x1, .int .i64 x2, .int .u32 x3, sl] 125)).drew) (by simp)).there (by decide)
    have h6 := (((HR.out.setNum x1).setRnk 0).setBks (blocksOf x2 R.blk)).setLen x2
    have h7 := h6.turn (((Turn.refl [] _).alloc (.cells #[.int .i64 x1, .int .i64 x2, .int .u32 x3, sl] 125)).drew) (by simp)
    refine bodyPost_end (results_none rfl _ _ _) rfl ⟨rfl, ?_, h7.empty⟩
    exact Turn.setCells (by simp) _ _ ((((((Turn.refl [br] w).setCell (.inl (by simp)) _).setCell (.inl (by simp)) _).setCell (.inl (by simp)) _).setCell (.inl (by simp)) _).alloc _).drew

end Go.Proofs.YtfbbidaoljfloaaDoor
