import Derived.Test.YtfbbidaoljfloaaDoorT1
import Derived.Deep.QuietTactic
import Derived.BigQuiet
namespace Go.Proofs.YtfbbidaoljfloaaDoor
open Go.RowKit

theorem infoRefObj : (Tryd.prog.info? 158).map (fun i => (i.zero, i.size, i.bytes)) = some (some (.agg #[.string .empty, .int .u64 0, .int .i64 0, .int .i64 0]), 4, 40) := by kernel_rfl

/-- One thing more behind an owned row. -/
theorem Things.more {w : World} {e : TypeId} {n cap g : Nat} {l : List Thing} {o : Thing} {xs : List Value} (h : w.ownsRow 0 e 4 (.slice (some ⟨g, 0, none⟩) (n + 1) cap) (n + 1) (xs ++ o.cells)) (hx : xs = rowCells l) (hl : l.length = n) :
    Things w e (some ⟨g, 0, none⟩) (n + 1) cap (l ++ [o]) := by
  refine ⟨?_, by simp [hl]⟩
  rw [rowCells_append, ← hx]
  simpa [rowCells] using h

/-- The error of a Submit that is refused. -/
def subErr (blk : Int) (len n : Nat) : Int := if 32 * blk < (len : Int) then 2 else if n = 500 then 4 else 3

theorem ret_err {a b c : Int} (h : b = c) : Ending.returned (.tuple #[.int .i64 a, .int .i64 b]) = .returned (.tuple #[.int .i64 a, .int .i64 c]) := by rw [h]

set_option maxHeartbeats 400000 in
theorem refSubmit_no (bn : Nat) (blk : Int) (data : ByteArray) (nonce : Int) (sl : Option Addr) (n cap : Nat) (l : List Thing) (w : World)
    (hb : w.cell? ⟨bn, 2, none⟩ = some (.int .i64 blk)) (hc : w.cell? ⟨bn, 4, none⟩ = some (.slice sl n cap)) (h : Things w 158 sl n cap l) (hn : n ≤ 500) (h1 : 1 ≤ blk) (h2 : blk ≤ 32)
    (hno : 32 * blk < (data.size : Int) ∨ n = 500 ∨ 8 ≤ cntSt l 1) :
    Calls Tryd.prog 87 #[.pointer (some ⟨bn, 2, none⟩), .string data, .int .u64 nonce] w fun e w' =>
      e = .returned (.tuple #[.int .i64 0, .int .i64 (subErr blk data.size n)]) ∧ w' = w := by
  have HN : Hid (32 * blk < (data.size : Int) ∨ n = 500 ∨ 8 ≤ cntSt l 1) := hno
  clear hno
  by_cases ha : 32 * blk < (data.size : Int)
  · have q1 : decide (32 * blk < (data.size : Int)) = true := by simpa using ha
    have HE : Hid (2 = subErr blk data.size n) := by unfold subErr; rw [if_pos ha]; exact rfl
    go_enter Tryd.func87, Tryd.ntmps87
    go_wp2_with fail
    refine (in_any bn 1 sl n cap l _ hc h (by omega)).mono ?_
    rintro e w1 ⟨rfl, rfl⟩
    go_wp2
    go_ret2
    exact ⟨ret_err HE.out, rfl⟩
  · have q1 : decide (32 * blk < (data.size : Int)) = false := by simpa using ha
    by_cases hb5 : n = 500
    · have q2 : decide ((500 : Int) ≤ (n : Int)) = true := by simp; omega
      have HE : Hid (4 = subErr blk data.size n) := by unfold subErr; rw [if_neg ha, if_pos hb5]; exact rfl
      clear ha hb5
      go_enter Tryd.func87, Tryd.ntmps87
      go_wp2_with fail
      refine (in_any bn 1 sl n cap l _ hc h (by omega)).mono ?_
      rintro e w1 ⟨rfl, rfl⟩
      go_wp2
      go_ret2
      exact ⟨ret_err HE.out, rfl⟩
    · have q2 : decide ((500 : Int) ≤ (n : Int)) = false := by simp; omega
      have h8 : 8 ≤ cntSt l 1 := by
        rcases HN.out with q | q | q
        · exact absurd q ha
        · exact absurd q hb5
        · exact q
      have q3 : decide ((8 : Int) ≤ (cntSt l 1 : Int)) = true := by simp; omega
      have HE : Hid (3 = subErr blk data.size n) := by unfold subErr; rw [if_neg ha, if_neg hb5]; exact rfl
      clear ha hb5 h8
      go_enter Tryd.func87, Tryd.ntmps87
      go_wp2_with fail
      refine (in_any bn 1 sl n cap l _ hc h (by omega)).mono ?_
      rintro e w1 ⟨rfl, rfl⟩
      go_wp2
      go_ret2
      exact ⟨ret_err HE.out, rfl⟩

set_option maxHeartbeats 800000 in
theorem refSubmit_yes (bn : Nat) (blk : Int) (data : ByteArray) (nonce : Int) (sl : Option Addr) (n cap : Nat) (l : List Thing) (w : World)
    (hb : w.cell? ⟨bn, 2, none⟩ = some (.int .i64 blk)) (hc : w.cell? ⟨bn, 4, none⟩ = some (.slice sl n cap)) (hf : w.frozen? ⟨bn, 4, none⟩ = false) (h : Things w 158 sl n cap l) (hn : n < 500) (h1 : 1 ≤ blk) (h2 : blk ≤ 32)
    (hlong : ¬ 32 * blk < (data.size : Int)) (hfull : cntSt l 1 < 8) (hne : (Value.slice sl n cap).ownBlock ≠ some bn) :
    Calls Tryd.prog 87 #[.pointer (some ⟨bn, 2, none⟩), .string data, .int .u64 nonce] w fun e w' =>
      e = .returned (.tuple #[.int .i64 ((n : Int) + 1), .int .i64 0]) ∧ ∃ g' cap' w2, Turn (Value.slice sl n cap).ownBlock.toList w w2 ∧ w' = w2.setCell ⟨bn, 4, none⟩ (.slice (some ⟨g', 0, none⟩) (n + 1) cap') ∧
        Things w2 158 (some ⟨g', 0, none⟩) (n + 1) cap' (l ++ [⟨data, nonce, 1, 0⟩]) ∧ ((Value.slice sl n cap).ownBlock = some g' ∨ w.heap.size ≤ g') := by
  obtain ⟨i0, hi, hz0, hz1, hz2⟩ := info_parts infoRefObj
  have q1 : decide (32 * blk < (data.size : Int)) = false := by simpa using hlong
  have q2 : decide ((500 : Int) ≤ (n : Int)) = false := by simp; omega
  have q3 : decide ((8 : Int) ≤ (cntSt l 1 : Int)) = false := by simp; omega
  have hbn := World.block_lt_of_cell? w _ hc
  simp only at hbn
  go_enter Tryd.func87, Tryd.ntmps87
  go_wp2_with fail
  refine (in_any bn 1 sl n cap l _ hc h (by omega)).mono ?_
  rintro e w1 ⟨rfl, rfl⟩
  go_wp2_with (at_builtin; refine wpList_append_far _ rfl _ _ 143 rfl 158 i0 _ 4 40 Tryd.underlying143 hi hz0 hz1 hz2 rfl (by decide) (.slice sl n cap) n (rowCells l) rfl (h.owns.alloc _) ⟨w1.heap.size, 0, none⟩ 1 1 [.string data, .int .u64 nonce, .int .i64 1, .int .i64 0] rfl rfl (World.news_of_block (heap_alloc_new w1 _)) (by intro u hu; simp at hu; rcases hu with rfl | rfl | rfl | rfl <;> rfl) (by decide) (by unfold maxLen; omega) (by omega) ?_; intro g cap' w2 hown hgrow hat hlt; have hc2 := hgrow.cell_far ⟨bn, 4, none⟩ (by simp; omega) (Ne.symm hne); have hf2 := hgrow.frozen_far ⟨bn, 4, none⟩ (by simp; omega) (Ne.symm hne))
  go_ret2
  refine ⟨rfl, g, cap', w2, ((Turn.refl _ _).alloc _).grown hgrow (fun k hk => .inl (by simp [hk])), rfl, Things.more (o := ⟨data, nonce, 1, 0⟩) hown rfl h.len, ?_⟩
  rcases hat with q | q
  · exact .inl q
  · right
    rw [q]
    simp

theorem Things.set {w : World} {e : TypeId} {sl : Option Addr} {n cap g k : Nat} {l : List Thing} {o o' : Thing} {u : Value} (h : Things w e sl n cap l) (hs : sl = some ⟨g, 0, none⟩) (ho : l[k]? = some o) (j : Nat) (hj : j < 4) (hc : o'.cells = o.cells.set j u) :
    Things (w.setCell ⟨g, k * 4 + j, none⟩ u) e sl n cap (l.set k o') := by
  subst hs
  refine ⟨?_, by simpa using h.len⟩
  rw [← rowCells_set ho j hj hc]
  exact owns_setCell h.owns rfl _ _

theorem Things.drewN {w : World} {e : TypeId} {sl : Option Addr} {n cap : Nat} {l : List Thing} (h : Things w e sl n cap l) (m : Nat) : Things (w.drewN m) e sl n cap l := ⟨h.owns, h.len⟩

theorem set_get {l : List Thing} {k : Nat} {o o' : Thing} (ho : l[k]? = some o) : (l.set k o')[k]? = some o' := by
  obtain ⟨hk, _⟩ := List.getElem?_eq_some_iff.1 ho
  simp [hk]

set_option maxHeartbeats 400000 in
theorem refTick_none (bn : Nat) (sl : Option Addr) (n cap : Nat) (l : List Thing) (w : World) (hc : w.cell? ⟨bn, 4, none⟩ = some (.slice sl n cap)) (h : Things w 158 sl n cap l) (hn : n ≤ 500)
    (f2 : findI l 2 = -1) (f1 : findI l 1 = -1) :
    Calls Tryd.prog 61 #[.pointer (some ⟨bn, 2, none⟩)] w fun e w' => e = .returned (.tuple #[.int .i64 (-1), .int .i64 0]) ∧ w' = w := by
  have F2 : Hid (findI l 2 = -1) := f2
  have F1 : Hid (findI l 1 = -1) := f1
  clear f1 f2
  go_enter Tryd.func61, Tryd.ntmps61
  go_wp2_with fail
  refine (find_any bn 2 sl n cap l _ hc h (by omega)).mono ?_
  rintro e w1 ⟨rfl, rfl⟩
  rw [F2.out]
  go_wp2_with fail
  refine (find_any bn 1 sl n cap l _ hc h (by omega)).mono ?_
  rintro e w1 ⟨rfl, rfl⟩
  rw [F1.out]
  go_wp2
  go_ret2
  exact ⟨rfl, rfl⟩

set_option maxHeartbeats 400000 in
theorem refTick_fail (bn : Nat) (bud : Int) (sl : Option Addr) (n cap k : Nat) (l : List Thing) (o : Thing) (w : World) (hb : w.cell? ⟨bn, 3, none⟩ = some (.int .i64 bud)) (hc : w.cell? ⟨bn, 4, none⟩ = some (.slice sl n cap)) (h : Things w 158 sl n cap l) (hn : n ≤ 500)
    (hk : k < n) (ho : l[k]? = some o) (hfind : findI l 2 = (k : Int) ∨ (findI l 2 = -1 ∧ findI l 1 = (k : Int))) (hne : (Value.slice sl n cap).ownBlock ≠ some bn) (hbud : bud ≤ o.sent) :
    Calls Tryd.prog 61 #[.pointer (some ⟨bn, 2, none⟩)] w fun e w' => e = .returned (.tuple #[.int .i64 (-1), .int .i64 0]) ∧ Turn (Value.slice sl n cap).ownBlock.toList w w' ∧
      Things w' 158 sl n cap (l.set k { o with st := 4 }) := by
  obtain ⟨g, o', hsl, ho', c0, c1, c2, c3, hfz⟩ := h.at hk
  obtain rfl : o' = o := by rw [ho] at ho'; simpa using ho'.symm
  have HK : Hid (sl = some ⟨g, 0, none⟩) := hsl
  subst hsl
  have hgb : g ≠ bn := fun e => hne (by rw [e]; rfl)
  have hgb' : bn ≠ g := fun e => hgb e.symm
  have H1 := Things.set (o' := { o' with st := 2 }) (u := .int .i64 2) h rfl ho 2 (by omega) rfl
  have H2 := Things.set (o' := { o' with st := 4 }) (u := .int .i64 4) H1 rfl (set_get ho) 2 (by omega) rfl
  rw [List.set_set] at H2
  have T2 : Turn [g] w ((w.setCell ⟨g, k * 4 + 2, none⟩ (.int .i64 2)).setCell ⟨g, k * 4 + 2, none⟩ (.int .i64 4)) := ((Turn.refl [g] w).setCell (.inl (by simp)) _).setCell (.inl (by simp)) _
  have q1 : decide (bud ≤ o'.sent) = true := by simpa using hbud
  have hk0 : (0 : Int) ≤ (k : Int) := by omega
  have hk1 : (k : Int) < (n : Int) := by omega
  have HH2 : Hid _ := H2
  have HT2 : Hid _ := T2
  have hff := hfz (k * 4 + 2)
  clear H1 H2 T2 hfz ho ho' hbud HK
  rcases hfind with f2 | ⟨f2, f1⟩
  · have F2 : Hid (findI l 2 = (k : Int)) := f2
    clear f2
    go_enter Tryd.func61, Tryd.ntmps61
    go_wp2_with fail
    refine (find_any bn 2 _ n cap l _ hc h (by omega)).mono ?_
    rintro e w1 ⟨rfl, rfl⟩
    rw [F2.out]
    go_wp2
    go_quiet (fail)
    go_wp2
    go_ret2
    exact ⟨rfl, HT2.out.drewN _, HH2.out.drewN _⟩
  · have F2 : Hid (findI l 2 = -1) := f2
    have F1 : Hid (findI l 1 = (k : Int)) := f1
    clear f2 f1
    go_enter Tryd.func61, Tryd.ntmps61
    go_wp2_with fail
    refine (find_any bn 2 _ n cap l _ hc h (by omega)).mono ?_
    rintro e w1 ⟨rfl, rfl⟩
    rw [F2.out]
    go_wp2_with fail
    refine (find_any bn 1 _ n cap l _ hc h (by omega)).mono ?_
    rintro e w1 ⟨rfl, rfl⟩
    rw [F1.out]
    go_wp2
    go_quiet (fail)
    go_wp2
    go_ret2
    exact ⟨rfl, HT2.out.drewN _, HH2.out.drewN _⟩

set_option maxHeartbeats 400000 in
theorem refTick_send (bn : Nat) (bud : Int) (sl : Option Addr) (n cap k : Nat) (l : List Thing) (o : Thing) (w : World) (hb : w.cell? ⟨bn, 3, none⟩ = some (.int .i64 bud)) (hc : w.cell? ⟨bn, 4, none⟩ = some (.slice sl n cap)) (h : Things w 158 sl n cap l) (hn : n ≤ 500)
    (hk : k < n) (ho : l[k]? = some o) (hfind : findI l 2 = (k : Int) ∨ (findI l 2 = -1 ∧ findI l 1 = (k : Int))) (hne : (Value.slice sl n cap).ownBlock ≠ some bn) (hs0 : 0 ≤ o.sent) (hbud : o.sent < bud) (hbud2 : bud ≤ 1000) :
    Calls Tryd.prog 61 #[.pointer (some ⟨bn, 2, none⟩)] w fun e w' => e = .returned (.tuple #[.int .i64 k, .int .i64 o.sent]) ∧ Turn (Value.slice sl n cap).ownBlock.toList w w' ∧
      Things w' 158 sl n cap (l.set k { o with st := 2, sent := o.sent + 1 }) := by
  obtain ⟨g, o', hsl, ho', c0, c1, c2, c3, hfz⟩ := h.at hk
  obtain rfl : o' = o := by rw [ho] at ho'; simpa using ho'.symm
  subst hsl
  have hgb : g ≠ bn := fun e => hne (by rw [e]; rfl)
  have hgb' : bn ≠ g := fun e => hgb e.symm
  have H1 := Things.set (o' := { o' with st := 2 }) (u := .int .i64 2) h rfl ho 2 (by omega) rfl
  have H2 := Things.set (o' := { o' with st := 2, sent := o'.sent + 1 }) (u := .int .i64 (o'.sent + 1)) H1 rfl (set_get ho) 3 (by omega) rfl
  rw [List.set_set] at H2
  have T2 : Turn [g] w ((w.setCell ⟨g, k * 4 + 2, none⟩ (.int .i64 2)).setCell ⟨g, k * 4 + 3, none⟩ (.int .i64 (o'.sent + 1))) := ((Turn.refl [g] w).setCell (.inl (by simp)) _).setCell (.inl (by simp)) _
  have q1 : decide (bud ≤ o'.sent) = false := by simp; omega
  have hk0 : (0 : Int) ≤ (k : Int) := by omega
  have hk1 : (k : Int) < (n : Int) := by omega
  have HH2 : Hid _ := H2
  have HT2 : Hid _ := T2
  have hff := hfz (k * 4 + 2)
  have hff3 := hfz (k * 4 + 3)
  clear H1 H2 T2 hfz ho ho'
  rcases hfind with f2 | ⟨f2, f1⟩
  · have F2 : Hid (findI l 2 = (k : Int)) := f2
    clear f2
    go_enter Tryd.func61, Tryd.ntmps61
    go_wp2_with fail
    refine (find_any bn 2 _ n cap l _ hc h (by omega)).mono ?_
    rintro e w1 ⟨rfl, rfl⟩
    rw [F2.out]
    go_wp2
    go_quiet (fail)
    go_wp2
    go_ret2
    exact ⟨rfl, HT2.out.drewN _, HH2.out.drewN _⟩
  · have F2 : Hid (findI l 2 = -1) := f2
    have F1 : Hid (findI l 1 = (k : Int)) := f1
    clear f2 f1
    go_enter Tryd.func61, Tryd.ntmps61
    go_wp2_with fail
    refine (find_any bn 2 _ n cap l _ hc h (by omega)).mono ?_
    rintro e w1 ⟨rfl, rfl⟩
    rw [F2.out]
    go_wp2_with fail
    refine (find_any bn 1 _ n cap l _ hc h (by omega)).mono ?_
    rintro e w1 ⟨rfl, rfl⟩
    rw [F1.out]
    go_wp2
    go_quiet (fail)
    go_wp2
    go_ret2
    exact ⟨rfl, HT2.out.drewN _, HH2.out.drewN _⟩

end Go.Proofs.YtfbbidaoljfloaaDoor
