import Derived.Test.YtfbbidaoljfloaaDoorJ6
import Derived.Deep.QuietTactic
import Derived.BigQuiet
namespace Go.Proofs.YtfbbidaoljfloaaDoor
open Go.RowKit

theorem infoRefObj : (Tryd.prog.info? 158).map (fun i => (i.zero, i.size, i.bytes)) = some (some (.agg #[.string .empty, .int .u64 0, .int .i64 0, .int .i64 0]), 4, 40) := by kernel_rfl

/-- One thing more behind an owned row. -/
theorem Things.more {w : World} {e : TypeId} {n cap g : Nat} {l : List Thing} {o : Thing} {xs : List Value} (h : w.ownsRow 0 e 4 (.slice (some ⟨g, 0, none⟩) (n + 1) cap) (n + 1) (xs ++ o.cells)) (hx : xs = rowCells l) (hl : l.length = n) :
    Things w e (some ⟨g, 0, none⟩) (n + 1) cap (l ++ [o]) := by
  refine ⟨?_, by simp [hl]⟩
  rw [rowCells_append, ← hx]
  simpa [rowCells] using h

/-- The error of a Submit that is refused. -/
def subErr (blk : Int) (len n : Nat) : Int := if 32 * blk < (len : Int) then 2 else if n = 500 then 4 else 3

theorem ret_err {a b c : Int} (h : b = c) : Ending.returned (.tuple #[.int .i64 a, .int .i64 b]) = .returned (.tuple #[.int .i64 a, .int .i64 c]) := by rw [h]

set_option maxHeartbeats 400000 in
theorem refSubmit_no (bn : Nat) (blk : Int) (data : ByteArray) (nonce : Int) (sl : Option Addr) (n cap : Nat) (l : List Thing) (w : World)
    (hb : w.cell? ⟨bn, 2, none⟩ = some (.int .i64 blk)) (hc : w.cell? ⟨bn, 4, none⟩ = some (.slice sl n cap)) (h : Things w 158 sl n cap l) (hn : n ≤ 500) (h1 : 1 ≤ blk) (h2 : blk ≤ 32)
    (hno : 32 * blk < (data.size : Int) ∨ n = 500 ∨ 8 ≤ cntSt l 1) :
    Calls Tryd.prog 87 #[.pointer (some ⟨bn, 2, none⟩), .string data, .int .u64 nonce] w fun e w' =>
      e = .returned (.tuple #[.int .i64 0, .int .i64 (subErr blk data.size n)]) ∧ w' = w := by
  have HN : Hid (32 * blk < (data.size : Int) ∨ n = 500 ∨ 8 ≤ cntSt l 1) := hno
  clear hno
  by_cases ha : 32 * blk < (data.size : Int)
  · have q1 : decide (32 * blk < (data.size : Int)) = true := by simpa using ha
    have HE : Hid (2 = subErr blk data.size n) := by unfold subErr; rw [if_pos ha]; exact rfl
    go_enter Tryd.func87, Tryd.ntmps87
    go_wp2_with fail
    refine (in_any bn 1 sl n cap l _ hc h (by omega)).mono ?_
    rintro e w1 ⟨rfl, rfl⟩
    go_wp2
    go_ret2
    exact ⟨ret_err HE.out, rfl⟩
  · have q1 : decide (32 * blk < (data.size : Int)) = false := by simpa using ha
    by_cases hb5 : n = 500
    · have q2 : decide ((500 : Int) ≤ (n : Int)) = true := by simp; omega
      have HE : Hid (4 = subErr blk data.size n) := by unfold subErr; rw [if_neg ha, if_pos hb5]; exact rfl
      clear ha hb5
      go_enter Tryd.func87, Tryd.ntmps87
      go_wp2_with fail
      refine (in_any bn 1 sl n cap l _ hc h (by omega)).mono ?_
      rintro e w1 ⟨rfl, rfl⟩
      go_wp2
      go_ret2
      exact ⟨ret_err HE.out, rfl⟩
    · have q2 : decide ((500 : Int) ≤ (n : Int)) = false := by simp; omega
      have h8 : 8 ≤ cntSt l 1 := by
        rcases HN.out with q | q | q
        · exact absurd q ha
        · exact absurd q hb5
        · exact q
      have q3 : decide ((8 : Int) ≤ (cntSt l 1 : Int)) = true := by simp; omega
      have HE : Hid (3 = subErr blk data.size n) := by unfold subErr; rw [if_neg ha, if_neg hb5]; exact rfl
      clear ha hb5 h8
      go_enter Tryd.func87, Tryd.ntmps87
      go_wp2_with fail
      refine (in_any bn 1 sl n cap l _ hc h (by omega)).mono ?_
      rintro e w1 ⟨rfl, rfl⟩
      go_wp2
      go_ret2
      exact ⟨ret_err HE.out, rfl⟩

set_option maxHeartbeats 800000 in
theorem refSubmit_yes (bn : Nat) (blk : Int) (data : ByteArray) (nonce : Int) (sl : Option Addr) (n cap : Nat) (l : List Thing) (w : World)
    (hb : w.cell? ⟨bn, 2, none⟩ = some (.int .i64 blk)) (hc : w.cell? ⟨bn, 4, none⟩ = some (.slice sl n cap)) (hf : w.frozen? ⟨bn, 4, none⟩ = false) (h : Things w 158 sl n cap l) (hn : n < 500) (h1 : 1 ≤ blk) (h2 : blk ≤ 32)
    (hlong : ¬ 32 * blk < (data.size : Int)) (hfull : cntSt l 1 < 8) (hne : (Value.slice sl n cap).ownBlock ≠ some bn) :
    Calls Tryd.prog 87 #[.pointer (some ⟨bn, 2, none⟩), .string data, .int .u64 nonce] w fun e w' =>
      e = .returned (.tuple #[.int .i64 ((n : Int) + 1), .int .i64 0]) ∧ ∃ g' cap' w2, Turn (Value.slice sl n cap).ownBlock.toList w w2 ∧ w' = w2.setCell ⟨bn, 4, none⟩ (.slice (some ⟨g', 0, none⟩) (n + 1) cap') ∧
        Things w2 158 (some ⟨g', 0, none⟩) (n + 1) cap' (l ++ [⟨data, nonce, 1, 0⟩]) ∧ ((Value.slice sl n cap).ownBlock = some g' ∨ w.heap.size ≤ g') := by
  obtain ⟨i0, hi, hz0, hz1, hz2⟩ := info_parts infoRefObj
  have q1 : decide (32 * blk < (data.size : Int)) = false := by simpa using hlong
  have q2 : decide ((500 : Int) ≤ (n : Int)) = false := by simp; omega
  have q3 : decide ((8 : Int) ≤ (cntSt l 1 : Int)) = false := by simp; omega
  have hbn := World.block_lt_of_cell? w _ hc
  simp only at hbn
  go_enter Tryd.func87, Tryd.ntmps87
  go_wp2_with fail
  refine (in_any bn 1 sl n cap l _ hc h (by omega)).mono ?_
  rintro e w1 ⟨rfl, rfl⟩
  go_wp2_with (at_builtin; refine wpList_append_far _ rfl _ _ 143 rfl 158 i0 _ 4 40 Tryd.underlying143 hi hz0 hz1 hz2 rfl (by decide) (.slice sl n cap) n (rowCells l) rfl (h.owns.alloc _) ⟨w1.heap.size, 0, none⟩ 1 1 [.string data, .int .u64 nonce, .int .i64 1, .int .i64 0] rfl rfl (World.news_of_block (heap_alloc_new w1 _)) (by intro u hu; simp at hu; rcases hu with rfl | rfl | rfl | rfl <;> rfl) (by decide) (by unfold maxLen; omega) (by omega) ?_; intro g cap' w2 hown hgrow hat hlt; have hc2 := hgrow.cell_far ⟨bn, 4, none⟩ (by simp; omega) (Ne.symm hne); have hf2 := hgrow.frozen_far ⟨bn, 4, none⟩ (by simp; omega) (Ne.symm hne))
  go_ret2
  refine ⟨rfl, g, cap', w2, ((Turn.refl _ _).alloc _).grown hgrow (fun k hk => .inl (by simp [hk])), rfl, Things.more (o := ⟨data, nonce, 1, 0⟩) hown rfl h.len, ?_⟩
  rcases hat with q | q
  · exact .inl q
  · right
    rw [q]
    simp

theorem Things.set {w : World} {e : TypeId} {sl : Option Addr} {n cap g k : Nat} {l : List Thing} {o o' : Thing} {u : Value} (h : Things w e sl n cap l) (hs : sl = some ⟨g, 0, none⟩) (ho : l[k]? = some o) (j : Nat) (hj : j < 4) (hc : o'.cells = o.cells.set j u) :
    Things (w.setCell ⟨g, k * 4 + j, none⟩ u) e sl n cap (l.set k o') := by
  subst hs
  refine ⟨?_, by simpa using h.len⟩
  rw [← rowCells_set ho j hj hc]
  exact owns_setCell h.owns rfl _ _

theorem Things.drewN {w : World} {e : TypeId} {sl : Option Addr} {n cap : Nat} {l : List Thing} (h : Things w e sl n cap l) (m : Nat) : Things (w.drewN m) e sl n cap l := ⟨h.owns, h.len⟩

theorem set_get {l : List Thing} {k : Nat} {o o' : Thing} (ho : l[k]? = some o) : (l.set k o')[k]? = some o' := by
  obtain ⟨hk, _⟩ := List.getElem?_eq_some_iff.1 ho
  simp [hk]

set_option maxHeartbeats 400000 in
theorem refTick_none (bn : Nat) (sl : Option Addr) (n cap : Nat) (l : List Thing) (w : World) (hc : w.cell? ⟨bn, 4, none⟩ = some (.slice sl n cap)) (h : Things w 158 sl n cap l) (hn : n ≤ 500)
    (f2 : findI l 2 = -1) (f1 : findI l 1 = -1) :
    Calls Tryd.prog 61 #[.pointer (some ⟨bn, 2, none⟩)] w fun e w' => e = .returned (.tuple #[.int .i64 (-1), .int .i64 0]) ∧ w' = w := by
  have F2 : Hid (findI l 2 = -1) := f2
  have F1 : Hid (findI l 1 = -1) := f1
  clear f1 f2
  go_enter Tryd.func61, Tryd.ntmps61
  go_wp2_with fail
  refine (find_any bn 2 sl n cap l _ hc h (by omega)).mono ?_
  rintro e w1 ⟨rfl, rfl⟩
  rw [F2.out]
  go_wp2_with fail
  refine (find_any bn 1 sl n cap l _ hc h (by omega)).mono ?_
  rintro e w1 ⟨rfl, rfl⟩
  rw [F1.out]
  go_wp2
  go_ret2
  exact ⟨rfl, rfl⟩

set_option maxHeartbeats 400000 in
theorem refTick_fail (bn : Nat) (bud : Int) (sl : Option Addr) (n cap k : Nat) (l : List Thing) (o : Thing) (w : World) (hb : w.cell? ⟨bn, 3, none⟩ = some (.int .i64 bud)) (hc : w.cell? ⟨bn, 4, none⟩ = some (.slice sl n cap)) (h : Things w 158 sl n cap l) (hn : n ≤ 500)
    (hk : k < n) (ho : l[k]? = some o) (hfind : findI l 2 = (k : Int) ∨ (findI l 2 = -1 ∧ findI l 1 = (k : Int))) (hne : (Value.slice sl n cap).ownBlock ≠ some bn) (hbud : bud ≤ o.sent) :
    Calls Tryd.prog 61 #[.pointer (some ⟨bn, 2, none⟩)] w fun e w' => e = .returned (.tuple #[.int .i64 (-1), .int .i64 0]) ∧ Turn (Value.slice sl n cap).ownBlock.toList w w' ∧
      Things w' 158 sl n cap (l.set k { o with st := 4 }) := by
  obtain ⟨g, o', hsl, ho', c0, c1, c2, c3, hfz⟩ := h.at hk
  obtain rfl : o' = o := by rw [ho] at ho'; simpa using ho'.symm
  have HK : Hid (sl = some ⟨g, 0, none⟩) := hsl
  subst hsl
  have hgb : g ≠ bn := fun e => hne (by rw [e]; rfl)
  have hgb' : bn ≠ g := fun e => hgb e.symm
  have H1 := Things.set (o' := { o' with st := 2 }) (u := .int .i64 2) h rfl ho 2 (by omega) rfl
  have H2 := Things.set (o' := { o' with st := 4 }) (u := .int .i64 4) H1 rfl (set_get ho) 2 (by omega) rfl
  rw [List.set_set] at H2
  have T2 : Turn [g] w ((w.setCell ⟨g, k * 4 + 2, none⟩ (.int .i64 2)).setCell ⟨g, k * 4 + 2, none⟩ (.int .i64 4)) := ((Turn.refl [g] w).setCell (.inl (by simp)) _).setCell (.inl (by simp)) _
  have q1 : decide (bud ≤ o'.sent) = true := by simpa using hbud
  have hk0 : (0 : Int) ≤ (k : Int) := by omega
  have hk1 : (k : Int) < (n : Int) := by omega
  have HH2 : Hid _ := H2
  have HT2 : Hid _ := T2
  have hff := hfz (k * 4 + 2)
  clear H1 H2 T2 hfz ho ho' hbud HK
  rcases hfind with f2 | ⟨f2, f1⟩
  · have F2 : Hid (findI l 2 = (k : Int)) := f2
    clear f2
    go_enter Tryd.func61, Tryd.ntmps61
    go_wp2_with fail
    refine (find_any bn 2 _ n cap l _ hc h (by omega)).mono ?_
    rintro e w1 ⟨rfl, rfl⟩
    rw [F2.out]
    go_wp2
    go_quiet (fail)
    go_wp2
    go_ret2
    exact ⟨rfl, HT2.out.drewN _, HH2.out.drewN _⟩
  · have F2 : Hid (findI l 2 = -1) := f2
    have F1 : Hid (findI l 1 = (k : Int)) := f1
    clear f2 f1
    go_enter Tryd.func61, Tryd.ntmps61
    go_wp2_with fail
    refine (find_any bn 2 _ n cap l _ hc h (by omega)).mono ?_
    rintro e w1 ⟨rfl, rfl⟩
    rw [F2.out]
    go_wp2_with fail
    refine (find_any bn 1 _ n cap l _ hc h (by omega)).mono ?_
    rintro e w1 ⟨rfl, rfl⟩
    rw [F1.out]
    go_wp2
    go_quiet (fail)
    go_wp2
    go_ret2
    exact ⟨rfl, HT2.out.drewN _, HH2.out.drewN _⟩

set_option maxHeartbeats 400000 in
theorem refTick_send (bn : Nat) (bud : Int) (sl : Option Addr) (n cap k : Nat) (l : List Thing) (o : Thing) (w : World) (hb : w.cell? ⟨bn, 3, none⟩ = some (.int .i64 bud)) (hc : w.cell? ⟨bn, 4, none⟩ = some (.slice sl n cap)) (h : Things w 158 sl n cap l) (hn : n ≤ 500)
    (hk : k < n) (ho : l[k]? = some o) (hfind : findI l 2 = (k : Int) ∨ (findI l 2 = -1 ∧ findI l 1 = (k : Int))) (hne : (Value.slice sl n cap).ownBlock ≠ some bn) (hs0 : 0 ≤ o.sent) (hbud : o.sent < bud) (hbud2 : bud ≤ 1000) :
    Calls Tryd.prog 61 #[.pointer (some ⟨bn, 2, none⟩)] w fun e w' => e = .returned (.tuple #[.int .i64 k, .int .i64 o.sent]) ∧ Turn (Value.slice sl n cap).ownBlock.toList w w' ∧
      Things w' 158 sl n cap (l.set k { o with st := 2, sent := o.sent + 1 }) := by
  obtain ⟨g, o', hsl, ho', c0, c1, c2, c3, hfz⟩ := h.at hk
  obtain rfl : o' = o := by rw [ho] at ho'; simpa using ho'.symm
  subst hsl
  have hgb : g ≠ bn := fun e => hne (by rw [e]; rfl)
  have hgb' : bn ≠ g := fun e => hgb e.symm
  have H1 := Things.set (o' := { o' with st := 2 }) (u := .int .i64 2) h rfl ho 2 (by omega) rfl
  have H2 := Things.set (o' := { o' with st := 2, sent := o'.sent + 1 }) (u := .int .i64 (o'.sent + 1)) H1 rfl (set_get ho) 3 (by omega) rfl
  rw [List.set_set] at H2
  have T2 : Turn [g] w ((w.setCell ⟨g, k * 4 + 2, none⟩ (.int .i64 2)).setCell ⟨g, k * 4 + 3, none⟩ (.int .i64 (o'.sent + 1))) := ((Turn.refl [g] w).setCell (.inl (by simp)) _).setCell (.inl (by simp)) _
  have q1 : decide (bud ≤ o'.sent) = false := by simp; omega
  have hk0 : (0 : Int) ≤ (k : Int) := by omega
  have hk1 : (k : Int) < (n : Int) := by omega
  have HH2 : Hid _ := H2
  have HT2 : Hid _ := T2
  have hff := hfz (k * 4 + 2)
  have hff3 := hfz (k * 4 + 3)
  clear H1 H2 T2 hfz ho ho'
  rcases hfind with f2 | ⟨f2, f1⟩
  · have F2 : Hid (findI l 2 = (k : Int)) := f2
    clear f2
    go_enter Tryd.func61, Tryd.ntmps61
    go_wp2_with fail
    refine (find_any bn 2 _ n cap l _ hc h (by omega)).mono ?_
    rintro e w1 ⟨rfl, rfl⟩
    rw [F2.out]
    go_wp2
    go_quiet (fail)
    go_wp2
    go_ret2
    exact ⟨rfl, HT2.out.drewN _, HH2.out.drewN _⟩
  · have F2 : Hid (findI l 2 = -1) := f2
    have F1 : Hid (findI l 1 = (k : Int)) := f1
    clear f2 f1
    go_enter Tryd.func61, Tryd.ntmps61
    go_wp2_with fail
    refine (find_any bn 2 _ n cap l _ hc h (by omega)).mono ?_
    rintro e w1 ⟨rfl, rfl⟩
    rw [F2.out]
    go_wp2_with fail
    refine (find_any bn 1 _ n cap l _ hc h (by omega)).mono ?_
    rintro e w1 ⟨rfl, rfl⟩
    rw [F1.out]
    go_wp2
    go_quiet (fail)
    go_wp2
    go_ret2
    exact ⟨rfl, HT2.out.drewN _, HH2.out.drewN _⟩

end Go.Proofs.YtfbbidaoljfloaaDoor


namespace Go.Proofs.YtfbbidaoljfloaaDoor
open Go.RowKit

theorem infoByte : (Tryd.prog.info? 5).map (fun i => (i.zero, i.size, i.bytes)) = some (some (.int .u8 0), 1, 1) := by kernel_rfl

/-- A number's bytes, the lowest first. -/
def leBytes : Nat → Nat → List Nat
  | 0, _ => []
  | k + 1, x => x % 256 :: leBytes k (x / 256)
theorem leBytes_len (k x : Nat) : (leBytes k x).length = k := by
  induction k generalizing x with
  | zero => rfl
  | succ k ih => simp [leBytes, ih]
theorem leBytes_lt (k x : Nat) : ∀ b ∈ leBytes k x, b < 256 := by
  induction k generalizing x with
  | zero => simp [leBytes]
  | succ k ih =>
    intro b hb
    simp only [leBytes, List.mem_cons] at hb
    rcases hb with rfl | hb
    · omega
    · exact ih _ b hb
theorem byteRow_append (a b : List Nat) : byteRow (a ++ b) = byteRow a ++ byteRow b := by simp [byteRow]
theorem byteRow_len (a : List Nat) : (byteRow a).length = a.length := by simp [byteRow]

/-- A row of bytes that the call owns. -/
structure Bytes (w : World) (g n cap : Nat) (ns : List Nat) : Prop where
  owns : w.ownsRow 0 5 1 (.slice (some ⟨g, 0, none⟩) n cap) n (byteRow ns)
  len : ns.length = n
  lt : ∀ b ∈ ns, b < 256

set_option maxHeartbeats 800000 in
theorem appendNumber_any (g0 n c0 k x : Nat) (ns : List Nat) (w : World) (h : Bytes w g0 n c0 ns) (hx : x < 4294967296) (hk : k ≤ 4) (hn : n ≤ 100000) :
    Calls Tryd.prog 101 #[.slice (some ⟨g0, 0, none⟩) n c0, .int .u32 x, .int .i64 k] w fun e w' => ∃ g c, e = .returned (.slice (some ⟨g, 0, none⟩) (n + k) c) ∧ Turn [g0] w w' ∧ Bytes w' g (n + k) c (ns ++ leBytes k x) ∧ (g = g0 ∨ w.heap.size ≤ g) := by
  obtain ⟨i0, hi, hz0, hz1, hz2⟩ := info_parts infoByte
  go_enter Tryd.func101, Tryd.ntmps101
  go_wp2
  go_loopw [0, 1, 8] (fun t r i wr => ∃ (j g c x' : Nat) (ms : List Nat), j ≤ k ∧ i = .int .i64 j ∧ t = .slice (some ⟨g, 0, none⟩) (n + j) c ∧ r = .int .u32 x' ∧ x' < 4294967296 ∧ Bytes wr g (n + j) c ms ∧ ms ++ leBytes (k - j) x' = ns ++ leBytes k x ∧ Turn [g0] w wr ∧ (g = g0 ∨ w.heap.size ≤ g)) (fun _ _ i _ => k - (intOf i).toNat)
  case atStart => exact ⟨0, g0, c0, x, ns, Nat.zero_le _, rfl, rfl, rfl, hx, h, rfl, Turn.refl _ _, .inl rfl⟩
  case round =>
    obtain ⟨j, g, c, x', ms, hj, rfl, rfl, rfl, hx', hb, hms, ht, hg⟩ := hrel
    have HM : Hid (ms ++ leBytes (k - j) x' = ns ++ leBytes k x) := hms
    clear hms
    by_cases hlt : j < k
    · have hlt' : (j : Int) < (k : Int) := by omega
      go_wp2_with (at_builtin; refine wpList_append_far _ rfl _ _ 114 rfl 5 i0 _ 1 1 Tryd.underlying114 hi hz0 hz1 hz2 rfl (by decide) (.slice (some ⟨g, 0, none⟩) (n + j) c) (n + j) (byteRow ms) rfl (hb.owns.alloc _) ⟨wr.heap.size, 0, none⟩ 1 1 [.int .u8 ((x' : Int) % 256)] rfl rfl (World.news_of_block (heap_alloc_new wr _)) (by intro u hu; simp at hu; subst hu; rfl) (by decide) (by unfold maxLen; omega) (by omega) ?_; intro g' c' w2 hown hgrow hat hlt2)
      refine ⟨⟨j + 1, g', c', x' / 256, ms ++ [x' % 256], by omega, by go_num, rfl, by go_num, by omega, ⟨?_, ?_, ?_⟩, ?_, ?_, ?_⟩, by simp [intOf]; omega⟩
      · rw [byteRow_append]
        exact hown
      · have := hb.len
        simp
        omega
      · intro b hm
        rcases List.mem_append.1 hm with q | q
        · exact hb.lt b q
        · simp at q; omega
      · rw [← HM.out, show k - j = (k - (j + 1)) + 1 by omega, leBytes]
        simp
      · exact (ht.alloc _).grown hgrow (fun y hy => by simp [Value.ownBlock] at hy; subst hy; simpa using hg)
      · rcases hat with q | q
        · simp [Value.ownBlock] at q; subst q; exact hg
        · right; have := ht.size; simp at q; omega
    · have hlt' : ¬ (j : Int) < (k : Int) := by omega
      obtain rfl : j = k := by omega
      go_wp2
      go_ret
      refine ⟨g, c, rfl, ht, ?_, hg⟩
      have e := HM.out
      rw [show j - j = 0 by omega, leBytes, List.append_nil] at e
      rw [← e]
      exact hb

/-- Bytes as a text. -/
def strOf (ns : List Nat) : ByteArray := strOfNums (ns.map (fun b : Nat => (b : Int)))
theorem strOf_size (ns : List Nat) : (strOf ns).size = ns.length := by simp [strOf, strOfNums_size]

theorem Bytes.conv {w : World} {g n c : Nat} {ns : List Nat} (h : Bytes w g n c ns) : (convert 114 9 (.slice (some ⟨g, 0, none⟩) n c)).run Tryd.prog w = .ok (.string (strOf ns)) w :=
  run_convert_bytes_arg (P := Tryd.prog) w 114 5 Tryd.underlying114 Tryd.underlying5 g 0 n c (ns.map (fun b : Nat => (b : Int))) (by simpa using h.len) (fun i hi => by
    have hl := h.len
    rw [Nat.zero_add]
    exact owns_cell h.owns rfl (by simp [byteRow, hl, hi])) 9 Tryd.underlying9

theorem Bytes.turn {S : List Nat} {w w' : World} {g n c : Nat} {ns : List Nat} (h : Bytes w g n c ns) (ht : Turn S w w') (hn : g ∉ S) : Bytes w' g n c ns :=
  ⟨ht.owns h.owns (fun k hk => by simp [Value.ownBlock] at hk; subst hk; exact hn), h.len, h.lt⟩

set_option maxHeartbeats 400000 in
theorem seal_any (g0 n c0 : Nat) (ns : List Nat) (w : World) (h : Bytes w g0 n c0 ns) (hn : n ≤ 100000) :
    Calls Tryd.prog 75 #[.slice (some ⟨g0, 0, none⟩) n c0] w fun e w' => e = .returned (.string (strOf (ns ++ leBytes 4 (crc ns)))) ∧ Turn [g0] w w' := by
  have hcl : crc ns < 4294967296 := xor_lt32 _ _ (by decide) (crcRest_lt ns h.lt)
  go_enter Tryd.func75, Tryd.ntmps75
  go_wp2_with fail
  refine (check_any g0 n c0 ns _ h.len h.lt hn h.owns).mono ?_
  rintro e w1 ⟨rfl, rfl⟩
  go_wp2_with fail
  refine (appendNumber_any g0 n c0 4 (crc ns) ns _ h hcl (by omega) hn).mono ?_
  rintro e w2 ⟨g, c, rfl, ht, hb, hg⟩
  have hcv := hb.conv
  go_wp2
  go_ret
  exact ⟨rfl, ht⟩

/-- What a frame of an object says. -/
def sumBody (x1 x2 x3 : Nat) (ns : List Nat) : List Nat := [1] ++ leBytes 2 x1 ++ leBytes 2 x2 ++ leBytes 4 x3 ++ ns
def sumText (x1 x2 x3 : Nat) (ns : List Nat) : List Nat := sumBody x1 x2 x3 ns ++ leBytes 4 (crc (sumBody x1 x2 x3 ns))
theorem sumText_len (x1 x2 x3 : Nat) (ns : List Nat) : (sumText x1 x2 x3 ns).length = ns.length + 13 := by
  simp [sumText, sumBody, leBytes_len]; omega

structure TextSt (w : World) (A : Obj) (wi : World) (gi : Nat) : Prop where
  turn : Turn [] w wi
  hA : wi.heap[w.heap.size]? = some A
  hg : w.heap.size + 1 ≤ gi
theorem TextSt.next {w : World} {A : Obj} {wi wj : World} {gi gj : Nat} (h : TextSt w A wi gi) (ht : Turn [gi] wi wj) (hg' : gj = gi ∨ wi.heap.size ≤ gj) : TextSt w A wj gj := by
  have h1 := h.hg
  have h2 := lt_of_heap h.hA
  exact ⟨h.turn.trans ht (fun x hx => .inr (by simp at hx; omega)), ht.cells h.hA (by simp; omega), by rcases hg' with q | q <;> omega⟩

set_option maxHeartbeats 800000 in
theorem text_any (num len row : Int) (x1 x2 x3 g n c : Nat) (ns : List Nat) (w : World) (h : Bytes w g n c ns) (hn : n ≤ 1000) (hn0 : 0 < n) (e1 : num = x1) (e2 : len = x2) (e3 : row = x3) (hx1 : x1 < 4294967296) (hx2 : x2 < 4294967296) (hx3 : x3 < 4294967296) :
    Calls Tryd.prog 74 #[.agg #[.int .i64 num, .int .i64 len, .int .u32 row, .slice (some ⟨g, 0, none⟩) n c]] w fun e w' => e = .returned (.string (strOf (sumText x1 x2 x3 ns))) ∧ Turn [] w w' := by
  obtain ⟨i0, hi, hz0, hz1, hz2⟩ := info_parts infoByte
  have hglt := owns_lt h.owns (g := g) rfl
  subst e1 e2 e3
  go_enter Tryd.func74, Tryd.ntmps74
  go_wp2_with fail
  have hb1 : Bytes ((w.alloc (.cells #[.int .i64 x1, .int .i64 x2, .int .u32 x3, .slice (some ⟨g, 0, none⟩) n c] 125)).alloc (.cells #[.int .u8 1] 5)) (w.heap.size + 1) 1 1 [1] :=
    ⟨⟨rfl, .inr ⟨w.heap.size + 1, 1, #[.int .u8 1], rfl, Nat.zero_le _, heap_alloc2_new _ _ _, Nat.le_refl _, by decide, rfl, rfl⟩⟩, rfl, by simp⟩
  have t1 : TextSt w (.cells #[.int .i64 x1, .int .i64 x2, .int .u32 x3, .slice (some ⟨g, 0, none⟩) n c] 125) ((w.alloc (.cells #[.int .i64 x1, .int .i64 x2, .int .u32 x3, .slice (some ⟨g, 0, none⟩) n c] 125)).alloc (.cells #[.int .u8 1] 5)) (w.heap.size + 1) :=
    ⟨((Turn.refl [] w).alloc _).alloc _, heap_alloc2_old _ _ _, Nat.le_refl _⟩
  refine (appendNumber_any (w.heap.size + 1) 1 1 2 x1 [1] _ hb1 hx1 (by omega) (by omega)).mono ?_
  rintro e w2 ⟨g2, c2, rfl, ht2, hb2, hg2⟩
  have t2 := t1.next ht2 hg2
  have k21 : w2.cell? ⟨w.heap.size, 1, none⟩ = some (.int .i64 x2) := by rw [cell_of_row _ _ _ _ _ _ t2.hA]; rfl
  clear hb1 t1 ht2 hg2
  go_wp2_with fail
  refine (appendNumber_any g2 3 c2 2 x2 _ _ hb2 hx2 (by omega) (by omega)).mono ?_
  rintro e w3 ⟨g3, c3, rfl, ht3, hb3, hg3⟩
  have t3 := t2.next ht3 hg3
  have k32 : w3.cell? ⟨w.heap.size, 2, none⟩ = some (.int .u32 x3) := by rw [cell_of_row _ _ _ _ _ _ t3.hA]; rfl
  clear hb2 t2 ht3 hg3 k21
  go_wp2_with fail
  refine (appendNumber_any g3 5 c3 4 x3 _ _ hb3 hx3 (by omega) (by omega)).mono ?_
  rintro e w4 ⟨g4, c4, rfl, ht4, hb4, hg4⟩
  have t4 := t3.next ht4 hg4
  have k43 : w4.cell? ⟨w.heap.size, 3, none⟩ = some (.slice (some ⟨g, 0, none⟩) n c) := by rw [cell_of_row _ _ _ _ _ _ t4.hA]; rfl
  have hs4 : Bytes w4 g n c ns := h.turn t4.turn (by simp)
  clear hb3 t3 ht4 hg4 k32
  go_wp2_with (at_builtin; refine wpList_append_far _ rfl _ _ 114 rfl 5 i0 _ 1 1 Tryd.underlying114 hi hz0 hz1 hz2 rfl (by decide) (.slice (some ⟨g4, 0, none⟩) 9 c4) 9 _ rfl hb4.owns ⟨g, 0, none⟩ n c (byteRow ns) rfl (by rw [byteRow_len, hs4.len]; omega) (hs4.owns.cells (g := g) rfl) (by intro u hu; simp [byteRow] at hu; obtain ⟨b, _, rfl⟩ := hu; rfl) hn0 (by unfold maxLen; omega) (by omega) ?_; intro g5 c5 w5 hown hgrow hat hlt2)
  have t5 := t4.next (Turn.grown (Turn.refl [g4] w4) hgrow (fun k hk => by simp [Value.ownBlock] at hk; simp [hk])) (gj := g5) (by simp [Value.ownBlock] at hat; omega)
  have hb5 : Bytes w5 g5 (9 + n) c5 (sumBody x1 x2 x3 ns) := by
    refine ⟨by unfold sumBody; rw [byteRow_append]; exact hown, by have := hb4.len; have := h.len; unfold sumBody; rw [List.length_append]; omega, fun b hb => ?_⟩
    unfold sumBody at hb
    rcases List.mem_append.1 hb with q | q
    · exact hb4.lt b q
    · exact h.lt b q
  refine (seal_any g5 (9 + n) c5 _ _ hb5 (by omega)).mono ?_
  rintro e w6 ⟨rfl, ht6⟩
  have t6 := t5.next ht6 (.inl rfl)
  go_wp2
  go_ret
  exact ⟨rfl, t6.turn⟩

end Go.Proofs.YtfbbidaoljfloaaDoor
