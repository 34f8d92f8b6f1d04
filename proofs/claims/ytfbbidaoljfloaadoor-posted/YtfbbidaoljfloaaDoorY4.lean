import Derived.Test.YtfbbidaoljfloaaDoorY3
namespace Go.Proofs.YtfbbidaoljfloaaDoor
open Go.RowKit

/-- The number that bytes stand for, the lowest first. -/
def leVal : List Nat → Nat
  | [] => 0
  | b :: l => b + 256 * leVal l
theorem leVal_lt (l : List Nat) (h : ∀ b ∈ l, b < 256) : leVal l < 256 ^ l.length := by
  induction l with
  | nil => simp [leVal]
  | cons b l ih =>
    have h1 := h b (by simp)
    have h2 := ih (fun x hx => h x (by simp [hx]))
    simp only [leVal, List.length_cons, Nat.pow_succ]
    omega
theorem leVal_snoc (l : List Nat) (b : Nat) : leVal (l ++ [b]) = leVal l + 256 ^ l.length * b := by
  induction l with
  | nil => simp [leVal]
  | cons c l ih =>
    simp only [List.cons_append, leVal, ih, List.length_cons, Nat.pow_succ, Nat.mul_add]
    rw [Nat.mul_comm (256 ^ l.length) 256, Nat.mul_assoc]
    omega
theorem leVal_leBytes (k x : Nat) (h : x < 256 ^ k) : leVal (leBytes k x) = x := by
  induction k generalizing x with
  | zero => simp at h; simp [leBytes, leVal, h]
  | succ k ih =>
    rw [Nat.pow_succ] at h
    simp only [leBytes, leVal]
    rw [ih (x / 256) (by omega)]
    omega
theorem leVal_or (l : List Nat) (b : Nat) (h : ∀ x ∈ l, x < 256) : leVal l ||| (b * 2 ^ (8 * l.length)) = leVal (l ++ [b]) := by
  have h1 := leVal_lt l h
  have e : (256 : Nat) ^ l.length = 2 ^ (8 * l.length) := by rw [show (256 : Nat) = 2 ^ 8 by decide, ← Nat.pow_mul]
  rw [leVal_snoc, e, Nat.mul_comm b, Nat.or_comm, ← Nat.two_pow_add_eq_or_of_lt (by rw [← e]; exact h1), Nat.add_comm]

set_option maxRecDepth 100000 in
set_option maxHeartbeats 400000 in
theorem cut_any (g off n cap k : Nat) (ns : List Nat) (w : World) (h : CellsAt w g off ns) (hl : ns.length = k) (hk : k ≤ 4) (hk0 : 0 < k) (hn : k < n) (hcap : n ≤ cap) (hcm : cap ≤ 9223372036854775807) :
    Calls Tryd.prog 76 #[.slice (some ⟨g, off, none⟩) n cap, .int .i64 k] w fun e w' => e = .returned (.tuple #[.int .u32 (leVal ns), .slice (some ⟨g, off + k, none⟩) (n - k : Nat) (cap - k : Nat)]) ∧ Below w.heap.size w w' := by
  have b1 : (0 : Int) ≤ (k : Int) := by omega
  have b2 : (k : Int) ≤ (n : Int) := by omega
  have b3 : (k : Int) ≤ (cap : Int) := by omega
  have b4 : (n : Int) ≤ (cap : Int) := by omega
  have b5 : ¬ cap = k := by omega
  have b6 : ¬ cap = 0 := by omega
  go_enter Tryd.func76, Tryd.ntmps76
  go_wp2_with fail
  go_loop [6, 13] (fun r i => ∃ j : Nat, j ≤ k ∧ i = .int .i64 j ∧ r = .int .u32 (leVal (ns.take j))) (fun _ i => k - (intOf i).toNat)
  case atStart => exact ⟨0, Nat.zero_le _, rfl, by simp [leVal]⟩
  case round =>
    obtain ⟨j, hj, rfl, rfl⟩ := hrel
    by_cases hlt : j < k
    · have hlt' : (j : Int) < (k : Int) := by omega
      have hj0 : (0 : Int) ≤ (j : Int) := by omega
      obtain ⟨x, hx⟩ : ∃ x, ns[j]? = some x := ⟨ns[j]'(by omega), by simp⟩
      have hc := h.cell j x hx
      have hxl := h.lt x (List.mem_of_getElem? hx)
      have HS : Hid (leVal (ns.take (j + 1)) = leVal (ns.take j) ||| (x * 2 ^ (8 * j))) := by
        have e := leVal_or (ns.take j) x (fun y hy => h.lt y (List.mem_of_mem_take hy))
        rw [List.length_take, show min j ns.length = j by omega] at e
        rw [Hid, e, List.take_add_one, hx]
        rfl
      go_wp2_with fail
      refine ⟨⟨j + 1, by omega, by go_num, ?_⟩, by simp [intOf]; omega⟩
      have hp : x * 2 ^ (8 * j) < 4294967296 := by
        have h1 : 2 ^ (8 * j) ≤ 2 ^ 24 := Nat.pow_le_pow_right (by decide) (by omega)
        have h2 : x * 2 ^ (8 * j) ≤ 255 * 2 ^ 24 := Nat.mul_le_mul (by omega) h1
        omega
      have hl2 : leVal (ns.take j) < 4294967296 := by
        have h1 := leVal_lt (ns.take j) (fun y hy => h.lt y (List.mem_of_mem_take hy))
        refine Nat.lt_of_lt_of_le h1 (Nat.le_trans (Nat.pow_le_pow_right (by decide) (show (ns.take j).length ≤ 4 by simp; omega)) (by decide))
      have e : ((x : Int) * 2 ^ (8 * j) % 4294967296) = ((x * 2 ^ (8 * j) : Nat) : Int) := by
        rw [show (x : Int) * 2 ^ (8 * j) = ((x * 2 ^ (8 * j) : Nat) : Int) by simp]
        omega
      rw [e, HS.out]
      exact congrArg _ (u32_or_nat _ _ hl2 hp)
    · have hlt' : ¬ (j : Int) < (k : Int) := by omega
      obtain rfl : j = k := by omega
      have HK : Hid (ns.take j = ns) := List.take_of_length_le (by omega)
      go_wp2_with fail
      go_quiet (fail)
      go_wp2
      refine bodyPost_ret (results_tmp2 rfl _ _ _) rfl ⟨?_, (Below.refl _ _).drewN _⟩
      simp only [HK.out]
      rfl

/-- A text's bytes, as numbers. -/
def bytesOf (s : ByteArray) : List Nat := s.data.toList.map UInt8.toNat
theorem bytesOf_len (s : ByteArray) : (bytesOf s).length = s.size := by
  unfold bytesOf
  rw [List.length_map, Array.length_toList]
  rfl
theorem bytesOf_lt (s : ByteArray) : ∀ b ∈ bytesOf s, b < 256 := by
  intro b hb
  simp [bytesOf] at hb
  obtain ⟨x, _, rfl⟩ := hb
  exact UInt8.toNat_lt _

theorem bytesOf_strOf (ns : List Nat) (h : ∀ b ∈ ns, b < 256) : bytesOf (strOf ns) = ns := by
  unfold bytesOf strOf
  rw [strOfNums_data, List.map_map, List.map_map]
  conv => rhs; rw [← List.map_id ns]
  apply List.map_congr_left
  intro b hb
  have := h b hb
  simp
  omega
theorem bytesOf_inj {a b : ByteArray} (h : bytesOf a = bytesOf b) : a = b := by
  unfold bytesOf at h
  have h1 : a.data.toList = b.data.toList := by
    have hi : Function.Injective UInt8.toNat := fun x y e => UInt8.toNat_inj.1 e
    exact (List.map_inj_right (fun x y e => hi e)).1 h
  cases a
  cases b
  simp at h1
  rw [h1]

theorem conv_row (s : ByteArray) (w : World) (hs : s.size ≤ 100000) : ∃ cap w', (convert 9 114 (.string s)).run Tryd.prog w = .ok (.slice (some ⟨w.heap.size, 0, none⟩) s.size cap) w' ∧ BRow w' w.heap.size s.size cap (bytesOf s) ∧ Below w.heap.size w w' ∧ cap ≤ maxLen ∧ w.heap.size < w'.heap.size := by
  have hcm := grownCap_le_maxLen w s.size 0 5 (by unfold maxLen; omega)
  have hge := grownCap_ge w s.size 0 5
  refine ⟨_, _, run_bytes_of_string (P := Tryd.prog) w 9 114 5 s Tryd.underlying9 Tryd.underlying114 Tryd.underlying5, ?_, ?_, hcm, by simp⟩
  · have hb : (w.drew.alloc (.cells (bytesRow s (grownCap w s.size 0 5)) 5 ((bytesRow s (grownCap w s.size 0 5)).size, (bytesRow s (grownCap w s.size 0 5)).size + 1))).heap[w.heap.size]? = some (.cells (bytesRow s (grownCap w s.size 0 5)) 5 ((bytesRow s (grownCap w s.size 0 5)).size, (bytesRow s (grownCap w s.size 0 5)).size + 1)) := heap_alloc_new w.drew _
    have hsz : (bytesRow s (grownCap w s.size 0 5)).size = grownCap w s.size 0 5 := by
      simp [bytesRow]
      have : s.data.size = s.size := rfl
      omega
    refine ⟨⟨fun k x hx => ?_, bytesOf_lt s⟩, bytesOf_len s, fun k hk => ⟨?_, ?_⟩, hge⟩
    · rw [Nat.zero_add, cell_of_row _ _ _ _ _ _ hb]
      obtain ⟨y, hy, rfl⟩ : ∃ y, s.data.toList[k]? = some y ∧ y.toNat = x := by simpa [bytesOf] using hx
      have hk : k < s.data.size := by
        have := (List.getElem?_eq_some_iff.1 hy).1
        simpa using this
      unfold bytesRow
      rw [Array.getElem?_append_left (by simpa using hk)]
      simp at hy
      simp [hy]
    · rw [cell_of_row _ _ _ _ _ _ hb]
      simp [hsz, hk]
    · unfold World.frozen?
      rw [hb]
      simp [hsz]
      omega
  · exact ((Below.refl _ _).drew).alloc (Nat.le_refl _) _

set_option maxHeartbeats 400000 in
theorem read_len (text : ByteArray) (blk : Nat) (w : World) (h1 : 1 ≤ blk) (h2 : blk ≤ 32) (hl : text.size ≠ blk + 13) (_hm : text.size ≤ 4611686018427387904) :
    Calls Tryd.prog 45 #[.string text, .int .i64 blk] w fun e w' => e = .returned (.tuple #[.agg #[.int .i64 0, .int .i64 0, .int .u32 0, .slice none 0 0], .bool false]) ∧ Below w.heap.size w w' := by
  have q : ((text.size : Int) != 9 + (blk : Int) + 4) = true := by rw [bne_iff_ne]; omega
  go_enter Tryd.func45, Tryd.ntmps45
  go_wp2
  exact bodyPost_ret (v := .tuple #[.agg #[.int .i64 0, .int .i64 0, .int .u32 0, .slice none 0 0], .bool false]) (by simp [results, Tryd.results45, go_sem]) rfl ⟨rfl, (Below.refl _ _).alloc (Nat.le_refl _) _⟩

theorem bytesOf_take (s : ByteArray) (n : Nat) : bytesOf (s.extract 0 n) = (bytesOf s).take n := by
  unfold bytesOf
  rw [ByteArray.data_extract, Array.toList_extract, List.map_take]
  simp

/-- What a frame of an object tells. -/
def readS (bs : List Nat) (blk : Nat) : Option (Nat × Nat × Nat × List Nat) :=
  if bs.length = blk + 13 ∧ bs.getD 0 0 = 1 ∧ bs.take (blk + 9) ++ leBytes 4 (crc (bs.take (blk + 9))) = bs then
    some (leVal ((bs.drop 1).take 2), leVal ((bs.drop 3).take 2), leVal ((bs.drop 5).take 4), (bs.drop 9).take blk)
  else none

/-- The result's cells. -/
theorem sumCells {w : World} {b : Nat} {v0 v1 v2 v3 : Value} (h : w.heap[b]? = some (.cells #[v0, v1, v2, v3] 125 (0, 0))) :
    w.cell? ⟨b, 0, none⟩ = some v0 ∧ w.cell? ⟨b, 1, none⟩ = some v1 ∧ w.cell? ⟨b, 2, none⟩ = some v2 ∧ w.cell? ⟨b, 3, none⟩ = some v3 ∧ (∀ j, w.frozen? ⟨b, j, none⟩ = false) :=
  ⟨by rw [cell_of_row _ _ _ _ _ _ h]; rfl, by rw [cell_of_row _ _ _ _ _ _ h]; rfl, by rw [cell_of_row _ _ _ _ _ _ h]; rfl, by rw [cell_of_row _ _ _ _ _ _ h]; rfl, fun j => frozen_of_row _ _ _ _ _ h⟩

set_option maxRecDepth 100000 in
set_option maxHeartbeats 400000 in
theorem read_kind (text : ByteArray) (blk : Nat) (w : World) (h1 : 1 ≤ blk) (h2 : blk ≤ 32) (hl : text.size = blk + 13) (hk : (bytesOf text).getD 0 0 ≠ 1) :
    Calls Tryd.prog 45 #[.string text, .int .i64 blk] w fun e w' => e = .returned (.tuple #[.agg #[.int .i64 0, .int .i64 0, .int .u32 0, .slice none 0 0], .bool false]) ∧ Below w.heap.size w w' := by
  have q : ((text.size : Int) != 9 + (blk : Int) + 4) = false := by rw [bne_eq_false_iff_eq]; omega
  have hlen := bytesOf_len text
  obtain ⟨cap, w2, hcv, hrow, hbe, hcm, hlt⟩ := conv_row (text.extract 0 (blk + 9)) (w.alloc (.cells #[.int .i64 0, .int .i64 0, .int .u32 0, .slice none 0 0] 125)) (by rw [ByteArray.size_extract]; omega)
  rw [bytesOf_take, ByteArray.size_extract, show min (blk + 9) text.size - 0 = blk + 9 by omega] at hrow
  rw [ByteArray.size_extract, show min (blk + 9) text.size - 0 = blk + 9 by omega] at hcv
  have c0 : w2.cell? ⟨w.heap.size + 1, 0, none⟩ = some (.int .u8 (((bytesOf text).getD 0 0 : Nat) : Int)) := by
    have := hrow.at 0 ((bytesOf text).getD 0 0) (by rw [List.getElem?_take_of_lt (by omega)]; simp [List.getD, show 0 < (bytesOf text).length by omega])
    simpa using this
  have q2 : ((((bytesOf text).getD 0 0 : Nat) : Int) != 1) = true := by rw [bne_iff_ne]; omega
  have HS : Hid (text.size = blk + 13) := hl
  have a1 : (0 : Int) ≤ (text.size : Int) - 4 := by omega
  have a2 : (text.size : Int) - 4 ≤ (text.size : Int) := by omega
  have a3 : ((text.size : Int) - 4).toNat = blk + 9 := by omega
  obtain ⟨r0, r1, r2, r3, rf⟩ := sumCells (w := w2) (b := w.heap.size) ((hbe.block w.heap.size (by simp)).trans (heap_alloc_new w _))
  have HB : Hid _ := hbe
  clear hl hk hlen hbe hrow
  generalize (bytesOf text).getD 0 0 = b0 at *
  go_enter Tryd.func45, Tryd.ntmps45
  go_wp2
  refine bodyPost_ret (v := .tuple #[.agg #[.int .i64 0, .int .i64 0, .int .u32 0, .slice none 0 0], .bool false]) (by simp [results, Tryd.results45, go_sem, r0, r1, r2, r3]) rfl ⟨rfl, ?_⟩
  have hb1 := ((Below.refl w.heap.size w).alloc (Nat.le_refl _) (.cells #[.int .i64 0, .int .i64 0, .int .u32 0, .slice none 0 0] 125)).trans (HB.out.mono (by simp))
  exact (((hb1.setCell (Nat.le_refl _) _).setCell (Nat.le_refl _) _).setCell (Nat.le_refl _) _).setCell (Nat.le_refl _) _

theorem str_eq {ns : List Nat} {t : ByteArray} (h : ∀ b ∈ ns, b < 256) : ((strOf ns).toList == t.toList) = decide (ns = bytesOf t) := by
  by_cases e : ns = bytesOf t
  · have : strOf ns = t := bytesOf_inj (by rw [bytesOf_strOf _ h, e])
    rw [this]
    simp [e]
  · have : (strOf ns).toList ≠ t.toList := fun q => e (by
      have q2 : strOf ns = t := by
        rw [ByteArray.toList_eq, ByteArray.toList_eq] at q
        exact bytesOf_inj (by unfold bytesOf; rw [q])
      rw [← q2, bytesOf_strOf _ h])
    simp [this, e]

theorem sealed_lt (text : ByteArray) (blk : Nat) : ∀ b ∈ (bytesOf text).take (blk + 9) ++ leBytes 4 (crc ((bytesOf text).take (blk + 9))), b < 256 := by
  intro b hb
  rcases List.mem_append.1 hb with q | q
  · exact bytesOf_lt text b (List.mem_of_mem_take q)
  · exact leBytes_lt _ _ b q

set_option maxRecDepth 100000 in
set_option maxHeartbeats 400000 in
theorem read_seal (text : ByteArray) (blk : Nat) (w : World) (h1 : 1 ≤ blk) (h2 : blk ≤ 32) (hl : text.size = blk + 13) (hk : (bytesOf text).getD 0 0 = 1) (hs : (bytesOf text).take (blk + 9) ++ leBytes 4 (crc ((bytesOf text).take (blk + 9))) ≠ bytesOf text) :
    Calls Tryd.prog 45 #[.string text, .int .i64 blk] w fun e w' => e = .returned (.tuple #[.agg #[.int .i64 0, .int .i64 0, .int .u32 0, .slice none 0 0], .bool false]) ∧ Below w.heap.size w w' := by
  have q : ((text.size : Int) != 9 + (blk : Int) + 4) = false := by rw [bne_eq_false_iff_eq]; omega
  have hlen := bytesOf_len text
  obtain ⟨cap, w2, hcv, hrow, hbe, hcm, hlt⟩ := conv_row (text.extract 0 (blk + 9)) (w.alloc (.cells #[.int .i64 0, .int .i64 0, .int .u32 0, .slice none 0 0] 125)) (by rw [ByteArray.size_extract]; omega)
  rw [bytesOf_take, ByteArray.size_extract, show min (blk + 9) text.size - 0 = blk + 9 by omega] at hrow
  rw [ByteArray.size_extract, show min (blk + 9) text.size - 0 = blk + 9 by omega] at hcv
  have c0 : w2.cell? ⟨w.heap.size + 1, 0, none⟩ = some (.int .u8 1) := by
    have := hrow.at 0 ((bytesOf text).getD 0 0) (by rw [List.getElem?_take_of_lt (by omega)]; simp [List.getD, show 0 < (bytesOf text).length by omega])
    rw [hk] at this
    simpa using this
  have HS : Hid (text.size = blk + 13) := hl
  have a1 : (0 : Int) ≤ (text.size : Int) - 4 := by omega
  have a2 : (text.size : Int) - 4 ≤ (text.size : Int) := by omega
  have a3 : ((text.size : Int) - 4).toNat = blk + 9 := by omega
  have HR : Hid (w2.heap[w.heap.size]? = some (.cells #[.int .i64 0, .int .i64 0, .int .u32 0, .slice none 0 0] 125 (0, 0))) := (hbe.block w.heap.size (by simp)).trans (heap_alloc_new w _)
  have HB : Hid _ := hbe
  have hsz : (w.alloc (.cells #[.int .i64 0, .int .i64 0, .int .u32 0, .slice none 0 0] 125)).heap.size = w.heap.size + 1 := by simp
  rw [hsz] at hrow
  clear hsz
  clear hl hk hlen hbe
  go_enter Tryd.func45, Tryd.ntmps45
  go_wp2_with fail
  refine (seal_brow (w.heap.size + 1) (blk + 9) cap _ _ hrow (by omega) (by omega)).mono ?_
  rintro e w3 ⟨rfl, ht3, hkp⟩
  obtain ⟨r0, r1, r2, r3, rf⟩ := sumCells (w := w3) (b := w.heap.size) ((ht3.block w.heap.size (lt_of_heap HR.out) (by simp)).trans HR.out)
  have q4 : ((strOf ((bytesOf text).take (blk + 9) ++ leBytes 4 (crc ((bytesOf text).take (blk + 9))))).toList == text.toList) = false := by
    rw [str_eq (sealed_lt text blk)]
    simp [hs]
  clear hkp hrow hs
  go_wp2
  refine bodyPost_ret (v := .tuple #[.agg #[.int .i64 0, .int .i64 0, .int .u32 0, .slice none 0 0], .bool false]) (by simp [results, Tryd.results45, go_sem, r0, r1, r2, r3]) rfl ⟨rfl, ?_⟩
  have hb1 := ((Below.refl w.heap.size w).alloc (Nat.le_refl _) (.cells #[.int .i64 0, .int .i64 0, .int .u32 0, .slice none 0 0] 125)).trans (HB.out.mono (by simp))
  have hb2 := hb1.trans (ht3.toBelow (B := w.heap.size) hb1.size (by simp))
  exact (((hb2.setCell (Nat.le_refl _) _).setCell (Nat.le_refl _) _).setCell (Nat.le_refl _) _).setCell (Nat.le_refl _) _

theorem leVal_take_lt (text : ByteArray) (i k : Nat) (hk : k ≤ 4) : leVal (((bytesOf text).drop i).take k) < 4294967296 := by
  have h1 := leVal_lt (((bytesOf text).drop i).take k) (fun b hb => bytesOf_lt text b (List.mem_of_mem_drop (List.mem_of_mem_take hb)))
  exact Nat.lt_of_lt_of_le h1 (Nat.le_trans (Nat.pow_le_pow_right (by decide) (show (((bytesOf text).drop i).take k).length ≤ 4 by simp; omega)) (by decide))

set_option maxRecDepth 100000 in
set_option maxHeartbeats 800000 in
theorem read_good (text : ByteArray) (blk : Nat) (w : World) (h1 : 1 ≤ blk) (h2 : blk ≤ 32) (hl : text.size = blk + 13) (hk : (bytesOf text).getD 0 0 = 1) (hs : (bytesOf text).take (blk + 9) ++ leBytes 4 (crc ((bytesOf text).take (blk + 9))) = bytesOf text) :
    Calls Tryd.prog 45 #[.string text, .int .i64 blk] w fun e w' => ∃ g cap, e = .returned (.tuple #[.agg #[.int .i64 (leVal (((bytesOf text).drop 1).take 2)), .int .i64 (leVal (((bytesOf text).drop 3).take 2)), .int .u32 (leVal (((bytesOf text).drop 5).take 4)), .slice (some ⟨g, 9, none⟩) blk cap], .bool true]) ∧
      Below w.heap.size w w' ∧ CellsAt w' g 9 (((bytesOf text).drop 9).take blk) ∧ w.heap.size ≤ g ∧ blk ≤ cap ∧ cap ≤ maxLen := by
  have q : ((text.size : Int) != 9 + (blk : Int) + 4) = false := by rw [bne_eq_false_iff_eq]; omega
  have hlen := bytesOf_len text
  obtain ⟨cap, w2, hcv, hrow, hbe, hcm, hlt⟩ := conv_row (text.extract 0 (blk + 9)) (w.alloc (.cells #[.int .i64 0, .int .i64 0, .int .u32 0, .slice none 0 0] 125)) (by rw [ByteArray.size_extract]; omega)
  rw [bytesOf_take, ByteArray.size_extract, show min (blk + 9) text.size - 0 = blk + 9 by omega] at hrow
  rw [ByteArray.size_extract, show min (blk + 9) text.size - 0 = blk + 9 by omega] at hcv
  have c0 : w2.cell? ⟨w.heap.size + 1, 0, none⟩ = some (.int .u8 1) := by
    have := hrow.at 0 ((bytesOf text).getD 0 0) (by rw [List.getElem?_take_of_lt (by omega)]; simp [List.getD, show 0 < (bytesOf text).length by omega])
    rw [hk] at this
    simpa using this
  have HS : Hid (text.size = blk + 13) := hl
  have a1 : (0 : Int) ≤ (text.size : Int) - 4 := by omega
  have a2 : (text.size : Int) - 4 ≤ (text.size : Int) := by omega
  have a3 : ((text.size : Int) - 4).toNat = blk + 9 := by omega
  have HR : Hid (w2.heap[w.heap.size]? = some (.cells #[.int .i64 0, .int .i64 0, .int .u32 0, .slice none 0 0] 125 (0, 0))) := (hbe.block w.heap.size (by simp)).trans (heap_alloc_new w _)
  have HB : Hid _ := hbe
  have hsz : (w.alloc (.cells #[.int .i64 0, .int .i64 0, .int .u32 0, .slice none 0 0] 125)).heap.size = w.heap.size + 1 := by simp
  rw [hsz] at hrow
  have hcap := hrow.le
  unfold maxLen at hcm
  clear hsz
  clear hl hk hlen hbe
  go_enter Tryd.func45, Tryd.ntmps45
  go_wp2_with fail
  refine (seal_brow (w.heap.size + 1) (blk + 9) cap _ _ hrow (by omega) (by omega)).mono ?_
  rintro e w3 ⟨rfl, ht3, hkp⟩
  have HR3 : Hid (w3.heap[w.heap.size]? = some (.cells #[.int .i64 0, .int .i64 0, .int .u32 0, .slice none 0 0] 125 (0, 0))) := (ht3.block w.heap.size (lt_of_heap HR.out) (by simp)).trans HR.out
  have q4 : ((strOf ((bytesOf text).take (blk + 9) ++ leBytes 4 (crc ((bytesOf text).take (blk + 9))))).toList == text.toList) = true := by
    rw [str_eq (sealed_lt text blk)]
    simp [hs]
  have HC : Hid (∀ i k, i + k ≤ blk + 9 → CellsAt w3 (w.heap.size + 1) i (((bytesOf text).drop i).take k)) := fun i k hik => by
    refine ⟨fun j x hx => ?_, fun b hb => bytesOf_lt text b (List.mem_of_mem_drop (List.mem_of_mem_take hb))⟩
    have hj : j < k := by
      have := (List.getElem?_eq_some_iff.1 hx).1
      simp at this
      omega
    rw [List.getElem?_take_of_lt hj, List.getElem?_drop] at hx
    rw [hkp (i + j) (by omega)]
    exact hrow.at (i + j) x (by rw [List.getElem?_take_of_lt (by omega)]; exact hx)
  have HT : Hid (Turn [w.heap.size + 1] w2 w3) := ht3
  have hln : (bytesOf text).length = blk + 13 := by rw [bytesOf_len]; exact HS.out
  have d1 : (1 : Int) ≤ (blk : Int) + 9 := by omega
  have d2 : (blk : Int) + 9 ≤ (cap : Int) := by omega
  have d3 : (1 : Int) ≤ (cap : Int) := by omega
  have d4 : ¬ cap = 1 := by omega
  have n1 : leVal (List.take 2 (bytesOf text).tail) < 4294967296 := by rw [← List.drop_one]; exact leVal_take_lt text 1 2 (by omega)
  have n2 := leVal_take_lt text 3 2 (by omega)
  have n3 := leVal_take_lt text 5 4 (by omega)
  clear hkp hrow hs ht3 c0
  go_wp2_with fail
  refine (cut_any (w.heap.size + 1) 1 (blk + 8) (cap - 1) 2 (((bytesOf text).drop 1).take 2) _ (HC.out 1 2 (by omega)) (by simp; omega) (by omega) (by omega) (by omega) (by omega) (by omega)).mono ?_
  rintro e w4 ⟨rfl, hb4⟩
  have hc4 : CellsAt w4 (w.heap.size + 1) 3 (((bytesOf text).drop 3).take 2) := (HC.out 3 2 (by omega)).turn (Turn.below (S := []) hb4 (Nat.le_refl _)) (by simp)
  have e1 : blk + 8 - 2 = blk + 6 := by omega
  rw [e1]
  clear e1
  go_wp2_with fail
  refine (cut_any (w.heap.size + 1) 3 (blk + 6) (cap - 1 - 2) 2 (((bytesOf text).drop 3).take 2) _ hc4 (by simp; omega) (by omega) (by omega) (by omega) (by omega) (by omega)).mono ?_
  rintro e w5 ⟨rfl, hb5⟩
  have hb35 := hb4.trans (hb5.mono hb4.size)
  have hc5 : CellsAt w5 (w.heap.size + 1) 5 (((bytesOf text).drop 5).take 4) := (HC.out 5 4 (by omega)).turn (Turn.below (S := []) hb35 (Nat.le_refl _)) (by simp)
  have e1 : blk + 6 - 2 = blk + 4 := by omega
  rw [e1]
  clear e1 hc4
  go_wp2_with fail
  refine (cut_any (w.heap.size + 1) 5 (blk + 4) (cap - 1 - 2 - 2) 4 (((bytesOf text).drop 5).take 4) _ hc5 (by simp; omega) (by omega) (by omega) (by omega) (by omega) (by omega)).mono ?_
  rintro e w6 ⟨rfl, hb6⟩
  have hb36 := hb35.trans (hb6.mono hb35.size)
  have hc6 : CellsAt w6 (w.heap.size + 1) 9 (((bytesOf text).drop 9).take blk) := (HC.out 9 blk (by omega)).turn (Turn.below (S := []) hb36 (Nat.le_refl _)) (by simp)
  have e1 : blk + 4 - 4 = blk := by omega
  rw [e1]
  obtain ⟨r0, r1, r2, r3, rf⟩ := sumCells (w := w6) (b := w.heap.size) ((hb36.block w.heap.size (by have := lt_of_heap HR3.out; omega)).trans HR3.out)
  have HC6 : Hid _ := hc6
  have HB6 : Hid _ := hb36
  clear e1 hc5 hb4 hb5 hb6 hb35 hb36 hc6
  go_wp2_with fail
  refine bodyPost_ret (v := .tuple #[.agg #[.int .i64 (leVal (((bytesOf text).drop 1).take 2)), .int .i64 (leVal (((bytesOf text).drop 3).take 2)), .int .u32 (leVal (((bytesOf text).drop 5).take 4)), .slice (some ⟨w.heap.size + 1, 9, none⟩) blk (cap - 1 - 2 - 2 - 4)], .bool true]) (by simp [results, Tryd.results45, go_sem, r0, r1, r2, r3]) rfl ⟨_, _, rfl, ?_, ?_, by omega, by omega, by unfold maxLen; omega⟩
  · have hb1 := ((Below.refl w.heap.size w).alloc (Nat.le_refl _) (.cells #[.int .i64 0, .int .i64 0, .int .u32 0, .slice none 0 0] 125)).trans (HB.out.mono (by simp))
    have hb2 := hb1.trans (HT.out.toBelow (B := w.heap.size) hb1.size (by simp))
    have hb3 := hb2.trans (HB6.out.mono (hb2.size))
    exact (((hb3.setCell (Nat.le_refl _) _).setCell (Nat.le_refl _) _).setCell (Nat.le_refl _) _).setCell (Nat.le_refl _) _
  · exact HC6.out.turn (((((Turn.refl [w.heap.size] _).setCell (.inl (by simp)) _).setCell (.inl (by simp)) _).setCell (.inl (by simp)) _).setCell (.inl (by simp)) _) (by simp)

end Go.Proofs.YtfbbidaoljfloaaDoor
