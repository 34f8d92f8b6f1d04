import Derived.Test.YtafipndlfkklfaaDoorJ6
import Derived.Test.YtafipndlfkklfaaDoorP3
import Derived.Deep.QuietTactic
import Derived.BigQuiet
import Derived.ArgAppend
import Derived.Lib.SliceRun
import Derived.Test.YtafipndlfkklfaaDoorCards
import Derived.Test.YtafipndlfkklfaaDoorTie
import Derived.WalkKit
import Derived.ProofKit
import Derived.OpenShut
import Derived.ChangeMaps5
import Derived.Deep.DeepHandedRow
import Derived.Lib.LaidTab
namespace Go.Proofs.YtafipndlfkklfaaDoor
open Go.RowKit

/-- How many blocks. -/
def blocksOf (len blk : Nat) : Nat := max 1 ((len + blk - 1) / blk)
theorem blocksOf_pos (len blk : Nat) : 1 ≤ blocksOf len blk := by unfold blocksOf; omega
theorem blocksOf_le (len blk : Nat) (h1 : 1 ≤ blk) (h : len ≤ 32 * blk) : blocksOf len blk ≤ 32 := by
  unfold blocksOf
  have : (len + blk - 1) / blk < 33 := by
    rw [Nat.div_lt_iff_lt_mul (by omega)]
    omega
  omega

set_option maxHeartbeats 400000 in
theorem blockCount_any (len blk : Nat) (w : World) (h1 : 1 ≤ blk) (h2 : blk ≤ 32) (h : len ≤ 100000) :
    Calls Tryd.prog 72 #[.int .i64 len, .int .i64 blk] w fun e w' => e = .returned (.int .i64 (blocksOf len blk)) ∧ w' = w := by
  have hq : ((len : Int) + (blk : Int) - 1) / (blk : Int) = (((len + blk - 1) / blk : Nat) : Int) := by
    rw [show (len : Int) + (blk : Int) - 1 = ((len + blk - 1 : Nat) : Int) by omega]
    simp
  have hb : (0 : Int) < (blk : Int) := by omega
  go_enter Tryd.func72, Tryd.ntmps72
  go_wp2
  go_ret
  refine ⟨ret_int ?_, rfl⟩
  have e : ((len + blk - 1 : Nat) : Int) / (blk : Int) = (((len + blk - 1) / blk : Nat) : Int) := by simp
  unfold blocksOf
  show max 1 (((len + blk - 1 : Nat) : Int) / (blk : Int)) = _
  rw [e]
  omega

def byteAt (data : ByteArray) (i : Nat) : Nat := if h : i < data.size then (data[i]'h).toNat else 0
theorem byteAt_lt (data : ByteArray) (i : Nat) : byteAt data i < 256 := by
  unfold byteAt
  split
  · exact UInt8.toNat_lt _
  · omega

/-- The sum of a row, behind so many bytes of the object. -/
def sumUp (data : ByteArray) (blk row : Nat) : Nat → List Nat
  | 0 => List.replicate blk 0
  | i + 1 => if row.testBit (i / blk) then (sumUp data blk row i).set (i % blk) ((sumUp data blk row i).getD (i % blk) 0 ^^^ byteAt data i) else sumUp data blk row i
theorem sumUp_len (data : ByteArray) (blk row i : Nat) : (sumUp data blk row i).length = blk := by
  induction i with
  | zero => simp [sumUp]
  | succ i ih => unfold sumUp; split <;> simp [ih]
theorem xor_lt8 (a b : Nat) (ha : a < 256) (hb : b < 256) : a ^^^ b < 256 := Nat.xor_lt_two_pow (n := 8) (by omega) (by omega)
theorem getD_lt {l : List Nat} (h : ∀ b ∈ l, b < 256) (k : Nat) : l.getD k 0 < 256 := by
  by_cases hk : k < l.length
  · simp only [List.getD, List.getElem?_eq_getElem hk, Option.getD_some]; exact h _ (List.getElem_mem _)
  · simp [List.getD, hk]
theorem sumUp_lt (data : ByteArray) (blk row i : Nat) : ∀ b ∈ sumUp data blk row i, b < 256 := by
  induction i with
  | zero => intro b hb; simp [sumUp] at hb; omega
  | succ i ih =>
    unfold sumUp
    split
    · intro b hb
      rcases List.mem_or_eq_of_mem_set hb with q | q
      · exact ih b q
      · rw [q]; exact xor_lt8 _ _ (getD_lt ih _) (byteAt_lt _ _)
    · exact ih

theorem Bytes.setAt {w : World} {g n c : Nat} {ns : List Nat} (h : Bytes w g n c ns) (k b : Nat) (hb : b < 256) : Bytes (w.setCell ⟨g, k, none⟩ (.int .u8 (b : Int))) g n c (ns.set k b) := by
  refine ⟨?_, by simpa using h.len, fun x hx => ?_⟩
  · have := owns_setCell h.owns (g := g) rfl k (.int .u8 (b : Int))
    have e : byteRow (ns.set k b) = (byteRow ns).set k (.int .u8 (b : Int)) := by simp [byteRow, List.map_set]
    rw [e]; exact this
  · rcases List.mem_or_eq_of_mem_set hx with q | q
    · exact h.lt x q
    · omega
theorem Bytes.cellAt {w : World} {g n c : Nat} {ns : List Nat} (h : Bytes w g n c ns) (k : Nat) (hk : k < n) : w.cell? ⟨g, k, none⟩ = some (.int .u8 (ns.getD k 0 : Nat)) := by
  have hl := h.len
  exact owns_cell h.owns rfl (by simp [byteRow, List.getD, hl, hk])

set_option maxHeartbeats 800000 in
theorem sumOf_any (data : ByteArray) (blk row : Nat) (w : World) (h1 : 1 ≤ blk) (h2 : blk ≤ 32) (h : data.size ≤ 32 * blk) (hr : row < 4294967296) :
    Calls Tryd.prog 73 #[.string data, .int .i64 blk, .int .u32 row] w fun e w' => ∃ g, e = .returned (.slice (some ⟨g, 0, none⟩) blk blk) ∧ Bytes w' g blk blk (sumUp data blk row data.size) ∧ Below w.heap.size w w' := by
  have hmk := fun w => run_make_row' (P := Tryd.prog) 114 5 (.int .u8 0) 1 Tryd.underlying114 infoByte rfl .i64 .i64 blk (by omega) (by omega) w
  have hb0 : (0 : Int) < (blk : Int) := by omega
  go_enter Tryd.func73, Tryd.ntmps73
  go_wp2
  go_loopw [13] (fun i wr => ∃ k : Nat, k ≤ data.size ∧ i = .int .i64 k ∧ Bytes wr w.heap.size blk blk (sumUp data blk row k) ∧ Below w.heap.size w wr) (fun i _ => data.size - (intOf i).toNat)
  case atStart =>
    refine ⟨0, Nat.zero_le _, rfl, ⟨⟨by simp [byteRow, sumUp], .inr ⟨w.heap.size, blk, _, rfl, Nat.zero_le _, heap_alloc_new _ _, Nat.le_refl _, by unfold maxLen; omega, by simp [size_madeCells], ?_⟩⟩, sumUp_len _ _ _ _, sumUp_lt _ _ _ _⟩, (Below.refl _ _).alloc (Nat.le_refl _) _⟩
    rw [toList_madeCells_one]
    simp [byteRow, sumUp]
  case round =>
    obtain ⟨k, hk, rfl, hby, hbe⟩ := hrel
    by_cases hlt : k < data.size
    · have hlt' : (k : Int) < (data.size : Int) := by omega
      have hk0 : (0 : Int) ≤ (k : Int) := by omega
      have q0 : (0 : Int) ≤ (k : Int) / (blk : Int) := Int.ediv_nonneg (by omega) (by omega)
      have q1 : (k : Int) / (blk : Int) < 32 := Int.ediv_lt_of_lt_mul (by omega) (by omega)
      have m0 : (0 : Int) ≤ (k : Int) % (blk : Int) := Int.emod_nonneg _ (by omega)
      have m1 : (k : Int) % (blk : Int) < (blk : Int) := Int.emod_lt_of_pos _ (by omega)
      have hbit := bit_go row (k / blk) hr
      have hml : k % blk < blk := Nat.mod_lt _ (by omega)
      by_cases ht : row.testBit (k / blk) = true
      · rw [ht] at hbit
        have HS : Hid (sumUp data blk row (k + 1) = (sumUp data blk row k).set (k % blk) ((sumUp data blk row k).getD (k % blk) 0 ^^^ byteAt data k)) := by rw [Hid, sumUp, if_pos ht]
        clear ht
        have hc := hby.cellAt (k % blk) hml
        have hf : wr.frozen? ⟨w.heap.size, k % blk, none⟩ = false := owns_frozen hby.owns rfl _
        have hva := getD_lt hby.lt (k % blk)
        have hvb := byteAt_lt data k
        have hab : byteAt data k = data[k].toNat := by unfold byteAt; rw [dif_pos hlt]
        have hxl := xor_lt8 _ _ hva hvb
        have hset := hby.setAt (k % blk) _ hxl
        rw [← HS.out] at hset
        have hx : bits BinOp.xor IntKind.u8 (((sumUp data blk row k).getD (k % blk) 0 : Nat) : Int) (data[k].toNat : Int) = (((sumUp data blk row k).getD (k % blk) 0 ^^^ byteAt data k : Nat) : Int) := by rw [hab]; exact u8_xor_nat _ _ hva (by omega)
        generalize (sumUp data blk row k).getD (k % blk) 0 = v at *
        generalize v ^^^ byteAt data k = u at *
        have HT : Hid _ := hset
        clear hab hset HS hvb
        go_wp2
        go_region
        go_wp2
        refine ⟨⟨k + 1, by omega, by go_num, ⟨HT.out.owns, HT.out.len, HT.out.lt⟩, (hbe.setCell (Nat.le_refl _) _).drew⟩, by simp [intOf]; omega⟩
      · have htf : row.testBit (k / blk) = false := by simpa using ht
        rw [htf] at hbit
        have HS : Hid (sumUp data blk row (k + 1) = sumUp data blk row k) := by rw [Hid, sumUp, if_neg ht]
        clear ht htf
        go_wp2
        refine ⟨⟨k + 1, by omega, by go_num, by rw [HS.out]; exact hby, hbe⟩, by simp [intOf]; omega⟩
    · have hlt' : ¬ (k : Int) < (data.size : Int) := by omega
      obtain rfl : k = data.size := by omega
      go_wp2
      go_ret
      exact ⟨w.heap.size, rfl, hby, hbe⟩

end Go.Proofs.YtafipndlfkklfaaDoor


namespace Go.Proofs.YtafipndlfkklfaaDoor.Rx

/-- The lowest bit that is set (of a number below 2^32). -/
def tz : Nat → Nat → Nat
  | 0, _ => 0
  | k + 1, x => if x % 2 = 1 then 0 else tz k (x / 2) + 1
def low (x : Nat) : Nat := tz 32 x

theorem tz_spec (k x : Nat) (h0 : x ≠ 0) (h : x < 2 ^ k) : ∃ m, x = 2 ^ tz k x * (2 * m + 1) ∧ tz k x < k := by
  induction k generalizing x with
  | zero => simp at h; omega
  | succ k ih =>
    unfold tz
    by_cases hx : x % 2 = 1
    · rw [if_pos hx]
      exact ⟨x / 2, by simp; omega, by omega⟩
    · rw [if_neg hx]
      obtain ⟨m, hm, hk⟩ := ih (x / 2) (by omega) (by rw [Nat.pow_succ] at h; omega)
      refine ⟨m, ?_, by omega⟩
      rw [Nat.pow_succ, Nat.mul_comm (2 ^ tz k (x / 2)) 2, Nat.mul_assoc, ← hm]
      omega

theorem low_spec {x : Nat} (h0 : x ≠ 0) (h : x < 4294967296) : ∃ m, x = 2 ^ low x * (2 * m + 1) ∧ low x < 32 := tz_spec 32 x h0 h
theorem low_lt {x : Nat} (h0 : x ≠ 0) (h : x < 4294967296) : low x < 32 := by
  obtain ⟨_, _, q⟩ := low_spec h0 h
  exact q

theorem bit_form (j m i : Nat) : (2 ^ j * (2 * m + 1)).testBit i = (if i < j then false else if i = j then true else m.testBit (i - j - 1)) := by
  rw [Nat.testBit_two_pow_mul]
  by_cases h : i < j
  · have : ¬ j ≤ i := by omega
    simp [h, this]
  · have h1 : i ≥ j := by omega
    by_cases h2 : i = j
    · subst h2; simp
    · obtain ⟨d, rfl⟩ : ∃ d, i = j + (d + 1) := ⟨i - j - 1, by omega⟩
      rw [if_neg h, if_neg h2, show j + (d + 1) - j = d + 1 by omega, Nat.testBit_succ, show (2 * m + 1) / 2 = m by omega]
      simp [show j ≤ j + (d + 1) by omega]

theorem bit_pred (j m i : Nat) : (2 ^ j * (2 * m + 1) - 1).testBit i = (if i < j then true else if i = j then false else m.testBit (i - j - 1)) := by
  have hp : 0 < 2 ^ j := Nat.two_pow_pos j
  have e : 2 ^ j * (2 * m + 1) - 1 = 2 ^ j * (2 * m) + (2 ^ j - 1) := by rw [Nat.mul_add]; omega
  rw [e, Nat.testBit_two_pow_mul_add _ (by omega)]
  by_cases h : i < j
  · rw [if_pos h, if_pos h]
    simp [h]
  · rw [if_neg h, if_neg h]
    by_cases h2 : i = j
    · subst h2; simp
    · obtain ⟨d, rfl⟩ : ∃ d, i = j + (d + 1) := ⟨i - j - 1, by omega⟩
      rw [if_neg h2, show j + (d + 1) - j = d + 1 by omega, Nat.testBit_succ]
      simp

theorem low_bit {x : Nat} (h0 : x ≠ 0) (h : x < 4294967296) : x.testBit (low x) = true := by
  obtain ⟨m, hm, _⟩ := low_spec h0 h
  have := bit_form (low x) m (low x)
  rw [← hm] at this
  simpa using this
theorem low_below {x i : Nat} (h0 : x ≠ 0) (h : x < 4294967296) (hi : i < low x) : x.testBit i = false := by
  obtain ⟨m, hm, _⟩ := low_spec h0 h
  have := bit_form (low x) m i
  rw [← hm] at this
  simpa [hi] using this
/-- What marks the lowest bit. -/
theorem low_unique {x j : Nat} (h : x < 4294967296) (hj : x.testBit j = true) (hb : ∀ i, i < j → x.testBit i = false) : low x = j := by
  have h0 : x ≠ 0 := fun e => by simp [e] at hj
  rcases Nat.lt_trichotomy (low x) j with q | q | q
  · have := hb _ q
    rw [low_bit h0 h] at this
    cases this
  · exact q
  · rw [low_below h0 h q] at hj
    cases hj

/-- x & -x -/
theorem and_neg {x : Nat} (h0 : x ≠ 0) (h : x < 4294967296) : x &&& (4294967296 - x) = 2 ^ low x := by
  obtain ⟨m, hm, hl⟩ := low_spec h0 h
  apply Nat.eq_of_testBit_eq
  intro i
  rw [Nat.testBit_and, Nat.testBit_two_pow, show 4294967296 - x = 2 ^ 32 - ((x - 1) + 1) by omega, Nat.testBit_two_pow_sub_succ (by omega)]
  have e1 := bit_form (low x) m i
  have e2 := bit_pred (low x) m i
  rw [← hm] at e1 e2
  rw [e1, e2]
  by_cases q1 : i < low x
  · have : ¬ low x = i := by omega
    simp [q1, this]
  · by_cases q2 : i = low x
    · subst q2; simp [hl]
    · have : ¬ low x = i := fun e => q2 e.symm
      simp only [q1, q2, this, if_false, decide_false]
      cases m.testBit (i - low x - 1) <;> simp

/-- x & (x-1) -/
theorem and_pred {x : Nat} (h0 : x ≠ 0) (h : x < 4294967296) : x &&& (x - 1) = x ^^^ 2 ^ low x := by
  obtain ⟨m, hm, hl⟩ := low_spec h0 h
  apply Nat.eq_of_testBit_eq
  intro i
  rw [Nat.testBit_and, Nat.testBit_xor, Nat.testBit_two_pow]
  have e1 := bit_form (low x) m i
  have e2 := bit_pred (low x) m i
  rw [← hm] at e1 e2
  rw [e1, e2]
  by_cases q1 : i < low x
  · have : ¬ low x = i := by omega
    simp [q1, this]
  · by_cases q2 : i = low x
    · subst q2; simp
    · have : ¬ low x = i := fun e => q2 e.symm
      simp [q1, q2, this]

/-- The table of the lowest bits. -/
def tab : List Nat := [0, 1, 28, 2, 29, 14, 24, 3, 30, 22, 20, 15, 25, 17, 4, 8, 31, 27, 13, 23, 21, 19, 16, 7, 26, 12, 18, 6, 11, 5, 10, 9]
theorem tab_at : ∀ j, j < 32 → tab[(2 ^ j * 125613361 % 4294967296) / 134217728]? = some j := by decide

theorem xor_lt32' {a b : Nat} (ha : a < 4294967296) (hb : b < 4294967296) : a ^^^ b < 4294967296 := Nat.xor_lt_two_pow (n := 32) (by omega) (by omega)

/-- Bytes laid over one another. -/
def xorL (a b : List Nat) : List Nat := List.zipWith (· ^^^ ·) a b
theorem xorL_len {a b : List Nat} (h : a.length = b.length) : (xorL a b).length = a.length := by simp [xorL, h]
theorem xorL_lt {a b : List Nat} (ha : ∀ x ∈ a, x < 256) (hb : ∀ x ∈ b, x < 256) : ∀ x ∈ xorL a b, x < 256 := by
  intro x hx
  unfold xorL at hx
  rw [List.mem_iff_getElem] at hx
  obtain ⟨i, hi, rfl⟩ := hx
  rw [List.getElem_zipWith]
  exact Nat.xor_lt_two_pow (n := 8) (ha _ (List.getElem_mem _)) (hb _ (List.getElem_mem _))

/-- A set of sums: row and bytes, by the lowest block. -/
abbrev SetV := Nat → Nat × List Nat
def setAt (S : SetV) (j : Nat) (p : Nat × List Nat) : SetV := fun i => if i = j then p else S i
theorem setAt_same (S : SetV) (j : Nat) (p : Nat × List Nat) : setAt S j p j = p := by simp [setAt]
theorem setAt_other (S : SetV) {i j : Nat} (p : Nat × List Nat) (h : i ≠ j) : setAt S j p i = S i := by simp [setAt, h]

/-- A sum is taken in: the set, and whether it was kept. -/
def addF : Nat → SetV → Nat → List Nat → SetV × Bool
  | 0, S, _, _ => (S, false)
  | k + 1, S, r, b => if r = 0 then (S, false) else if (S (low r)).1 = 0 then (setAt S (low r) (r, b), true) else addF k S (r ^^^ (S (low r)).1) (xorL b (S (low r)).2)

/-- What a set keeps to. -/
structure SetOk (blk K : Nat) (S : SetV) : Prop where
  row : ∀ j, (S j).1 ≠ 0 → (S j).1 < 2 ^ K ∧ low (S j).1 = j ∧ (S j).2.length = blk ∧ ∀ x ∈ (S j).2, x < 256

theorem lt32 {x K : Nat} (hK : K ≤ 32) (h : x < 2 ^ K) : x < 4294967296 := Nat.lt_of_lt_of_le h (Nat.le_trans (Nat.pow_le_pow_right (by decide) hK) (by decide))
theorem low_ltK {x K : Nat} (hK : K ≤ 32) (h0 : x ≠ 0) (h : x < 2 ^ K) : low x < K := by
  apply Classical.byContradiction
  intro hn
  have h1 := low_bit h0 (lt32 hK h)
  have : x.testBit (low x) = false := Nat.testBit_lt_two_pow (Nat.lt_of_lt_of_le h (Nat.pow_le_pow_right (by decide) (by omega)))
  rw [this] at h1
  cases h1
theorem SetOk.ltK {blk K : Nat} {S : SetV} (h : SetOk blk K S) (hK : K ≤ 32) {j : Nat} (hj : (S j).1 ≠ 0) : j < K := by
  obtain ⟨h1, h2, _, _⟩ := h.row j hj
  have := low_ltK hK hj h1
  omega

/-- The next round's row. -/
theorem next_row {K r s : Nat} (hK : K ≤ 32) (hr : r ≠ 0) (hr2 : r < 2 ^ K) (hs : s ≠ 0) (hs2 : s < 2 ^ K) (he : low s = low r) : r ^^^ s < 2 ^ K ∧ (r ^^^ s = 0 ∨ low r < low (r ^^^ s)) := by
  have hx : r ^^^ s < 2 ^ K := Nat.xor_lt_two_pow hr2 hs2
  refine ⟨hx, ?_⟩
  by_cases h0 : r ^^^ s = 0
  · exact .inl h0
  · right
    apply Classical.byContradiction
    intro hn
    have h1 := low_bit h0 (lt32 hK hx)
    rw [Nat.testBit_xor] at h1
    rcases Nat.lt_or_eq_of_le (Nat.le_of_not_lt hn) with q | q
    · rw [low_below hr (lt32 hK hr2) q, low_below hs (lt32 hK hs2) (by omega)] at h1
      simp at h1
    · rw [q, low_bit hr (lt32 hK hr2), ← he, low_bit hs (lt32 hK hs2)] at h1
      simp at h1

theorem addF_ok {blk K : Nat} (hK : K ≤ 32) (k : Nat) : ∀ (S : SetV) (r : Nat) (b : List Nat), SetOk blk K S → r < 2 ^ K → b.length = blk → (∀ x ∈ b, x < 256) → SetOk blk K (addF k S r b).1 := by
  induction k with
  | zero => intro S r b h _ _ _; exact h
  | succ k ih =>
    intro S r b h hr hb hx
    unfold addF
    by_cases h0 : r = 0
    · rw [if_pos h0]; exact h
    · rw [if_neg h0]
      by_cases h1 : (S (low r)).1 = 0
      · rw [if_pos h1]
        refine ⟨fun j hj => ?_⟩
        show (setAt S (low r) (r, b) j).1 < 2 ^ K ∧ low (setAt S (low r) (r, b) j).1 = j ∧ (setAt S (low r) (r, b) j).2.length = blk ∧ ∀ x ∈ (setAt S (low r) (r, b) j).2, x < 256
        have hj' : (setAt S (low r) (r, b) j).1 ≠ 0 := hj
        by_cases hjl : j = low r
        · rw [hjl, setAt_same]
          exact ⟨hr, rfl, hb, hx⟩
        · rw [setAt_other _ _ hjl] at hj' ⊢
          exact h.row j hj'
      · rw [if_neg h1]
        obtain ⟨q1, q2, q3, q4⟩ := h.row _ h1
        exact ih S _ _ h (next_row hK h0 hr h1 q1 q2).1 (by rw [xorL_len (by omega)]; exact hb) (xorL_lt hx q4)

/-- How many rows there are. -/
def cntR (S : SetV) (K : Nat) : Nat := (List.range K).countP (fun j => (S j).1 != 0)
theorem cntR_le (S : SetV) (K : Nat) : cntR S K ≤ K := by
  have := List.countP_le_length (p := fun j => (S j).1 != 0) (l := List.range K)
  simpa [cntR] using this
theorem cntR_full {S : SetV} {K : Nat} (h : cntR S K = K) : ∀ j, j < K → (S j).1 ≠ 0 := by
  intro j hj
  have h' : (List.range K).countP (fun j => (S j).1 != 0) = (List.range K).length := by simpa [cntR] using h
  rw [List.countP_eq_length] at h'
  have := h' j (List.mem_range.2 hj)
  simpa using this
theorem cntR_all {S : SetV} {K : Nat} (h : ∀ j, j < K → (S j).1 ≠ 0) : cntR S K = K := by
  have h' : (List.range K).countP (fun j => (S j).1 != 0) = (List.range K).length := List.countP_eq_length.2 (fun j hj => by simpa using h j (List.mem_range.1 hj))
  simpa [cntR] using h'
theorem cntR_set {S : SetV} {j : Nat} {p : Nat × List Nat} (h0 : (S j).1 = 0) (hp : p.1 ≠ 0) : ∀ K, cntR (setAt S j p) K = cntR S K + if j < K then 1 else 0 := by
  intro K
  induction K with
  | zero => simp [cntR]
  | succ K ih =>
    unfold cntR at ih ⊢
    rw [List.range_succ, List.countP_append, List.countP_append, ih]
    by_cases hj : j = K
    · subst hj
      simp [setAt_same, h0, hp]
    · have hne : K ≠ j := fun e => hj e.symm
      rw [List.countP_cons, List.countP_cons, setAt_other _ _ hne, List.countP_nil, List.countP_nil]
      have e : (if j < K then 1 else 0) = (if j < K + 1 then 1 else 0) := by
        by_cases hl : j < K
        · rw [if_pos hl, if_pos (by omega)]
        · rw [if_neg hl, if_neg (by omega)]
      rw [e]
      omega

theorem addF_cnt {blk K : Nat} (hK : K ≤ 32) (k : Nat) : ∀ (S : SetV) (r : Nat) (b : List Nat), SetOk blk K S → r < 2 ^ K → cntR (addF k S r b).1 K = cntR S K + if (addF k S r b).2 then 1 else 0 := by
  induction k with
  | zero => intro S r b _ _; simp [addF]
  | succ k ih =>
    intro S r b h hr
    unfold addF
    by_cases h0 : r = 0
    · simp [h0]
    · rw [if_neg h0]
      by_cases h1 : (S (low r)).1 = 0
      · rw [if_pos h1]
        simp only [if_true]
        rw [cntR_set h1 h0, if_pos (low_ltK hK h0 hr)]
      · rw [if_neg h1]
        obtain ⟨q1, q2, q3, q4⟩ := h.row _ h1
        exact ih S _ _ h (next_row hK h0 hr h1 q1 q2).1

/-- One sum alone: the others are taken out of it, from the lowest on. -/
def outF : Nat → SetV → Nat → Nat → SetV
  | 0, S, _, _ => S
  | k + 1, S, j, o => if o = 0 then S else outF k (setAt S j ((S j).1 ^^^ (S (low o)).1, xorL (S j).2 (S (low o)).2)) j (o ^^^ 2 ^ low o)
def aloneF (S : SetV) (j : Nat) : SetV := outF 33 S j ((S j).1 ^^^ 2 ^ j)
/-- From block k - 1 on down. -/
def downF : Nat → SetV → SetV
  | 0, S => S
  | k + 1, S => downF k (aloneF S k)
def joinF (S : SetV) (K : Nat) : List Nat := (List.range K).flatMap (fun j => (downF K S j).2)

end Go.Proofs.YtafipndlfkklfaaDoor.Rx


namespace Go.Proofs.YtafipndlfkklfaaDoor
open Go.RowKit

/-- The table of math/bits lies in the first block. -/
def Tab (w : World) : Prop := ∀ (i x : Nat), Rx.tab[i]? = some x → w.cell? ⟨0, i, none⟩ = some (.int .u8 (x : Int))
theorem Tab.turn {S : List Nat} {w w' : World} (h : Tab w) (ht : Turn S w w') (hn : 0 ∉ S) : Tab w' := fun i x hx =>
  (World.cell?_of_block (ht.block 0 (World.block_lt_of_cell? w _ (h i x hx)) hn)).trans (h i x hx)

set_option maxHeartbeats 400000 in
theorem trailing_any (x : Nat) (w : World) (h0 : x ≠ 0) (h : x < 4294967296) (ht : Tab w) :
    Calls Tryd.prog 104 #[.int .u32 x] w fun e w' => e = .returned (.int .i64 (Rx.low x)) ∧ w' = w := by
  have q0 : ((x : Int) == 0) = false := by simp; omega
  have hand : bits BinOp.and IntKind.u32 (x : Int) (-(x : Int) % 4294967296) = ((2 ^ Rx.low x : Nat) : Int) := by
    have e : (-(x : Int) % 4294967296) = ((4294967296 - x : Nat) : Int) := by omega
    rw [e, ← Rx.and_neg h0 h]
    exact u32_and_nat x (4294967296 - x) h (by omega)
  have hl := Rx.low_lt h0 h
  have hc : w.cell? ⟨0, (bits BinOp.and IntKind.u32 (x : Int) (-(x : Int) % 4294967296) * 125613361 % 4294967296 / 134217728).toNat, none⟩ = some (.int .u8 (Rx.low x : Int)) := by
    rw [hand]
    have e : (((2 ^ Rx.low x : Nat) : Int) * 125613361 % 4294967296 / 134217728).toNat = (2 ^ Rx.low x * 125613361 % 4294967296) / 134217728 := by
      generalize 2 ^ Rx.low x = y
      rw [show ((y : Int) * 125613361 % 4294967296 / 134217728) = (((y * 125613361 % 4294967296) / 134217728 : Nat) : Int) by simp]
      exact Int.toNat_natCast _
    rw [e]
    exact ht _ _ (Rx.tab_at _ hl)
  clear hand
  go_enter Tryd.func104, Tryd.ntmps104
  go_wp2
  go_ret
  exact ⟨rfl, rfl⟩

/-- A row of bytes at any place. -/
structure CellsAt (w : World) (g off : Nat) (ns : List Nat) : Prop where
  cell : ∀ k x, ns[k]? = some x → w.cell? ⟨g, off + k, none⟩ = some (.int .u8 (x : Nat))
  lt : ∀ b ∈ ns, b < 256
theorem CellsAt.turn {S : List Nat} {w w' : World} {g off : Nat} {ns : List Nat} (h : CellsAt w g off ns) (ht : Turn S w w') (hn : g ∉ S) : CellsAt w' g off ns :=
  ⟨fun k x hx => (World.cell?_of_block (ht.block g (World.block_lt_of_cell? w _ (h.cell k x hx)) hn)).trans (h.cell k x hx), h.lt⟩

set_option maxRecDepth 100000 in
set_option maxHeartbeats 400000 in
theorem sclone_any (g off n cap : Nat) (ns : List Nat) (w : World) (h : CellsAt w g off ns) (hl : ns.length = n) (hn0 : 0 < n) (hn : n ≤ 1000) :
    Calls Tryd.prog 103 #[.slice (some ⟨g, off, none⟩) n cap] w fun e w' => ∃ g' c', e = .returned (.slice (some ⟨g', 0, none⟩) n c') ∧ Bytes w' g' n c' ns ∧ Below w.heap.size w w' ∧ w.heap.size ≤ g' := by
  obtain ⟨i0, hi, hz0, hz1, hz2⟩ := info_parts infoByte
  have hq := fun w => Go.Lib.run_eql_slice_nil (P := Tryd.prog) w 114 5 (some ⟨g, off, none⟩) n cap 0 0 Tryd.underlying114
  go_enter Tryd.func103, Tryd.ntmps103
  go_wp2_with (at_builtin; refine wpList_append_grows _ rfl _ _ 114 rfl 5 i0 _ 1 1 Tryd.underlying114 hi hz0 hz1 hz2 rfl (by decide) (some ⟨w.heap.size, 0, none⟩) 0 0 [] rfl (by intro e; cases e) rfl (by intro b _ j u hu; simp at hu) ⟨g, off, none⟩ n cap (byteRow ns) rfl (by rw [byteRow_len, hl]; omega) ?cells (by intro u hu; simp [byteRow] at hu; obtain ⟨b, _, rfl⟩ := hu; rfl) (by omega) (by unfold maxLen; omega) (by omega) ?_)
  case cells =>
    intro j u hu
    obtain ⟨x, hx, rfl⟩ : ∃ x : Nat, ns[j]? = some x ∧ Value.int .u8 (x : Int) = u := by simpa [byteRow] using hu
    rw [Addr.add_lit]
    exact cellNew (h.cell j x hx) _
  intro v' w' hown hgrow
  obtain ⟨g', c', rfl, hge, hlt⟩ := hown.form (by omega)
  go_wp2
  go_ret
  have hb := ((Below.refl w.heap.size w).alloc (Nat.le_refl _) (.cells #[] 5)).trans (⟨hgrow.os, hgrow.tape, hgrow.output, hgrow.size, fun k hk => hgrow.block k (by simp; omega) (by simp)⟩ : Below w.heap.size _ w')
  refine ⟨g', c', rfl, ⟨⟨hown.1, ?_⟩, hl, h.lt⟩, hb, by omega⟩
  rcases hown.2 with ⟨q, _⟩ | ⟨g2, cap2, cur, q1, q2, q3⟩
  · cases q
  · exact .inr ⟨g2, cap2, cur, q1, Nat.zero_le _, q3⟩

def xorUp (a b : List Nat) (k : Nat) : List Nat := (List.range a.length).map (fun i => if i < k then a.getD i 0 ^^^ b.getD i 0 else a.getD i 0)
theorem xorUp_zero (a b : List Nat) : xorUp a b 0 = a := by
  apply List.ext_getElem
  · simp [xorUp]
  · intro i h1 h2
    simp [xorUp, List.getD, h2]
theorem xorUp_full {a b : List Nat} (h : a.length = b.length) : xorUp a b a.length = Rx.xorL a b := by
  apply List.ext_getElem
  · simp [xorUp, Rx.xorL, h]
  · intro i h1 h2
    have h3 : i < a.length := by simpa [xorUp] using h1
    have h4 : i < b.length := by omega
    simp [xorUp, Rx.xorL, List.getD, h3, h4]
theorem xorUp_get {a b : List Nat} {k : Nat} (hk : k < a.length) : (xorUp a b k).getD k 0 = a.getD k 0 := by
  simp [xorUp, List.getD, hk]
theorem xorUp_set {a b : List Nat} {k : Nat} (hk : k < a.length) : (xorUp a b k).set k (a.getD k 0 ^^^ b.getD k 0) = xorUp a b (k + 1) := by
  apply List.ext_getElem
  · simp [xorUp]
  · intro i h1 h2
    have h3 : i < a.length := by simpa [xorUp] using h2
    by_cases hi : i = k
    · subst hi
      simp [xorUp]
    · rw [List.getElem_set_ne (fun e => hi e.symm)]
      simp only [xorUp, List.getElem_map, List.getElem_range]
      by_cases hl : i < k
      · rw [if_pos hl, if_pos (by omega)]
      · rw [if_neg hl, if_neg (by omega)]

set_option maxRecDepth 100000 in
set_option maxHeartbeats 800000 in
theorem addSum_any (pb po r1 r2 g1 c1 g2 c2 n : Nat) (ns1 ns2 : List Nat) (w : World) (hp0 : w.cell? ⟨pb, po, none⟩ = some (.int .u32 r1)) (hp1 : w.cell? ⟨pb, po + 1, none⟩ = some (.slice (some ⟨g1, 0, none⟩) n c1)) (hfz : w.frozen? ⟨pb, po, none⟩ = false)
    (b1 : Bytes w g1 n c1 ns1) (b2 : Bytes w g2 n c2 ns2) (hd : g1 ≠ g2) (hp : pb ≠ g1) (hp2 : pb ≠ g2) (hr1 : r1 < 4294967296) (hr2 : r2 < 4294967296) (hn : n ≤ 1000) :
    Calls Tryd.prog 105 #[.pointer (some ⟨pb, po, none⟩), .agg #[.int .u32 r2, .slice (some ⟨g2, 0, none⟩) n c2]] w fun e w' => e = .returned (.tuple #[]) ∧ Turn [g1] (w.setCell ⟨pb, po, none⟩ (.int .u32 (r1 ^^^ r2 : Nat))) w' ∧ Bytes w' g1 n c1 (Rx.xorL ns1 ns2) := by
  have hx : bits BinOp.xor IntKind.u32 (r1 : Int) (r2 : Int) = ((r1 ^^^ r2 : Nat) : Int) := u32_xor_nat _ _ hr1 hr2
  have hplt : pb < w.heap.size := World.block_lt_of_cell? w _ hp0
  have hg1 := owns_lt b1.owns (g := g1) rfl
  have hg2 := owns_lt b2.owns (g := g2) rfl
  have l1 := b1.len
  have l2 := b2.len
  go_enter Tryd.func105, Tryd.ntmps105
  go_wp2_with fail
  go_region
  go_wp2_with fail
  have hT0 : Turn [g1] (w.setCell ⟨pb, po, none⟩ (.int .u32 (r1 ^^^ r2 : Nat))) (((w.setCell ⟨pb, po, none⟩ (.int .u32 (r1 ^^^ r2 : Nat))).alloc (.cells #[.int .u32 r2, .slice (some ⟨g2, 0, none⟩) n c2] 116)).drew) := ((Turn.refl _ _).alloc _).drew
  have hb1 : Bytes (w.setCell ⟨pb, po, none⟩ (.int .u32 (r1 ^^^ r2 : Nat))) g1 n c1 ns1 := b1.turn ((Turn.refl [pb] w).setCell (.inl (by simp)) _) (by simpa using fun e => hp e.symm)
  have hb2 : Bytes (w.setCell ⟨pb, po, none⟩ (.int .u32 (r1 ^^^ r2 : Nat))) g2 n c2 ns2 := b2.turn ((Turn.refl [pb] w).setCell (.inl (by simp)) _) (by simpa using fun e => hp2 e.symm)
  have hpA : (w.setCell ⟨pb, po, none⟩ (.int .u32 (r1 ^^^ r2 : Nat))).cell? ⟨pb, po + 1, none⟩ = some (.slice (some ⟨g1, 0, none⟩) n c1) := by
    rw [World.cell?_setCell_other _ _ _ _ (by simp)]; exact hp1
  have hplt' : pb < (w.setCell ⟨pb, po, none⟩ (.int .u32 (r1 ^^^ r2 : Nat))).heap.size := by simpa using hplt
  clear hp0 hp1 hfz b1 b2 hx
  generalize hv : w.setCell ⟨pb, po, none⟩ (.int .u32 (r1 ^^^ r2 : Nat)) = v at *
  go_loopw [18] (fun i wr => ∃ k : Nat, k ≤ n ∧ i = .int .i64 k ∧ Turn [g1] v wr ∧ Bytes wr g1 n c1 (xorUp ns1 ns2 k)) (fun i _ => n - (intOf i).toNat)
  case atStart => exact ⟨0, Nat.zero_le _, rfl, hT0, by rw [xorUp_zero]; exact hb1.turn (((Turn.refl [] v).alloc _).drew) (by simp)⟩
  case round =>
    obtain ⟨k, hk, rfl, ht, hb⟩ := hrel
    have hpw : wr.cell? ⟨pb, po + 1, none⟩ = some (.slice (some ⟨g1, 0, none⟩) n c1) := (World.cell?_of_block (ht.block pb hplt' (by simpa using hp))).trans hpA
    have hbw : Bytes wr g2 n c2 ns2 := hb2.turn ht (by simpa using fun e => hd e.symm)
    by_cases hlt : k < n
    · have hlt' : (k : Int) < (n : Int) := by omega
      have hk0 : (0 : Int) ≤ (k : Int) := by omega
      have c2' := hbw.cellAt k hlt
      have c1' := hb.cellAt k hlt
      rw [xorUp_get (by omega)] at c1'
      have hf : wr.frozen? ⟨g1, k, none⟩ = false := owns_frozen hb.owns rfl _
      have hva := getD_lt (xorUp_zero ns1 ns2 ▸ hb1.lt) k
      have hvb := getD_lt hbw.lt k
      have hset := hb.setAt k _ (xor_lt8 _ _ (getD_lt hb1.lt k) hvb)
      rw [xorUp_set (by omega)] at hset
      have hx : bits BinOp.xor IntKind.u8 ((ns1.getD k 0 : Nat) : Int) ((ns2.getD k 0 : Nat) : Int) = ((ns1.getD k 0 ^^^ ns2.getD k 0 : Nat) : Int) := u8_xor_nat _ _ (getD_lt hb1.lt k) hvb
      have HB : Hid _ := hset
      clear hset hb hva
      generalize ns1.getD k 0 = va at *
      generalize ns2.getD k 0 = vb at *
      generalize va ^^^ vb = vx at *
      go_wp2
      refine ⟨⟨k + 1, by omega, by go_num, ht.setCell (.inl (by simp)) _, HB.out⟩, by simp [intOf]; omega⟩
    · have hlt' : ¬ (k : Int) < (n : Int) := by omega
      obtain rfl : k = n := by omega
      go_wp2
      rw [show k = ns1.length by omega] at hb
      rw [xorUp_full (by omega)] at hb
      refine bodyPost_end (results_none rfl _ _ _) rfl ⟨rfl, by first | exact ht | (rw [hv]; exact ht), ?_⟩
      rw [← l1]
      exact hb

end Go.Proofs.YtafipndlfkklfaaDoor


namespace Go.Proofs.YtafipndlfkklfaaDoor.LF
open Go.ChangeShapes Go.WideShapes Go.ChangeAt Go.RowKit

theorem own : ownKnob Tryd.prog.godebug = none := by kernel_rfl
theorem gTab : Tryd.prog.globalNamed "math/bits.deBruijn32tab" = some 0 := by kernel_rfl
theorem gTabType : (Tryd.prog.globals[0]?).map (·.type) = some 209 := by kernel_rfl
theorem cellsT : Tryd.prog.cellsOf 209 = 32 := by kernel_rfl
theorem cellsB : Tryd.prog.cellsOf 5 = 1 := by kernel_rfl


theorem table {W : World} (h : laidMetH Tryd.prog Rows.wholeRow.laid W) : Lib.TabIs Tryd.prog W "math/bits.deBruijn32tab" .u8 [0, 1, 28, 2, 29, 14, 24, 3, 30, 22, 20, 15, 25, 17, 4, 8, 31, 27, 13, 23, 21, 19, 16, 7, 26, 12, 18, 6, 11, 5, 10, 9] :=
  Lib.tabIs_of_head (rest := []) gTab gTabType Tryd.underlying209 Tryd.underlying5 cellsB cellsT h

theorem tab_of {W : World} (h : laidMetH Tryd.prog Rows.wholeRow.laid W) : Tab W := by
  intro i x hx
  have hi : i < 32 := by
    have := (List.getElem?_eq_some_iff.1 hx).1
    simpa [Rx.tab] using this
  have hc := (table h).cell gTab i (by simpa using hi)
  rw [hc]
  have e : ([0, 1, 28, 2, 29, 14, 24, 3, 30, 22, 20, 15, 25, 17, 4, 8, 31, 27, 13, 23, 21, 19, 16, 7, 26, 12, 18, 6, 11, 5, 10, 9] : List Int) = Rx.tab.map (fun n : Nat => (n : Int)) := rfl
  have e2 : ([0, 1, 28, 2, 29, 14, 24, 3, 30, 22, 20, 15, 25, 17, 4, 8, 31, 27, 13, 23, 21, 19, 16, 7, 26, 12, 18, 6, 11, 5, 10, 9] : List Int).getD i 0 = (x : Int) := by
    rw [e, List.getD_eq_getElem?_getD, List.getElem?_map, hx]
    rfl
  rw [e2]

/-- A world for the witness. -/
noncomputable def laidWorld (os : Os) : World :=
  { World.holding Tryd.prog os ⟨#[], #[], []⟩ with heap := (World.holding Tryd.prog os ⟨#[], #[], []⟩).heap.modify 0 fun
      | .cells _ t frozen => .cells #[.int .u8 0, .int .u8 1, .int .u8 28, .int .u8 2, .int .u8 29, .int .u8 14, .int .u8 24, .int .u8 3, .int .u8 30, .int .u8 22, .int .u8 20, .int .u8 15, .int .u8 25, .int .u8 17, .int .u8 4, .int .u8 8, .int .u8 31, .int .u8 27, .int .u8 13, .int .u8 23, .int .u8 21, .int .u8 19, .int .u8 16, .int .u8 7, .int .u8 26, .int .u8 12, .int .u8 18, .int .u8 6, .int .u8 11, .int .u8 5, .int .u8 10, .int .u8 9] t frozen
      | o => o }
end Go.Proofs.YtafipndlfkklfaaDoor.LF
