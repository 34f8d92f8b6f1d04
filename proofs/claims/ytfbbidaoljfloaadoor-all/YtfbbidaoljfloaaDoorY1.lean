
namespace Go.Proofs.YtfbbidaoljfloaaDoor.Rx

/-- The lowest bit that is set (of a number below 2^32). -/
def tz : Nat → Nat → Nat
  | 0, _ => 0
  | k + 1, x => if x % 2 = 1 then 0 else tz k (x / 2) + 1
def low (x : Nat) : Nat := tz 32 x

theorem tz_spec (k x : Nat) (h0 : x ≠ 0) (h : x < 2 ^ k) : ∃ m, x = 2 ^ tz k x * (2 * m + 1) ∧ tz k x < k := by
  induction k generalizing x with
  | zero => simp at h; omega
  | succ k ih =>
    unfold tz
    by_cases hx : x % 2 = 1
    · rw [if_pos hx]
      exact ⟨x / 2, by simp; omega, by omega⟩
    · rw [if_neg hx]
      obtain ⟨m, hm, hk⟩ := ih (x / 2) (by omega) (by rw [Nat.pow_succ] at h; omega)
      refine ⟨m, ?_, by omega⟩
      rw [Nat.pow_succ, Nat.mul_comm (2 ^ tz k (x / 2)) 2, Nat.mul_assoc, ← hm]
      omega

theorem low_spec {x : Nat} (h0 : x ≠ 0) (h : x < 4294967296) : ∃ m, x = 2 ^ low x * (2 * m + 1) ∧ low x < 32 := tz_spec 32 x h0 h
theorem low_lt {x : Nat} (h0 : x ≠ 0) (h : x < 4294967296) : low x < 32 := by
  obtain ⟨_, _, q⟩ := low_spec h0 h
  exact q

theorem bit_form (j m i : Nat) : (2 ^ j * (2 * m + 1)).testBit i = (if i < j then false else if i = j then true else m.testBit (i - j - 1)) := by
  rw [Nat.testBit_two_pow_mul]
  by_cases h : i < j
  · have : ¬ j ≤ i := by omega
    simp [h, this]
  · have h1 : i ≥ j := by omega
    by_cases h2 : i = j
    · subst h2; simp
    · obtain ⟨d, rfl⟩ : ∃ d, i = j + (d + 1) := ⟨i - j - 1, by omega⟩
      rw [if_neg h, if_neg h2, show j + (d + 1) - j = d + 1 by omega, Nat.testBit_succ, show (2 * m + 1) / 2 = m by omega]
      simp [show j ≤ j + (d + 1) by omega]

theorem bit_pred (j m i : Nat) : (2 ^ j * (2 * m + 1) - 1).testBit i = (if i < j then true else if i = j then false else m.testBit (i - j - 1)) := by
  have hp : 0 < 2 ^ j := Nat.two_pow_pos j
  have e : 2 ^ j * (2 * m + 1) - 1 = 2 ^ j * (2 * m) + (2 ^ j - 1) := by rw [Nat.mul_add]; omega
  rw [e, Nat.testBit_two_pow_mul_add _ (by omega)]
  by_cases h : i < j
  · rw [if_pos h, if_pos h]
    simp [h]
  · rw [if_neg h, if_neg h]
    by_cases h2 : i = j
    · subst h2; simp
    · obtain ⟨d, rfl⟩ : ∃ d, i = j + (d + 1) := ⟨i - j - 1, by omega⟩
      rw [if_neg h2, show j + (d + 1) - j = d + 1 by omega, Nat.testBit_succ]
      simp

theorem low_bit {x : Nat} (h0 : x ≠ 0) (h : x < 4294967296) : x.testBit (low x) = true := by
  obtain ⟨m, hm, _⟩ := low_spec h0 h
  have := bit_form (low x) m (low x)
  rw [← hm] at this
  simpa using this
theorem low_below {x i : Nat} (h0 : x ≠ 0) (h : x < 4294967296) (hi : i < low x) : x.testBit i = false := by
  obtain ⟨m, hm, _⟩ := low_spec h0 h
  have := bit_form (low x) m i
  rw [← hm] at this
  simpa [hi] using this
/-- What marks the lowest bit. -/
theorem low_unique {x j : Nat} (h : x < 4294967296) (hj : x.testBit j = true) (hb : ∀ i, i < j → x.testBit i = false) : low x = j := by
  have h0 : x ≠ 0 := fun e => by simp [e] at hj
  rcases Nat.lt_trichotomy (low x) j with q | q | q
  · have := hb _ q
    rw [low_bit h0 h] at this
    cases this
  · exact q
  · rw [low_below h0 h q] at hj
    cases hj

/-- x & -x -/
theorem and_neg {x : Nat} (h0 : x ≠ 0) (h : x < 4294967296) : x &&& (4294967296 - x) = 2 ^ low x := by
  obtain ⟨m, hm, hl⟩ := low_spec h0 h
  apply Nat.eq_of_testBit_eq
  intro i
  rw [Nat.testBit_and, Nat.testBit_two_pow, show 4294967296 - x = 2 ^ 32 - ((x - 1) + 1) by omega, Nat.testBit_two_pow_sub_succ (by omega)]
  have e1 := bit_form (low x) m i
  have e2 := bit_pred (low x) m i
  rw [← hm] at e1 e2
  rw [e1, e2]
  by_cases q1 : i < low x
  · have : ¬ low x = i := by omega
    simp [q1, this]
  · by_cases q2 : i = low x
    · subst q2; simp [hl]
    · have : ¬ low x = i := fun e => q2 e.symm
      simp only [q1, q2, this, if_false, decide_false]
      cases m.testBit (i - low x - 1) <;> simp

/-- x & (x-1) -/
theorem and_pred {x : Nat} (h0 : x ≠ 0) (h : x < 4294967296) : x &&& (x - 1) = x ^^^ 2 ^ low x := by
  obtain ⟨m, hm, hl⟩ := low_spec h0 h
  apply Nat.eq_of_testBit_eq
  intro i
  rw [Nat.testBit_and, Nat.testBit_xor, Nat.testBit_two_pow]
  have e1 := bit_form (low x) m i
  have e2 := bit_pred (low x) m i
  rw [← hm] at e1 e2
  rw [e1, e2]
  by_cases q1 : i < low x
  · have : ¬ low x = i := by omega
    simp [q1, this]
  · by_cases q2 : i = low x
    · subst q2; simp
    · have : ¬ low x = i := fun e => q2 e.symm
      simp [q1, q2, this]

/-- The table of the lowest bits. -/
def tab : List Nat := [0, 1, 28, 2, 29, 14, 24, 3, 30, 22, 20, 15, 25, 17, 4, 8, 31, 27, 13, 23, 21, 19, 16, 7, 26, 12, 18, 6, 11, 5, 10, 9]
theorem tab_at : ∀ j, j < 32 → tab[(2 ^ j * 125613361 % 4294967296) / 134217728]? = some j := by decide

theorem xor_lt32' {a b : Nat} (ha : a < 4294967296) (hb : b < 4294967296) : a ^^^ b < 4294967296 := Nat.xor_lt_two_pow (n := 32) (by omega) (by omega)

/-- Bytes laid over one another. -/
def xorL (a b : List Nat) : List Nat := List.zipWith (· ^^^ ·) a b
theorem xorL_len {a b : List Nat} (h : a.length = b.length) : (xorL a b).length = a.length := by simp [xorL, h]
theorem xorL_lt {a b : List Nat} (ha : ∀ x ∈ a, x < 256) (hb : ∀ x ∈ b, x < 256) : ∀ x ∈ xorL a b, x < 256 := by
  intro x hx
  unfold xorL at hx
  rw [List.mem_iff_getElem] at hx
  obtain ⟨i, hi, rfl⟩ := hx
  rw [List.getElem_zipWith]
  exact Nat.xor_lt_two_pow (n := 8) (ha _ (List.getElem_mem _)) (hb _ (List.getElem_mem _))

/-- A set of sums: row and bytes, by the lowest block. -/
abbrev SetV := Nat → Nat × List Nat
def setAt (S : SetV) (j : Nat) (p : Nat × List Nat) : SetV := fun i => if i = j then p else S i
theorem setAt_same (S : SetV) (j : Nat) (p : Nat × List Nat) : setAt S j p j = p := by simp [setAt]
theorem setAt_other (S : SetV) {i j : Nat} (p : Nat × List Nat) (h : i ≠ j) : setAt S j p i = S i := by simp [setAt, h]

/-- A sum is taken in: the set, and whether it was kept. -/
def addF : Nat → SetV → Nat → List Nat → SetV × Bool
  | 0, S, _, _ => (S, false)
  | k + 1, S, r, b => if r = 0 then (S, false) else if (S (low r)).1 = 0 then (setAt S (low r) (r, b), true) else addF k S (r ^^^ (S (low r)).1) (xorL b (S (low r)).2)

/-- What a set keeps to. -/
structure SetOk (blk K : Nat) (S : SetV) : Prop where
  row : ∀ j, (S j).1 ≠ 0 → (S j).1 < 2 ^ K ∧ low (S j).1 = j ∧ (S j).2.length = blk ∧ ∀ x ∈ (S j).2, x < 256

theorem lt32 {x K : Nat} (hK : K ≤ 32) (h : x < 2 ^ K) : x < 4294967296 := Nat.lt_of_lt_of_le h (Nat.le_trans (Nat.pow_le_pow_right (by decide) hK) (by decide))
theorem low_ltK {x K : Nat} (hK : K ≤ 32) (h0 : x ≠ 0) (h : x < 2 ^ K) : low x < K := by
  apply Classical.byContradiction
  intro hn
  have h1 := low_bit h0 (lt32 hK h)
  have : x.testBit (low x) = false := Nat.testBit_lt_two_pow (Nat.lt_of_lt_of_le h (Nat.pow_le_pow_right (by decide) (by omega)))
  rw [this] at h1
  cases h1
theorem SetOk.ltK {blk K : Nat} {S : SetV} (h : SetOk blk K S) (hK : K ≤ 32) {j : Nat} (hj : (S j).1 ≠ 0) : j < K := by
  obtain ⟨h1, h2, _, _⟩ := h.row j hj
  have := low_ltK hK hj h1
  omega

/-- The next round's row. -/
theorem next_row {K r s : Nat} (hK : K ≤ 32) (hr : r ≠ 0) (hr2 : r < 2 ^ K) (hs : s ≠ 0) (hs2 : s < 2 ^ K) (he : low s = low r) : r ^^^ s < 2 ^ K ∧ (r ^^^ s = 0 ∨ low r < low (r ^^^ s)) := by
  have hx : r ^^^ s < 2 ^ K := Nat.xor_lt_two_pow hr2 hs2
  refine ⟨hx, ?_⟩
  by_cases h0 : r ^^^ s = 0
  · exact .inl h0
  · right
    apply Classical.byContradiction
    intro hn
    have h1 := low_bit h0 (lt32 hK hx)
    rw [Nat.testBit_xor] at h1
    rcases Nat.lt_or_eq_of_le (Nat.le_of_not_lt hn) with q | q
    · rw [low_below hr (lt32 hK hr2) q, low_below hs (lt32 hK hs2) (by omega)] at h1
      simp at h1
    · rw [q, low_bit hr (lt32 hK hr2), ← he, low_bit hs (lt32 hK hs2)] at h1
      simp at h1

theorem addF_ok {blk K : Nat} (hK : K ≤ 32) (k : Nat) : ∀ (S : SetV) (r : Nat) (b : List Nat), SetOk blk K S → r < 2 ^ K → b.length = blk → (∀ x ∈ b, x < 256) → SetOk blk K (addF k S r b).1 := by
  induction k with
  | zero => intro S r b h _ _ _; exact h
  | succ k ih =>
    intro S r b h hr hb hx
    unfold addF
    by_cases h0 : r = 0
    · rw [if_pos h0]; exact h
    · rw [if_neg h0]
      by_cases h1 : (S (low r)).1 = 0
      · rw [if_pos h1]
        refine ⟨fun j hj => ?_⟩
        show (setAt S (low r) (r, b) j).1 < 2 ^ K ∧ low (setAt S (low r) (r, b) j).1 = j ∧ (setAt S (low r) (r, b) j).2.length = blk ∧ ∀ x ∈ (setAt S (low r) (r, b) j).2, x < 256
        have hj' : (setAt S (low r) (r, b) j).1 ≠ 0 := hj
        by_cases hjl : j = low r
        · rw [hjl, setAt_same]
          exact ⟨hr, rfl, hb, hx⟩
        · rw [setAt_other _ _ hjl] at hj' ⊢
          exact h.row j hj'
      · rw [if_neg h1]
        obtain ⟨q1, q2, q3, q4⟩ := h.row _ h1
        exact ih S _ _ h (next_row hK h0 hr h1 q1 q2).1 (by rw [xorL_len (by omega)]; exact hb) (xorL_lt hx q4)

/-- How many rows there are. -/
def cntR (S : SetV) (K : Nat) : Nat := (List.range K).countP (fun j => (S j).1 != 0)
theorem cntR_le (S : SetV) (K : Nat) : cntR S K ≤ K := by
  have := List.countP_le_length (p := fun j => (S j).1 != 0) (l := List.range K)
  simpa [cntR] using this
theorem cntR_full {S : SetV} {K : Nat} (h : cntR S K = K) : ∀ j, j < K → (S j).1 ≠ 0 := by
  intro j hj
  have h' : (List.range K).countP (fun j => (S j).1 != 0) = (List.range K).length := by simpa [cntR] using h
  rw [List.countP_eq_length] at h'
  have := h' j (List.mem_range.2 hj)
  simpa using this
theorem cntR_all {S : SetV} {K : Nat} (h : ∀ j, j < K → (S j).1 ≠ 0) : cntR S K = K := by
  have h' : (List.range K).countP (fun j => (S j).1 != 0) = (List.range K).length := List.countP_eq_length.2 (fun j hj => by simpa using h j (List.mem_range.1 hj))
  simpa [cntR] using h'
theorem cntR_set {S : SetV} {j : Nat} {p : Nat × List Nat} (h0 : (S j).1 = 0) (hp : p.1 ≠ 0) : ∀ K, cntR (setAt S j p) K = cntR S K + if j < K then 1 else 0 := by
  intro K
  induction K with
  | zero => simp [cntR]
  | succ K ih =>
    unfold cntR at ih ⊢
    rw [List.range_succ, List.countP_append, List.countP_append, ih]
    by_cases hj : j = K
    · subst hj
      simp [setAt_same, h0, hp]
    · have hne : K ≠ j := fun e => hj e.symm
      rw [List.countP_cons, List.countP_cons, setAt_other _ _ hne, List.countP_nil, List.countP_nil]
      have e : (if j < K then 1 else 0) = (if j < K + 1 then 1 else 0) := by
        by_cases hl : j < K
        · rw [if_pos hl, if_pos (by omega)]
        · rw [if_neg hl, if_neg (by omega)]
      rw [e]
      omega

theorem addF_cnt {blk K : Nat} (hK : K ≤ 32) (k : Nat) : ∀ (S : SetV) (r : Nat) (b : List Nat), SetOk blk K S → r < 2 ^ K → cntR (addF k S r b).1 K = cntR S K + if (addF k S r b).2 then 1 else 0 := by
  induction k with
  | zero => intro S r b _ _; simp [addF]
  | succ k ih =>
    intro S r b h hr
    unfold addF
    by_cases h0 : r = 0
    · simp [h0]
    · rw [if_neg h0]
      by_cases h1 : (S (low r)).1 = 0
      · rw [if_pos h1]
        simp only [if_true]
        rw [cntR_set h1 h0, if_pos (low_ltK hK h0 hr)]
      · rw [if_neg h1]
        obtain ⟨q1, q2, q3, q4⟩ := h.row _ h1
        exact ih S _ _ h (next_row hK h0 hr h1 q1 q2).1

/-- One sum alone: the others are taken out of it, from the lowest on. -/
def outF : Nat → SetV → Nat → Nat → SetV
  | 0, S, _, _ => S
  | k + 1, S, j, o => if o = 0 then S else outF k (setAt S j ((S j).1 ^^^ (S (low o)).1, xorL (S j).2 (S (low o)).2)) j (o ^^^ 2 ^ low o)
def aloneF (S : SetV) (j : Nat) : SetV := outF 33 S j ((S j).1 ^^^ 2 ^ j)
/-- From block k - 1 on down. -/
def downF : Nat → SetV → SetV
  | 0, S => S
  | k + 1, S => downF k (aloneF S k)
def joinF (S : SetV) (K : Nat) : List Nat := (List.range K).flatMap (fun j => (downF K S j).2)

end Go.Proofs.YtfbbidaoljfloaaDoor.Rx
