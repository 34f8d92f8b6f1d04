import Derived.Test.YtfbbidaoljfloaaDoorY12
namespace Go.Proofs.YtfbbidaoljfloaaDoor
open Go.RowKit

theorem sumText_lt (x1 x2 x3 : Nat) (ns : List Nat) (h : ∀ b ∈ ns, b < 256) : ∀ b ∈ sumText x1 x2 x3 ns, b < 256 := by
  intro b hb
  simp only [sumText, sumBody, List.mem_append, List.mem_singleton] at hb
  rcases hb with ((((q | q) | q) | q) | q) | q
  · omega
  · exact leBytes_lt _ _ b q
  · exact leBytes_lt _ _ b q
  · exact leBytes_lt _ _ b q
  · exact h b q
  · exact leBytes_lt _ _ b q

theorem sumBody_len (x1 x2 x3 : Nat) (ns : List Nat) : (sumBody x1 x2 x3 ns).length = ns.length + 9 := by simp [sumBody, leBytes_len]; omega

/-- What is written is read. -/
theorem readS_text {x1 x2 x3 : Nat} {ns : List Nat} (h1 : x1 < 65536) (h2 : x2 < 65536) (h3 : x3 < 4294967296) : readS (sumText x1 x2 x3 ns) ns.length = some (x1, x2, x3, ns) := by
  have hbl := sumBody_len x1 x2 x3 ns
  have ht : (sumText x1 x2 x3 ns).take (ns.length + 9) = sumBody x1 x2 x3 ns := by
    unfold sumText
    rw [← hbl]
    exact List.take_left
  have l1 := leVal_leBytes 2 x1 (by omega)
  have l2 := leVal_leBytes 2 x2 (by omega)
  have l3 := leVal_leBytes 4 x3 (by omega)
  have d1 : ((sumText x1 x2 x3 ns).drop 1).take 2 = leBytes 2 x1 := by
    simp [sumText, sumBody, leBytes]
  have d3 : ((sumText x1 x2 x3 ns).drop 3).take 2 = leBytes 2 x2 := by
    simp [sumText, sumBody, leBytes]
  have d5 : ((sumText x1 x2 x3 ns).drop 5).take 4 = leBytes 4 x3 := by
    simp [sumText, sumBody, leBytes]
  have d9 : ((sumText x1 x2 x3 ns).drop 9).take ns.length = ns := by
    have e : (sumText x1 x2 x3 ns).drop 9 = ns ++ leBytes 4 (crc (sumBody x1 x2 x3 ns)) := by
      simp [sumText, sumBody, leBytes]
    rw [e]
    exact List.take_left
  unfold readS
  rw [if_pos ⟨by rw [sumText_len], by simp [sumText, sumBody, List.getD], by rw [ht]; rfl⟩, d1, d3, d5, d9, l1, l2, l3]

/-- The sum of a row. -/
def sumRow (data : ByteArray) (blk row : Nat) : List Nat := sumUp data blk row data.size
theorem sumRow_len (data : ByteArray) (blk row : Nat) : (sumRow data blk row).length = blk := sumUp_len _ _ _ _
theorem sumRow_lt (data : ByteArray) (blk row : Nat) : ∀ b ∈ sumRow data blk row, b < 256 := sumUp_lt _ _ _ _

theorem xor_swap (a b c d : Nat) : (a ^^^ b) ^^^ (c ^^^ d) = (a ^^^ c) ^^^ (b ^^^ d) := by
  apply Nat.eq_of_testBit_eq
  intro i
  simp only [Nat.testBit_xor]
  cases a.testBit i <;> cases b.testBit i <;> cases c.testBit i <;> cases d.testBit i <;> rfl

theorem getD_xorL {a b : List Nat} (h : a.length = b.length) (k : Nat) : (Rx.xorL a b).getD k 0 = a.getD k 0 ^^^ b.getD k 0 := by
  unfold Rx.xorL
  by_cases hk : k < a.length
  · have hk2 : k < b.length := by omega
    have e : (List.zipWith (fun x1 x2 => x1 ^^^ x2) a b)[k]? = some (a[k] ^^^ b[k]) := by
      rw [List.getElem?_eq_getElem (by simp; omega), List.getElem_zipWith]
    show ((List.zipWith (fun x1 x2 => x1 ^^^ x2) a b)[k]?).getD 0 = _
    rw [e]
    simp [List.getD, hk, hk2]
  · have hk2 : ¬ k < b.length := by omega
    have e : (List.zipWith (fun x1 x2 => x1 ^^^ x2) a b)[k]? = none := List.getElem?_eq_none (by simp; omega)
    show ((List.zipWith (fun x1 x2 => x1 ^^^ x2) a b)[k]?).getD 0 = _
    rw [e]
    simp [List.getD, hk, hk2]

theorem list_getD_ext {a b : List Nat} (h : a.length = b.length) (hk : ∀ k, k < a.length → a.getD k 0 = b.getD k 0) : a = b := by
  apply List.ext_getElem h
  intro i h1 h2
  have := hk i h1
  simpa [List.getD, h1, h2] using this

theorem getD_set (l : List Nat) (i k v : Nat) (hi : i < l.length) : (l.set i v).getD k 0 = if k = i then v else l.getD k 0 := by
  by_cases h : k = i
  · subst h
    simp [List.getD, hi]
  · rw [if_neg h]
    have h' : ¬ i = k := fun e => h e.symm
    simp [List.getD, h']

/-- Of two rows laid over one another the sum is the sums laid over one another. -/
theorem sumUp_xor (data : ByteArray) (blk a b : Nat) (hb : 0 < blk) : ∀ i, sumUp data blk (a ^^^ b) i = Rx.xorL (sumUp data blk a i) (sumUp data blk b i) := by
  intro i
  induction i with
  | zero =>
    unfold sumUp
    apply list_getD_ext
    · simp [Rx.xorL]
    · intro k hk
      rw [getD_xorL (by simp)]
      have : k < blk := by simpa using hk
      simp [List.getD, this]
  | succ i ih =>
    have hm : i % blk < blk := Nat.mod_lt _ hb
    have la := sumUp_len data blk a i
    have lb := sumUp_len data blk b i
    have lab := sumUp_len data blk (a ^^^ b) i
    have La := sumUp_len data blk a (i + 1)
    have Lb := sumUp_len data blk b (i + 1)
    have Lab := sumUp_len data blk (a ^^^ b) (i + 1)
    apply list_getD_ext
    · rw [Rx.xorL_len (by omega)]; omega
    · intro k hk
      rw [getD_xorL (by omega)]
      unfold sumUp
      rw [Nat.testBit_xor]
      have e := ih
      cases ha : a.testBit (i / blk) <;> cases hbb : b.testBit (i / blk)
      · simp only [Bool.xor_self, Bool.false_eq_true, if_false]
        rw [ih, getD_xorL (by omega)]
      · simp only [Bool.xor_true, Bool.not_false, if_true, Bool.false_eq_true, if_false]
        rw [getD_set _ _ _ _ (by omega), getD_set _ _ _ _ (by omega), ih, getD_xorL (by omega), getD_xorL (by omega)]
        by_cases hki : k = i % blk
        · rw [if_pos hki, if_pos hki, hki, Nat.xor_assoc]
        · rw [if_neg hki, if_neg hki]
      · simp only [Bool.xor_false, if_true, Bool.false_eq_true, if_false]
        rw [getD_set _ _ _ _ (by omega), getD_set _ _ _ _ (by omega), ih, getD_xorL (by omega), getD_xorL (by omega)]
        by_cases hki : k = i % blk
        · rw [if_pos hki, if_pos hki, hki, Nat.xor_assoc, Nat.xor_assoc, Nat.xor_comm (byteAt data i)]
        · rw [if_neg hki, if_neg hki]
      · simp only [Bool.xor_self, Bool.false_eq_true, if_false, if_true]
        rw [getD_set _ _ _ _ (by omega), getD_set _ _ _ _ (by omega), ih, getD_xorL (by omega)]
        by_cases hki : k = i % blk
        · rw [if_pos hki, if_pos hki, hki, xor_swap, Nat.xor_self, Nat.xor_zero]
        · rw [if_neg hki, if_neg hki]

theorem sumRow_xor (data : ByteArray) (blk a b : Nat) (hb : 0 < blk) : sumRow data blk (a ^^^ b) = Rx.xorL (sumRow data blk a) (sumRow data blk b) := sumUp_xor data blk a b hb _

/-- A set of sums of this object. -/
def GoodSet (data : ByteArray) (blk : Nat) (S : Rx.SetV) : Prop := ∀ j, (S j).1 ≠ 0 → (S j).2 = sumRow data blk (S j).1

theorem addF_good {data : ByteArray} {blk : Nat} (hb : 0 < blk) (k : Nat) : ∀ (S : Rx.SetV) (r : Nat), GoodSet data blk S → GoodSet data blk (Rx.addF k S r (sumRow data blk r)).1 := by
  induction k with
  | zero => intro S r h; exact h
  | succ k ih =>
    intro S r h
    unfold Rx.addF
    by_cases h0 : r = 0
    · rw [if_pos h0]; exact h
    · rw [if_neg h0]
      by_cases h1 : (S (Rx.low r)).1 = 0
      · rw [if_pos h1]
        intro j hj
        show (Rx.setAt S (Rx.low r) (r, sumRow data blk r) j).2 = sumRow data blk (Rx.setAt S (Rx.low r) (r, sumRow data blk r) j).1
        have hj' : (Rx.setAt S (Rx.low r) (r, sumRow data blk r) j).1 ≠ 0 := hj
        by_cases hjl : j = Rx.low r
        · rw [hjl, Rx.setAt_same]
        · rw [Rx.setAt_other _ _ hjl] at hj' ⊢
          exact h j hj'
      · rw [if_neg h1, h _ h1, ← sumRow_xor data blk _ _ hb]
        exact ih S _ h

/-- A row that comes to nothing. -/
def redF : Nat → Rx.SetV → Nat → Bool
  | 0, _, _ => false
  | k + 1, S, r => if r = 0 then true else if (S (Rx.low r)).1 = 0 then false else redF k S (r ^^^ (S (Rx.low r)).1)

theorem redF_set {j : Nat} {p : Nat × List Nat} (k : Nat) : ∀ (S : Rx.SetV) (r : Nat), (S j).1 = 0 → redF k S r = true → redF k (Rx.setAt S j p) r = true := by
  induction k with
  | zero => intro S r _ h; cases h
  | succ k ih =>
    intro S r hj h
    unfold redF at h ⊢
    by_cases h0 : r = 0
    · rw [if_pos h0]
    · rw [if_neg h0] at h ⊢
      by_cases h1 : (S (Rx.low r)).1 = 0
      · rw [if_pos h1] at h; cases h
      · rw [if_neg h1] at h
        have hne : Rx.low r ≠ j := fun e => h1 (by rw [e]; exact hj)
        rw [Rx.setAt_other _ _ hne, if_neg h1]
        exact ih S _ hj h

theorem redF_more (k : Nat) : ∀ (S : Rx.SetV) (r : Nat), redF k S r = true → redF (k + 1) S r = true := by
  induction k with
  | zero => intro S r h; cases h
  | succ k ih =>
    intro S r h
    rw [redF] at h ⊢
    by_cases h0 : r = 0
    · rw [if_pos h0]
    · rw [if_neg h0] at h ⊢
      by_cases h1 : (S (Rx.low r)).1 = 0
      · rw [if_pos h1] at h; cases h
      · rw [if_neg h1] at h ⊢
        exact ih S _ h

theorem addF_keeps (k : Nat) : ∀ (S : Rx.SetV) (r : Nat) (b : List Nat) {j : Nat}, (S j).1 ≠ 0 → (Rx.addF k S r b).1 j = S j := by
  induction k with
  | zero => intro S r b j _; rfl
  | succ k ih =>
    intro S r b j hj
    unfold Rx.addF
    by_cases h0 : r = 0
    · rw [if_pos h0]
    · rw [if_neg h0]
      by_cases h1 : (S (Rx.low r)).1 = 0
      · rw [if_pos h1]
        exact Rx.setAt_other _ _ (fun e => hj (by rw [e]; exact h1))
      · rw [if_neg h1]
        exact ih S _ _ hj

/-- A row that was taken in comes to nothing. -/
theorem redF_added {blk K : Nat} (hK : K ≤ 32) (k : Nat) : ∀ (S : Rx.SetV) (r : Nat) (b : List Nat), Rx.SetOk blk K S → r < 2 ^ K → (r = 0 ∨ 33 ≤ k + Rx.low r) → 1 ≤ k → redF (k + 1) (Rx.addF k S r b).1 r = true := by
  induction k with
  | zero => intro S r b _ _ _ h; omega
  | succ k ih =>
    intro S r b h hr hf _
    unfold Rx.addF
    by_cases h0 : r = 0
    · rw [redF, if_pos h0]
    · rw [if_neg h0]
      by_cases h1 : (S (Rx.low r)).1 = 0
      · rw [if_pos h1, redF, if_neg h0]
        show (if (Rx.setAt S (Rx.low r) (r, b) (Rx.low r)).1 = 0 then false else redF (k + 1) (Rx.setAt S (Rx.low r) (r, b)) (r ^^^ (Rx.setAt S (Rx.low r) (r, b) (Rx.low r)).1)) = true
        rw [Rx.setAt_same, if_neg h0, Nat.xor_self]
        simp [redF]
      · rw [if_neg h1]
        obtain ⟨q1, q2, q3, q4⟩ := h.row _ h1
        obtain ⟨n1, n2⟩ := Rx.next_row hK h0 hr h1 q1 q2
        have hlow := Rx.low_ltK hK h0 hr
        have hrec := ih S (r ^^^ (S (Rx.low r)).1) (Rx.xorL b (S (Rx.low r)).2) h n1 (by
          rcases n2 with q | q
          · exact .inl q
          · exact .inr (by omega)) (by omega)
        rw [redF, if_neg h0]
        have hkeep : ((Rx.addF k S (r ^^^ (S (Rx.low r)).1) (Rx.xorL b (S (Rx.low r)).2)).1 (Rx.low r)) = S (Rx.low r) := addF_keeps k S _ _ h1
        rw [hkeep, if_neg h1]
        exact hrec

/-- The blocks, alone. -/
theorem outF_good {data : ByteArray} {blk : Nat} (hb : 0 < blk) (k : Nat) : ∀ (S : Rx.SetV) (j o : Nat), GoodSet data blk S → (S j).2 = sumRow data blk (S j).1 → (∀ t, o.testBit t = true → (S t).1 ≠ 0 ∧ t ≠ j) → o < 4294967296 → GoodSet data blk (Rx.outF k S j o) ∧ (∀ t, t ≠ j → Rx.outF k S j o t = S t) ∧ (Rx.outF k S j o j).2 = sumRow data blk (Rx.outF k S j o j).1 := by
  induction k with
  | zero => intro S j o h hj _ _; exact ⟨h, fun _ _ => rfl, hj⟩
  | succ k ih =>
    intro S j o h hj hbits ho
    unfold Rx.outF
    by_cases h0 : o = 0
    · rw [if_pos h0]; exact ⟨h, fun _ _ => rfl, hj⟩
    · rw [if_neg h0]
      obtain ⟨q1, q2⟩ := hbits _ (Rx.low_bit h0 ho)
      have hnew : (Rx.setAt S j ((S j).1 ^^^ (S (Rx.low o)).1, Rx.xorL (S j).2 (S (Rx.low o)).2) j).2 = sumRow data blk (Rx.setAt S j ((S j).1 ^^^ (S (Rx.low o)).1, Rx.xorL (S j).2 (S (Rx.low o)).2) j).1 := by
        rw [Rx.setAt_same]
        show Rx.xorL (S j).2 (S (Rx.low o)).2 = sumRow data blk ((S j).1 ^^^ (S (Rx.low o)).1)
        rw [sumRow_xor data blk _ _ hb, hj, h _ q1]
      have hg : GoodSet data blk (Rx.setAt S j ((S j).1 ^^^ (S (Rx.low o)).1, Rx.xorL (S j).2 (S (Rx.low o)).2)) := fun t ht => by
        by_cases htj : t = j
        · rw [htj]; exact hnew
        · rw [Rx.setAt_other _ _ htj] at ht ⊢; exact h t ht
      obtain ⟨r1, r2, r3⟩ := ih _ j (o ^^^ 2 ^ Rx.low o) hg hnew (fun t ht => by
        rw [clear_bits h0 ho] at ht
        simp at ht
        obtain ⟨p1, p2⟩ := hbits t ht.1
        exact ⟨by rw [Rx.setAt_other _ _ p2]; exact p1, p2⟩) (Nat.lt_trans (clear_lt h0 ho) ho)
      exact ⟨r1, fun t ht => by rw [r2 t ht, Rx.setAt_other _ _ ht], r3⟩

/-- The row that is left: the lowest block alone. -/
theorem outF_row (k : Nat) : ∀ (S : Rx.SetV) (j o : Nat), (∀ t, o.testBit t = true → (S t).1 = 2 ^ t ∧ t ≠ j) → o < 4294967296 → (o = 0 ∨ 33 ≤ k + Rx.low o) → (Rx.outF k S j o j).1 = (S j).1 ^^^ o := by
  induction k with
  | zero =>
    intro S j o _ ho hf
    have : o = 0 := by
      rcases hf with q | q
      · exact q
      · apply Classical.byContradiction
        intro h0
        have := Rx.low_lt h0 ho
        omega
    rw [this]
    simp [Rx.outF]
  | succ k ih =>
    intro S j o hbits ho hf
    unfold Rx.outF
    by_cases h0 : o = 0
    · rw [if_pos h0, h0]; simp
    · rw [if_neg h0]
      obtain ⟨q1, q2⟩ := hbits _ (Rx.low_bit h0 ho)
      rw [ih _ j (o ^^^ 2 ^ Rx.low o) (fun t ht => by
        rw [clear_bits h0 ho] at ht
        simp at ht
        obtain ⟨p1, p2⟩ := hbits t ht.1
        exact ⟨by rw [Rx.setAt_other _ _ p2]; exact p1, p2⟩) (Nat.lt_trans (clear_lt h0 ho) ho) (by
        rcases clear_low h0 ho with q | q
        · exact .inl q
        · right; omega), Rx.setAt_same]
      show ((S j).1 ^^^ (S (Rx.low o)).1) ^^^ (o ^^^ 2 ^ Rx.low o) = (S j).1 ^^^ o
      rw [q1, xor_swap, Nat.xor_comm (2 ^ Rx.low o) (2 ^ Rx.low o), Nat.xor_self, Nat.xor_zero]

/-- From block m on each stands alone. -/
structure Alone (data : ByteArray) (blk K m : Nat) (S : Rx.SetV) : Prop where
  ok : Rx.SetOk blk K S
  nz : ∀ t, t < K → (S t).1 ≠ 0
  good : GoodSet data blk S
  one : ∀ t, m ≤ t → t < K → (S t).1 = 2 ^ t

theorem alone_step {data : ByteArray} {blk K m : Nat} {S : Rx.SetV} (hb : 0 < blk) (hK : K ≤ 32) (hm : m < K) (h : Alone data blk K (m + 1) S) : Alone data blk K m (Rx.aloneF S m) := by
  have hnm := h.nz m hm
  obtain ⟨a1, a2, a3, a4⟩ := h.ok.row m hnm
  have h32 := Rx.lt32 hK a1
  have hbm : (S m).1.testBit m = true := by have := Rx.low_bit hnm h32; rwa [a2] at this
  have hp : 2 ^ m < 4294967296 := Nat.lt_of_lt_of_le (Nat.pow_lt_pow_right (by decide) (show m < 32 by omega)) (by decide)
  have hxl : (S m).1 ^^^ 2 ^ m < 4294967296 := Rx.xor_lt32' h32 hp
  have hbits : ∀ t, ((S m).1 ^^^ 2 ^ m).testBit t = true → m < t ∧ t < K := fun t ht => by
    rw [Nat.testBit_xor, Nat.testBit_two_pow] at ht
    have htK : t < K := by
      apply Classical.byContradiction
      intro hn
      have e1 : (S m).1.testBit t = false := Nat.testBit_lt_two_pow (Nat.lt_of_lt_of_le a1 (Nat.pow_le_pow_right (by decide) (by omega)))
      have e2 : ¬ m = t := by omega
      simp [e1, e2] at ht
    refine ⟨?_, htK⟩
    rcases Nat.lt_trichotomy m t with q | q | q
    · exact q
    · subst q; simp [hbm] at ht
    · have e1 : (S m).1.testBit t = false := Rx.low_below hnm h32 (by omega)
      have e2 : ¬ m = t := by omega
      simp [e1, e2] at ht
  have hf : (S m).1 ^^^ 2 ^ m = 0 ∨ 33 ≤ 33 + Rx.low ((S m).1 ^^^ 2 ^ m) := .inr (by omega)
  obtain ⟨r1, r2, r3⟩ := outF_good (data := data) hb 33 S m ((S m).1 ^^^ 2 ^ m) h.good (h.good m hnm) (fun t ht => ⟨h.nz t (hbits t ht).2, by have := (hbits t ht).1; omega⟩) hxl
  have r4 := outF_row 33 S m ((S m).1 ^^^ 2 ^ m) (fun t ht => ⟨h.one t (by have := (hbits t ht).1; omega) (hbits t ht).2, by have := (hbits t ht).1; omega⟩) hxl hf
  rw [← Nat.xor_assoc, Nat.xor_self, Nat.zero_xor] at r4
  have hpm : (2 : Nat) ^ m ≠ 0 := by have := Nat.two_pow_pos m; omega
  refine ⟨⟨fun t ht => ?_⟩, fun t ht => ?_, r1, fun t h1 h2 => ?_⟩
  · by_cases htm : t = m
    · subst htm
      show (Rx.outF 33 S t ((S t).1 ^^^ 2 ^ t) t).1 < 2 ^ K ∧ Rx.low (Rx.outF 33 S t ((S t).1 ^^^ 2 ^ t) t).1 = t ∧ (Rx.outF 33 S t ((S t).1 ^^^ 2 ^ t) t).2.length = blk ∧ ∀ x ∈ (Rx.outF 33 S t ((S t).1 ^^^ 2 ^ t) t).2, x < 256
      rw [r3, r4]
      refine ⟨Nat.pow_lt_pow_right (by decide) hm, Rx.low_unique hp (by simp) (fun i hi => ?_), sumRow_len _ _ _, sumRow_lt _ _ _⟩
      rw [Nat.testBit_two_pow]
      simp
      omega
    · have e : Rx.aloneF S m t = S t := r2 t htm
      rw [e] at ht ⊢
      exact h.ok.row t ht
  · by_cases htm : t = m
    · subst htm
      show (Rx.outF 33 S t ((S t).1 ^^^ 2 ^ t) t).1 ≠ 0
      rw [r4]; exact hpm
    · have e : Rx.aloneF S m t = S t := r2 t htm
      rw [e]; exact h.nz t ht
  · by_cases htm : t = m
    · subst htm; exact r4
    · have e : Rx.aloneF S m t = S t := r2 t htm
      rw [e]; exact h.one t (by omega) h2

theorem alone_down {data : ByteArray} {blk K : Nat} (hb : 0 < blk) (hK : K ≤ 32) (m : Nat) : ∀ (S : Rx.SetV), m ≤ K → Alone data blk K m S → Alone data blk K 0 (Rx.downF m S) := by
  induction m with
  | zero => intro S _ h; exact h
  | succ m ih =>
    intro S hm h
    exact ih _ (by omega) (alone_step hb hK (by omega) h)

theorem flatMap_same {f g : Nat → List Nat} (K : Nat) (h : ∀ j, j < K → f j = g j) : (List.range K).flatMap f = (List.range K).flatMap g := by
  induction K with
  | zero => rfl
  | succ K ih =>
    rw [List.range_succ, List.flatMap_append, List.flatMap_append, ih (fun j hj => h j (by omega))]
    simp [h K (by omega)]

theorem joinF_blocks {data : ByteArray} {blk K : Nat} {S : Rx.SetV} (hb : 0 < blk) (hK : K ≤ 32) (hok : Rx.SetOk blk K S) (hnz : ∀ t, t < K → (S t).1 ≠ 0) (hg : GoodSet data blk S) : Rx.joinF S K = (List.range K).flatMap (fun j => sumRow data blk (2 ^ j)) := by
  have ha := alone_down (data := data) hb hK K S (Nat.le_refl _) ⟨hok, hnz, hg, fun t h1 h2 => by omega⟩
  unfold Rx.joinF
  apply flatMap_same
  intro j hjK
  rw [ha.good j (ha.nz j hjK), ha.one j (Nat.zero_le _) hjK]

/-- Block j, alone. -/
theorem sumUp_one (data : ByteArray) (blk j : Nat) (hb : 0 < blk) : ∀ (i k : Nat), k < blk → (sumUp data blk (2 ^ j) i).getD k 0 = if j * blk + k < i then byteAt data (j * blk + k) else 0 := by
  intro i
  induction i with
  | zero =>
    intro k hk
    rw [if_neg (by omega)]
    simp [sumUp, List.getD, hk]
  | succ i ih =>
    intro k hk
    have hm : i % blk < blk := Nat.mod_lt _ hb
    have hdm := Nat.div_add_mod i blk
    unfold sumUp
    rw [Nat.testBit_two_pow]
    by_cases hj : j = i / blk
    · rw [if_pos (by simpa using hj), getD_set _ _ _ _ (by rw [sumUp_len]; exact hm)]
      have e : j * blk + i % blk = i := by rw [hj, Nat.mul_comm]; exact hdm
      by_cases hk2 : k = i % blk
      · rw [if_pos hk2, ih _ hm, hk2, e, if_neg (by omega), if_pos (by omega), Nat.zero_xor]
      · rw [if_neg hk2, ih k hk]
        by_cases hlt : j * blk + k < i
        · rw [if_pos hlt, if_pos (by omega)]
        · rw [if_neg hlt, if_neg (by omega)]
    · rw [if_neg (by simpa using hj), ih k hk]
      have hne : j * blk + k ≠ i := fun e => hj (by
        rw [← e, Nat.mul_comm, Nat.mul_add_div hb, Nat.div_eq_of_lt hk]
        omega)
      by_cases hlt : j * blk + k < i
      · rw [if_pos hlt, if_pos (by omega)]
      · rw [if_neg hlt, if_neg (by omega)]

theorem byteAt_none {data : ByteArray} {i : Nat} (h : ¬ i < data.size) : byteAt data i = 0 := by unfold byteAt; rw [dif_neg h]
theorem sumRow_one (data : ByteArray) (blk j k : Nat) (hb : 0 < blk) (hk : k < blk) : (sumRow data blk (2 ^ j)).getD k 0 = byteAt data (j * blk + k) := by
  unfold sumRow
  rw [sumUp_one data blk j hb _ k hk]
  by_cases h : j * blk + k < data.size
  · rw [if_pos h]
  · rw [if_neg h, byteAt_none h]

theorem blocks_len (data : ByteArray) (blk K : Nat) : ((List.range K).flatMap (fun j => sumRow data blk (2 ^ j))).length = K * blk := by
  induction K with
  | zero => simp
  | succ K ih => rw [List.range_succ, List.flatMap_append, List.length_append, ih]; simp [sumRow_len, Nat.succ_mul]
theorem blocks_at (data : ByteArray) (blk K : Nat) (hb : 0 < blk) : ∀ i, i < K * blk → ((List.range K).flatMap (fun j => sumRow data blk (2 ^ j))).getD i 0 = byteAt data i := by
  induction K with
  | zero => intro i hi; omega
  | succ K ih =>
    intro i hi
    rw [List.range_succ, List.flatMap_append]
    have hl := blocks_len data blk K
    simp only [List.getD]
    by_cases h : i < K * blk
    · rw [List.getElem?_append_left (by omega)]
      exact ih i h
    · rw [List.getElem?_append_right (by omega), hl]
      have e := sumRow_one data blk K (i - K * blk) hb (by rw [Nat.succ_mul] at hi; omega)
      rw [show K * blk + (i - K * blk) = i by omega] at e
      simpa [List.getD] using e

theorem bytesOf_at (data : ByteArray) (i : Nat) : (bytesOf data).getD i 0 = byteAt data i := by
  unfold bytesOf byteAt
  by_cases h : i < data.size
  · have h' : i < data.data.toList.length := by simpa using h
    rw [dif_pos h]
    simp only [List.getD, List.getElem?_map, List.getElem?_eq_getElem h', Option.map_some, Option.getD_some]
    rfl
  · have h' : ¬ i < data.data.toList.length := by simpa using h
    rw [dif_neg h]
    simp only [List.getD, List.getElem?_map]
    rw [List.getElem?_eq_none (by omega)]
    rfl

theorem strOf_bytesOf (data : ByteArray) : strOf (bytesOf data) = data := bytesOf_inj (bytesOf_strOf _ (bytesOf_lt data))

/-- THE OBJECT COMES OUT. -/
theorem joinF_data {data : ByteArray} {blk K : Nat} {S : Rx.SetV} (hb : 0 < blk) (hK : K ≤ 32) (hc : data.size ≤ K * blk) (hok : Rx.SetOk blk K S) (hnz : ∀ t, t < K → (S t).1 ≠ 0) (hg : GoodSet data blk S) : strOf ((Rx.joinF S K).take data.size) = data := by
  have e : (Rx.joinF S K).take data.size = bytesOf data := by
    rw [joinF_blocks hb hK hok hnz hg]
    have hl := blocks_len data blk K
    apply list_getD_ext
    · rw [List.length_take, hl, bytesOf_len]; omega
    · intro k hk
      have hk2 : k < data.size := by
        rw [List.length_take] at hk
        omega
      rw [bytesOf_at, ← blocks_at data blk K hb k (by omega)]
      simp only [List.getD]
      rw [List.getElem?_take_of_lt hk2]
  rw [e, strOf_bytesOf]

end Go.Proofs.YtfbbidaoljfloaaDoor
