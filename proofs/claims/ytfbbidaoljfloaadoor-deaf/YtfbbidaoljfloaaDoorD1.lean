import Derived.Test.YtfbbidaoljfloaaDoorN1
namespace Go.Proofs.YtfbbidaoljfloaaDoor
open Go.RowKit

theorem half_xor (x y : Nat) : (x ^^^ y) / 2 = x / 2 ^^^ y / 2 := by
  apply Nat.eq_of_testBit_eq
  intro i
  rw [Nat.testBit_xor, Nat.testBit_div_two, Nat.testBit_div_two, Nat.testBit_div_two, Nat.testBit_xor]
theorem odd_xor (x y : Nat) : (x ^^^ y) % 2 = (x % 2 + y % 2) % 2 := by
  have e := Nat.testBit_xor x y 0
  simp only [Nat.testBit_zero] at e
  have h1 : (x ^^^ y) % 2 = 0 ∨ (x ^^^ y) % 2 = 1 := by omega
  have h2 : x % 2 = 0 ∨ x % 2 = 1 := by omega
  have h3 : y % 2 = 0 ∨ y % 2 = 1 := by omega
  rcases h1 with h1 | h1 <;> rcases h2 with h2 | h2 <;> rcases h3 with h3 | h3 <;> simp [h1, h2, h3] at e ⊢

theorem xor_pair (a b p : Nat) : (a ^^^ p) ^^^ (b ^^^ p) = a ^^^ b := by rw [xor_swap, Nat.xor_self, Nat.xor_zero]

/-- The division is linear. -/
theorem divB_xor (x y : Nat) : divB (x ^^^ y) = divB x ^^^ divB y := by
  have ho := odd_xor x y
  have hh := half_xor x y
  unfold divB
  rw [hh]
  have h2 : x % 2 = 0 ∨ x % 2 = 1 := by omega
  have h3 : y % 2 = 0 ∨ y % 2 = 1 := by omega
  rcases h2 with h2 | h2 <;> rcases h3 with h3 | h3
  · rw [if_pos (by rw [ho, h2, h3]), if_pos h2, if_pos h3]
  · rw [if_neg (by rw [ho, h2, h3]; decide), if_pos h2, if_neg (by omega), Nat.xor_assoc]
  · rw [if_neg (by rw [ho, h2, h3]; decide), if_neg (by omega), if_pos h3, Nat.xor_assoc, Nat.xor_assoc, Nat.xor_comm (y / 2)]
  · rw [if_pos (by rw [ho, h2, h3]), if_neg (by omega), if_neg (by omega), xor_pair]
theorem divN_xor (k : Nat) : ∀ x y, divN k (x ^^^ y) = divN k x ^^^ divN k y := by
  induction k with
  | zero => intro x y; rfl
  | succ k ih => intro x y; show divB (divN k (x ^^^ y)) = _; rw [ih, divB_xor]; rfl
theorem divN_zero (k : Nat) : divN k 0 = 0 := by
  induction k with
  | zero => rfl
  | succ k ih => show divB (divN k 0) = 0; rw [ih]; rfl
theorem divN_add (a b x : Nat) : divN (a + b) x = divN a (divN b x) := by
  induction a with
  | zero => rw [Nat.zero_add]; rfl
  | succ a ih => rw [show a + 1 + b = (a + b) + 1 by omega]; show divB (divN (a + b) x) = _; rw [ih]; rfl
theorem divN_shift (k y : Nat) : divN k (2 ^ k * y) = y := by
  induction k generalizing y with
  | zero => simp [divN]
  | succ k ih =>
    show divB (divN k (2 ^ (k + 1) * y)) = y
    rw [Nat.pow_succ, Nat.mul_assoc, ih]
    unfold divB
    rw [if_pos (by omega)]
    omega
theorem divB_nz {x : Nat} (h : x < 4294967296) (h0 : x ≠ 0) : divB x ≠ 0 := by
  unfold divB
  split
  · omega
  · intro e
    have : x / 2 = 3988292384 := by
      have h1 := congrArg (fun z => z ^^^ 3988292384) e
      simp only [Nat.xor_assoc, Nat.xor_self, Nat.xor_zero, Nat.zero_xor] at h1
      exact h1
    omega
theorem divN_nz (k : Nat) {x : Nat} (h : x < 4294967296) (h0 : x ≠ 0) : divN k x ≠ 0 := by
  induction k with
  | zero => exact h0
  | succ k ih => exact divB_nz (divN_lt k x h) ih

theorem add_xor8 (b v : Nat) (hb : b < 256) : b + 256 * v = b ^^^ 256 * v := by
  apply Nat.eq_of_testBit_eq
  intro i
  rw [Nat.testBit_xor, Nat.add_comm, show (256 : Nat) = 2 ^ 8 by decide, Nat.testBit_two_pow_mul_add _ (by omega), Nat.testBit_two_pow_mul]
  by_cases h : i < 8
  · rw [if_pos h]
    have : ¬ 8 ≤ i := by omega
    simp [this]
  · rw [if_neg h]
    have h8 : 8 ≤ i := by omega
    have : b.testBit i = false := Nat.testBit_lt_two_pow (Nat.lt_of_lt_of_le (show b < 2 ^ 8 by omega) (Nat.pow_le_pow_right (by decide) h8))
    simp [this, h8]

def regOf (r : Nat) (ns : List Nat) : Nat := ns.foldl (fun r b => divN 8 (r ^^^ b)) r
/-- All bits at once. -/
theorem regOf_all (ns : List Nat) : ∀ r, (∀ b ∈ ns, b < 256) → regOf r ns = divN (8 * ns.length) (r ^^^ leVal ns) := by
  induction ns with
  | nil => intro r _; simp [regOf, leVal, divN]
  | cons b l ih =>
    intro r h
    have hb := h b (by simp)
    show regOf (divN 8 (r ^^^ b)) l = _
    rw [ih _ (fun x hx => h x (by simp [hx])), List.length_cons, show 8 * (l.length + 1) = 8 * l.length + 8 by omega, divN_add]
    congr 1
    show divN 8 (r ^^^ b) ^^^ leVal l = divN 8 (r ^^^ (b + 256 * leVal l))
    rw [add_xor8 b _ hb, ← Nat.xor_assoc, divN_xor 8 (r ^^^ b), show (256 : Nat) = 2 ^ 8 by decide, divN_shift]

theorem regOf_append (r : Nat) (a b : List Nat) : regOf r (a ++ b) = regOf (regOf r a) b := List.foldl_append
theorem crcRest_reg (ns : List Nat) : crcRest ns = regOf 4294967295 ns := rfl

/-- A text that bears its check. -/
theorem reg_valid (body : List Nat) (h : ∀ b ∈ body, b < 256) : regOf 4294967295 (body ++ leBytes 4 (crc body)) = divN 32 4294967295 := by
  have hc := crcRest_lt body h
  rw [regOf_append, ← crcRest_reg, regOf_all _ _ (leBytes_lt _ _), leBytes_len, leVal_leBytes 4 _ (by unfold crc; exact xor_lt32 _ _ (by decide) hc)]
  unfold crc
  rw [Nat.xor_comm 4294967295, ← Nat.xor_assoc, Nat.xor_self, Nat.zero_xor]

/-- NO RUN OF 32 BITS GOES UNSEEN. -/
theorem run_seen {t t' : List Nat} {m k : Nat} (ht : ∀ b ∈ t, b < 256) (ht' : ∀ b ∈ t', b < 256) (hl : t'.length = t.length) (h1 : t.take m ++ leBytes 4 (crc (t.take m)) = t) (h2 : t'.take m ++ leBytes 4 (crc (t'.take m)) = t')
    {from_ w : Nat} (hx : leVal t' = leVal t ^^^ 2 ^ from_ * w) (hw : w < 4294967296) (hw0 : w ≠ 0) (hk : k = 8 * t.length) (hf : from_ ≤ k) : False := by
  have v1 := reg_valid (t.take m) (fun b hb => ht b (List.mem_of_mem_take hb))
  have v2 := reg_valid (t'.take m) (fun b hb => ht' b (List.mem_of_mem_take hb))
  rw [h1] at v1
  rw [h2] at v2
  rw [regOf_all _ _ ht] at v1
  rw [regOf_all _ _ ht', hl, hx, ← Nat.xor_assoc, divN_xor, v1] at v2
  have e : divN (8 * t.length) (2 ^ from_ * w) = 0 := by
    have := congrArg (fun z => divN 32 4294967295 ^^^ z) v2
    simp only [← Nat.xor_assoc, Nat.xor_self, Nat.zero_xor] at this
    exact this
  rw [← hk, show k = (k - from_) + from_ by omega, divN_add, divN_shift] at e
  exact divN_nz _ hw hw0 e

/-- One bit turned. -/
theorem leVal_flip : ∀ (l : List Nat) (j r : Nat), j < l.length → (∀ b ∈ l, b < 256) → r < 8 → leVal (l.set j (l.getD j 0 ^^^ 2 ^ r)) = leVal l ^^^ 2 ^ (8 * j + r)
  | [], j, r, hj, _, _ => by simp at hj
  | b :: l, 0, r, _, hb, hr => by
    have h0 := hb b (by simp)
    have hp : (2 : Nat) ^ r < 256 := Nat.lt_of_lt_of_le (Nat.pow_lt_pow_right (by decide) hr) (by decide)
    show (b ^^^ 2 ^ r) + 256 * leVal l = (b + 256 * leVal l) ^^^ 2 ^ (8 * 0 + r)
    rw [add_xor8 _ _ (xor_lt8 _ _ h0 hp), add_xor8 _ _ h0, show 8 * 0 + r = r by omega, Nat.xor_assoc, Nat.xor_assoc, Nat.xor_comm (2 ^ r)]
  | b :: l, j + 1, r, hj, hb, hr => by
    have h0 := hb b (by simp)
    have ih := leVal_flip l j r (by simpa using hj) (fun x hx => hb x (by simp [hx])) hr
    show b + 256 * leVal (l.set j (l.getD j 0 ^^^ 2 ^ r)) = (b + 256 * leVal l) ^^^ 2 ^ (8 * (j + 1) + r)
    rw [ih, add_xor8 _ _ h0, add_xor8 _ _ h0, Nat.xor_assoc]
    congr 1
    have e : (2 : Nat) ^ (8 * (j + 1) + r) = 2 ^ 8 * 2 ^ (8 * j + r) := by rw [← Nat.pow_add]; congr 1; omega
    rw [e, show (256 : Nat) = 2 ^ 8 by decide]
    generalize (2 : Nat) ^ (8 * j + r) = z
    apply Nat.eq_of_testBit_eq
    intro i
    rw [Nat.testBit_two_pow_mul, Nat.testBit_xor, Nat.testBit_xor, Nat.testBit_two_pow_mul, Nat.testBit_two_pow_mul]
    cases decide (i ≥ 8) <;> simp

end Go.Proofs.YtfbbidaoljfloaaDoor
