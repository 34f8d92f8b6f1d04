
/- Plain numbers: seeds, free blocks, rows. Nothing of the program. -/
namespace Go.Proofs.YtfbbidaoljfloaaDoor
namespace Dz

/-- The seed behind one number. -/
def lcg (s : Int) : Int := (s * 6364136223846793005 + 1442695040888963407) % 18446744073709551616
/-- The number that a seed shows. -/
def num (s : Int) : Nat := (s / 4294967296).toNat

theorem lcg_lo (s : Int) : 0 ≤ lcg s := by unfold lcg; omega
theorem lcg_hi (s : Int) : lcg s < 18446744073709551616 := by unfold lcg; omega
theorem num_cast (s : Int) (h : 0 ≤ s) : (num s : Int) = s / 4294967296 := by unfold num; omega
theorem num_lt (s : Int) (h : s < 18446744073709551616) : num s < 4294967296 := by unfold num; omega

theorem lcg_wrap (s : Int) : (s * 6364136223846793005 % 18446744073709551616 + 1442695040888963407) % 18446744073709551616 = lcg s := by
  unfold lcg; omega

theorem halves (p q r u : Int) :
    (p % 18446744073709551616 + ((q % 18446744073709551616 % 4294967296 + r % 18446744073709551616 % 4294967296) % 18446744073709551616 % 4294967296 * 4294967296) % 18446744073709551616) % 18446744073709551616
      = (p + 4294967296 * (q + r) + 18446744073709551616 * u) % 18446744073709551616 := by omega

theorem times_eq (a b : Int) :
    ((a % 4294967296 * (b % 4294967296)) % 18446744073709551616 + (((a % 4294967296 * (b / 4294967296)) % 18446744073709551616 % 4294967296 + (a / 4294967296 * (b % 4294967296)) % 18446744073709551616 % 4294967296) % 18446744073709551616 % 4294967296 * 4294967296) % 18446744073709551616) % 18446744073709551616
      = a * b % 18446744073709551616 := by
  rw [halves _ _ _ (a / 4294967296 * (b / 4294967296))]
  have ha : a = a % 4294967296 + 4294967296 * (a / 4294967296) := by omega
  have hb : b = b % 4294967296 + 4294967296 * (b / 4294967296) := by omega
  generalize a % 4294967296 = al at *
  generalize a / 4294967296 = ah at *
  generalize b % 4294967296 = bl at *
  generalize b / 4294967296 = bh at *
  subst ha hb
  congr 1
  simp only [Int.add_mul, Int.mul_add]
  have e1 : al * (4294967296 * bh) = 4294967296 * (al * bh) := by rw [Int.mul_left_comm]
  have e2 : 4294967296 * ah * bl = 4294967296 * (ah * bl) := by rw [Int.mul_assoc]
  have e3 : 4294967296 * ah * (4294967296 * bh) = 18446744073709551616 * (ah * bh) := by
    rw [Int.mul_assoc, Int.mul_left_comm ah, ← Int.mul_assoc]; rfl
  rw [e1, e2, e3]
  omega

/-- The first block from s on, round behind the last one, of which p says no: at most f are looked at. -/
def fb (p : Nat → Bool) (K : Nat) : Nat → Nat → Nat
  | 0, s => s
  | f + 1, s => if p s then fb p K f ((s + 1) % K) else s

/-- j is that first block. -/
def IsFree (p : Nat → Bool) (K s j : Nat) : Prop := ∃ t, t < K ∧ j = (s + t) % K ∧ p j = false ∧ ∀ u, u < t → p ((s + u) % K) = true

theorem isFree_one {p : Nat → Bool} {K s j j' : Nat} (h : IsFree p K s j) (h' : IsFree p K s j') : j = j' := by
  obtain ⟨t, _, rfl, hp, hu⟩ := h
  obtain ⟨t', _, rfl, hp', hu'⟩ := h'
  rcases Nat.lt_trichotomy t t' with h | h | h
  · have := hu' t h; rw [hp] at this; cases this
  · rw [h]
  · have := hu t' h; rw [hp'] at this; cases this

theorem isFree_lt {p : Nat → Bool} {K s j : Nat} (hK : 1 ≤ K) (h : IsFree p K s j) : j < K := by
  obtain ⟨t, _, rfl, _, _⟩ := h
  exact Nat.mod_lt _ (by omega)

theorem fb_from (p : Nat → Bool) (K : Nat) : ∀ f s, s < K → (∃ t, t < f ∧ p ((s + t) % K) = false) →
    ∃ t, t < f ∧ fb p K f s = (s + t) % K ∧ p (fb p K f s) = false ∧ ∀ u, u < t → p ((s + u) % K) = true := by
  intro f
  induction f with
  | zero => intro s _ ⟨t, ht, _⟩; omega
  | succ f ih =>
    intro s hs ⟨t, ht, hp⟩
    have hs0 : (s + 0) % K = s := Nat.mod_eq_of_lt hs
    by_cases h : p s = true
    · have ht0 : t ≠ 0 := by intro e; subst e; rw [hs0] at hp; rw [hp] at h; cases h
      have hstep : ∀ u, ((s + 1) % K + u) % K = (s + (u + 1)) % K := by
        intro u
        rw [Nat.mod_add_mod]; congr 1; omega
      obtain ⟨t', ht', e1, e2, e3⟩ := ih ((s + 1) % K) (Nat.mod_lt _ (by omega)) ⟨t - 1, by omega, by rw [hstep, show t - 1 + 1 = t by omega]; exact hp⟩
      have efb : fb p K (f + 1) s = fb p K f ((s + 1) % K) := by simp [fb, h]
      rw [efb]
      refine ⟨t' + 1, by omega, by rw [e1, hstep], e2, ?_⟩
      intro u hu
      match u with
      | 0 => rw [hs0]; exact h
      | u + 1 => rw [← hstep]; exact e3 u (by omega)
    · have h' : p s = false := by simpa using h
      have efb : fb p K (f + 1) s = s := by simp [fb, h']
      rw [efb]
      exact ⟨0, by omega, by rw [hs0], h', by intro u hu; omega⟩

theorem fb_free (p : Nat → Bool) (K s : Nat) (hs : s < K) (h : ∃ j, j < K ∧ p j = false) : IsFree p K s (fb p K K s) := by
  obtain ⟨j, hj, hp⟩ := h
  have e : (s + (j + K - s) % K) % K = j := by
    rw [Nat.add_mod_mod, show s + (j + K - s) = j + K by omega, Nat.add_mod_right, Nat.mod_eq_of_lt hj]
  exact fb_from p K K s hs ⟨(j + K - s) % K, Nat.mod_lt _ (by omega), by rw [e]; exact hp⟩

theorem dist_eq (K st t u : Nat) (ht : t < K) (hu : u ≤ t) : ((st + t) % K + K - (st + u) % K) % K = t - u := by
  have hK : 0 < K := by omega
  have e : (st + t) % K = ((st + u) % K + (t - u)) % K := by
    rw [Nat.mod_add_mod]; congr 1; omega
  have hv : (st + u) % K < K := Nat.mod_lt _ hK
  rw [e]
  generalize (st + u) % K = v at *
  by_cases h : v + (t - u) < K
  · rw [Nat.mod_eq_of_lt h, show v + (t - u) + K - v = (t - u) + K by omega, Nat.add_mod_right, Nat.mod_eq_of_lt (by omega)]
  · rw [Nat.mod_eq_sub_mod (a := v + (t - u)) (by omega), Nat.mod_eq_of_lt (a := v + (t - u) - K) (by omega), show v + (t - u) - K + K - v = t - u by omega, Nat.mod_eq_of_lt (by omega)]

/-- The seed behind i numbers. -/
def seedAt (s : Int) : Nat → Int
  | 0 => s
  | i + 1 => lcg (seedAt s i)

/-- The row behind i draws. -/
def rowAt (K : Nat) (s : Int) : Nat → Nat
  | 0 => 0
  | i + 1 => rowAt K s i ||| 2 ^ fb (rowAt K s i).testBit K K (num (seedAt s (i + 1)) % K)

theorem seedAt_lo (s : Int) (h : 0 ≤ s) : ∀ i, 0 ≤ seedAt s i
  | 0 => h
  | _ + 1 => lcg_lo _
theorem seedAt_hi (s : Int) (h : s < 18446744073709551616) : ∀ i, seedAt s i < 18446744073709551616
  | 0 => h
  | _ + 1 => lcg_hi _

/-- How many of the first k blocks are in a row. -/
def cnt (row : Nat) : Nat → Nat
  | 0 => 0
  | k + 1 => cnt row k + if row.testBit k then 1 else 0

theorem cnt_zero : ∀ k, cnt 0 k = 0
  | 0 => rfl
  | k + 1 => by simp [cnt, cnt_zero k]
theorem cnt_full (row : Nat) : ∀ k, (∀ j, j < k → row.testBit j = true) → cnt row k = k
  | 0, _ => rfl
  | k + 1, h => by rw [cnt, cnt_full row k (fun j hj => h j (by omega)), h k (by omega)]; rfl
theorem bit_or (row j i : Nat) : (row ||| 2 ^ j).testBit i = (row.testBit i || decide (j = i)) := by
  rw [Nat.testBit_or, Nat.testBit_two_pow]
theorem cnt_past (row j : Nat) : ∀ k, k ≤ j → cnt (row ||| 2 ^ j) k = cnt row k
  | 0, _ => rfl
  | k + 1, h => by rw [cnt, cnt, cnt_past row j k (by omega), bit_or]; simp [show j ≠ k by omega]
theorem cnt_or (row j : Nat) (hb : row.testBit j = false) : ∀ k, j < k → cnt (row ||| 2 ^ j) k = cnt row k + 1
  | 0, h => by omega
  | k + 1, h => by
    rw [cnt, cnt, bit_or]
    by_cases e : j = k
    · subst e; rw [cnt_past row j j (Nat.le_refl _), hb]; simp
    · rw [cnt_or row j hb k (by omega)]; simp [e]; omega
theorem free_of_cnt (row K : Nat) (h : cnt row K < K) : ∃ j, j < K ∧ row.testBit j = false := by
  refine Classical.byContradiction fun hn => ?_
  have : cnt row K = K := cnt_full row K fun j hj => by
    cases e : row.testBit j with
    | true => rfl
    | false => exact absurd ⟨j, hj, e⟩ hn
  omega

theorem rowAt_cnt (K : Nat) (s : Int) (hK : 1 ≤ K) : ∀ i, i ≤ K → cnt (rowAt K s i) K = i
  | 0, _ => cnt_zero K
  | i + 1, h => by
    have ih := rowAt_cnt K s hK i (by omega)
    have hf := fb_free (rowAt K s i).testBit K (num (seedAt s (i + 1)) % K) (Nat.mod_lt _ (by omega)) (free_of_cnt _ K (by omega))
    have hlt := isFree_lt hK hf
    obtain ⟨t, _, e, hp, _⟩ := hf
    show cnt (rowAt K s i ||| _) K = i + 1
    rw [cnt_or _ _ hp K hlt, ih]

theorem rowAt_free (K : Nat) (s : Int) (hK : 1 ≤ K) (i : Nat) (h : i < K) :
    IsFree (rowAt K s i).testBit K (num (seedAt s (i + 1)) % K) (fb (rowAt K s i).testBit K K (num (seedAt s (i + 1)) % K)) :=
  fb_free _ K _ (Nat.mod_lt _ (by omega)) (free_of_cnt _ K (by rw [rowAt_cnt K s hK i (by omega)]; exact h))

theorem rowAt_lt (K : Nat) (s : Int) (hK : 1 ≤ K) : ∀ i, i ≤ K → rowAt K s i < 2 ^ K
  | 0, _ => Nat.two_pow_pos K
  | i + 1, h => by
    have hlt := isFree_lt hK (rowAt_free K s hK i (by omega))
    exact Nat.or_lt_two_pow (rowAt_lt K s hK i (by omega)) (Nat.pow_lt_pow_right (by decide) hlt)

theorem pow_K (K : Nat) (h : K ≤ 32) : 2 ^ K ≤ 4294967296 := by
  have := Nat.pow_le_pow_right (n := 2) (by decide) h
  simpa using this

/-- How many blocks a row has. -/
def many (K r : Nat) : Nat := (K + r - 1) / r
theorem many_le (K r : Nat) (hK : 1 ≤ K) (hr : 1 ≤ r) : many K r ≤ K := by
  unfold many
  have : (K + r - 1) / r < K + 1 := by
    rw [Nat.div_lt_iff_lt_mul (by omega)]
    have := Nat.le_mul_of_pos_right K (show 0 < r by omega)
    rw [Nat.add_mul]; omega
  omega
theorem many_more (K r d : Nat) (hr : 1 ≤ r) (h : d * r < K) : d + 1 ≤ many K r := by
  unfold many
  rw [Nat.le_div_iff_mul_le (by omega), Nat.add_mul]; omega
theorem many_end (K r d : Nat) (hr : 1 ≤ r) (h : K ≤ d * r) (hd : d ≤ many K r) : d = many K r := by
  have : many K r < d + 1 := by
    unfold many
    rw [Nat.div_lt_iff_lt_mul (by omega), Nat.add_mul]; omega
  omega

theorem testBit_div (row i : Nat) : row / 2 ^ i = 2 * (row / 2 ^ (i + 1)) + (if row.testBit i then 1 else 0) := by
  have e : row / 2 ^ (i + 1) = row / 2 ^ i / 2 := by rw [Nat.pow_succ, Nat.div_div_eq_div_mul]
  rw [e, Nat.testBit_eq_decide_div_mod_eq]
  by_cases h : row / 2 ^ i % 2 = 1 <;> simp [h] <;> omega

/-- The seed of a frame's row. -/
def seed0 (nonce id : Int) : Int := (nonce + id * 11400714819323198485) % 18446744073709551616
theorem seed0_lo (n i : Int) : 0 ≤ seed0 n i := by unfold seed0; omega
theorem seed0_hi (n i : Int) : seed0 n i < 18446744073709551616 := by unfold seed0; omega

/-- The row of a frame. -/
def mixed (K : Nat) (s : Int) : Nat := rowAt K (lcg s) (many K (num (lcg s) % K + 1))
theorem mixed_lt (K : Nat) (s : Int) (hK : 1 ≤ K) : mixed K s < 2 ^ K :=
  rowAt_lt K _ hK _ (many_le K _ hK (by omega))
def rowOf (nonce : Int) (K : Nat) (id : Int) : Nat := if id % 4 = 0 then 2 ^ ((id / 4).toNat % K) else mixed K (seed0 nonce id)
theorem rowOf_lt (nonce : Int) (K : Nat) (id : Int) (hK : 1 ≤ K) : rowOf nonce K id < 2 ^ K := by
  unfold rowOf
  split
  · exact Nat.pow_lt_pow_right (by decide) (Nat.mod_lt _ (by omega))
  · exact mixed_lt K _ hK
theorem rowOf_plain (nonce : Int) (K : Nat) (id : Int) (j : Nat) (hi0 : 0 ≤ id) (h4 : id % 4 = 0) (hj : id / 4 % (K : Int) = (j : Int)) : rowOf nonce K id = 2 ^ j := by
  obtain ⟨m, hm⟩ : ∃ m : Nat, id / 4 = (m : Int) := ⟨(id / 4).toNat, by omega⟩
  rw [hm, show (m : Int) % (K : Int) = ((m % K : Nat) : Int) by simp] at hj
  rw [rowOf, if_pos h4, hm, Int.toNat_natCast]
  congr 1
  omega
theorem bit_new (row j i : Nat) : (row ||| 2 ^ j).testBit i = if i = j then true else row.testBit i := by
  rw [bit_or]
  by_cases h : i = j
  · subst h; simp
  · rw [if_neg h]; simp; intro e; exact absurd e.symm h
theorem bit_pow (j i : Nat) : (2 ^ j).testBit i = if i = j then true else false := by
  have := bit_new 0 j i
  simpa using this
end Dz
end Go.Proofs.YtfbbidaoljfloaaDoor
