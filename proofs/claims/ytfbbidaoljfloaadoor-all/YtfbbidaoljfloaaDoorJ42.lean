import Derived.Test.YtfbbidaoljfloaaDoorJ30
namespace Go.Proofs.YtfbbidaoljfloaaDoor
open Go.RowKit

theorem half_xor (x y : Nat) : (x ^^^ y) / 2 = x / 2 ^^^ y / 2 := by
  apply Nat.eq_of_testBit_eq
  intro i
  rw [Nat.testBit_xor, Nat.testBit_div_two, Nat.testBit_div_two, Nat.testBit_div_two, Nat.testBit_xor]
theorem odd_xor (x y : Nat) : (x ^^^ y) % 2 = (x % 2 + y % 2) % 2 := by
  have e := Nat.testBit_xor x y 0
  simp only [Nat.testBit_zero] at e
  have h1 : (x ^^^ y) % 2 = 0 ∨ (x ^^^ y) % 2 = 1 := by omega
  have h2 : x % 2 = 0 ∨ x % 2 = 1 := by omega
  have h3 : y % 2 = 0 ∨ y % 2 = 1 := by omega
  rcases h1 with h1 | h1 <;> rcases h2 with h2 | h2 <;> rcases h3 with h3 | h3 <;> simp [h1, h2, h3] at e ⊢

theorem xor_pair (a b p : Nat) : (a ^^^ p) ^^^ (b ^^^ p) = a ^^^ b := by rw [xor_swap, Nat.xor_self, Nat.xor_zero]

/-- The division is linear. -/
theorem divB_xor (x y : Nat) : divB (x ^^^ y) = divB x ^^^ divB y := by
  have ho := odd_xor x y
  have hh := half_xor x y
  unfold divB
  rw [hh]
  have h2 : x % 2 = 0 ∨ x % 2 = 1 := by omega
  have h3 : y % 2 = 0 ∨ y % 2 = 1 := by omega
  rcases h2 with h2 | h2 <;> rcases h3 with h3 | h3
  · rw [if_pos (by rw [ho, h2, h3]), if_pos h2, if_pos h3]
  · rw [if_neg (by rw [ho, h2, h3]; decide), if_pos h2, if_neg (by omega), Nat.xor_assoc]
  · rw [if_neg (by rw [ho, h2, h3]; decide), if_neg (by omega), if_pos h3, Nat.xor_assoc, Nat.xor_assoc, Nat.xor_comm (y / 2)]
  · rw [if_pos (by rw [ho, h2, h3]), if_neg (by omega), if_neg (by omega), xor_pair]
theorem divN_xor (k : Nat) : ∀ x y, divN k (x ^^^ y) = divN k x ^^^ divN k y := by
  induction k with
  | zero => intro x y; rfl
  | succ k ih => intro x y; show divB (divN k (x ^^^ y)) = _; rw [ih, divB_xor]; rfl
theorem divN_zero (k : Nat) : divN k 0 = 0 := by
  induction k with
  | zero => rfl
  | succ k ih => show divB (divN k 0) = 0; rw [ih]; rfl
theorem divN_add (a b x : Nat) : divN (a + b) x = divN a (divN b x) := by
  induction a with
  | zero => rw [Nat.zero_add]; rfl
  | succ a ih => rw [show a + 1 + b = (a + b) + 1 by omega]; show divB (divN (a + b) x) = _; rw [ih]; rfl
theorem divN_shift (k y : Nat) : divN k (2 ^ k * y) = y := by
  induction k generalizing y with
  | zero => simp [divN]
  | succ k ih =>
    show divB (divN k (2 ^ (k + 1) * y)) = y
    rw [Nat.pow_succ, Nat.mul_assoc, ih]
    unfold divB
    rw [if_pos (by omega)]
    omega
theorem divB_nz {x : Nat} (h : x < 4294967296) (h0 : x ≠ 0) : divB x ≠ 0 := by
  unfold divB
  split
  · omega
  · intro e
    have : x / 2 = 3988292384 := by
      have h1 := congrArg (fun z => z ^^^ 3988292384) e
      simp only [Nat.xor_assoc, Nat.xor_self, Nat.xor_zero, Nat.zero_xor] at h1
      exact h1
    omega
theorem divN_nz (k : Nat) {x : Nat} (h : x < 4294967296) (h0 : x ≠ 0) : divN k x ≠ 0 := by
  induction k with
  | zero => exact h0
  | succ k ih => exact divB_nz (divN_lt k x h) ih

theorem add_xor8 (b v : Nat) (hb : b < 256) : b + 256 * v = b ^^^ 256 * v := by
  apply Nat.eq_of_testBit_eq
  intro i
  rw [Nat.testBit_xor, Nat.add_comm, show (256 : Nat) = 2 ^ 8 by decide, Nat.testBit_two_pow_mul_add _ (by omega), Nat.testBit_two_pow_mul]
  by_cases h : i < 8
  · rw [if_pos h]
    have : ¬ 8 ≤ i := by omega
    simp [this]
  · rw [if_neg h]
    have h8 : 8 ≤ i := by omega
    have : b.testBit i = false := Nat.testBit_lt_two_pow (Nat.lt_of_lt_of_le (show b < 2 ^ 8 by omega) (Nat.pow_le_pow_right (by decide) h8))
    simp [this, h8]

def regOf (r : Nat) (ns : List Nat) : Nat := ns.foldl (fun r b => divN 8 (r ^^^ b)) r
/-- All bits at once. -/
theorem regOf_all (ns : List Nat) : ∀ r, (∀ b ∈ ns, b < 256) → regOf r ns = divN (8 * ns.length) (r ^^^ leVal ns) := by
  induction ns with
  | nil => intro r _; simp [regOf, leVal, divN]
  | cons b l ih =>
    intro r h
    have hb := h b (by simp)
    show regOf (divN 8 (r ^^^ b)) l = _
    rw [ih _ (fun x hx => h x (by simp [hx])), List.length_cons, show 8 * (l.length + 1) = 8 * l.length + 8 by omega, divN_add]
    congr 1
    show divN 8 (r ^^^ b) ^^^ leVal l = divN 8 (r ^^^ (b + 256 * leVal l))
    rw [add_xor8 b _ hb, ← Nat.xor_assoc, divN_xor 8 (r ^^^ b), show (256 : Nat) = 2 ^ 8 by decide, divN_shift]

theorem regOf_append (r : Nat) (a b : List Nat) : regOf r (a ++ b) = regOf (regOf r a) b := List.foldl_append
theorem crcRest_reg (ns : List Nat) : crcRest ns = regOf 4294967295 ns := rfl

/-- A text that bears its check. -/
theorem reg_valid (body : List Nat) (h : ∀ b ∈ body, b < 256) : regOf 4294967295 (body ++ leBytes 4 (crc body)) = divN 32 4294967295 := by
  have hc := crcRest_lt body h
  rw [regOf_append, ← crcRest_reg, regOf_all _ _ (leBytes_lt _ _), leBytes_len, leVal_leBytes 4 _ (by unfold crc; exact xor_lt32 _ _ (by decide) hc)]
  unfold crc
  rw [Nat.xor_comm 4294967295, ← Nat.xor_assoc, Nat.xor_self, Nat.zero_xor]

/-- NO RUN OF 32 BITS GOES UNSEEN. -/
theorem run_seen {t t' : List Nat} {m k : Nat} (ht : ∀ b ∈ t, b < 256) (ht' : ∀ b ∈ t', b < 256) (hl : t'.length = t.length) (h1 : t.take m ++ leBytes 4 (crc (t.take m)) = t) (h2 : t'.take m ++ leBytes 4 (crc (t'.take m)) = t')
    {from_ w : Nat} (hx : leVal t' = leVal t ^^^ 2 ^ from_ * w) (hw : w < 4294967296) (hw0 : w ≠ 0) (hk : k = 8 * t.length) (hf : from_ ≤ k) : False := by
  have v1 := reg_valid (t.take m) (fun b hb => ht b (List.mem_of_mem_take hb))
  have v2 := reg_valid (t'.take m) (fun b hb => ht' b (List.mem_of_mem_take hb))
  rw [h1] at v1
  rw [h2] at v2
  rw [regOf_all _ _ ht] at v1
  rw [regOf_all _ _ ht', hl, hx, ← Nat.xor_assoc, divN_xor, v1] at v2
  have e : divN (8 * t.length) (2 ^ from_ * w) = 0 := by
    have := congrArg (fun z => divN 32 4294967295 ^^^ z) v2
    simp only [← Nat.xor_assoc, Nat.xor_self, Nat.zero_xor] at this
    exact this
  rw [← hk, show k = (k - from_) + from_ by omega, divN_add, divN_shift] at e
  exact divN_nz _ hw hw0 e

/-- One bit turned. -/
theorem leVal_flip : ∀ (l : List Nat) (j r : Nat), j < l.length → (∀ b ∈ l, b < 256) → r < 8 → leVal (l.set j (l.getD j 0 ^^^ 2 ^ r)) = leVal l ^^^ 2 ^ (8 * j + r)
  | [], j, r, hj, _, _ => by simp at hj
  | b :: l, 0, r, _, hb, hr => by
    have h0 := hb b (by simp)
    have hp : (2 : Nat) ^ r < 256 := Nat.lt_of_lt_of_le (Nat.pow_lt_pow_right (by decide) hr) (by decide)
    show (b ^^^ 2 ^ r) + 256 * leVal l = (b + 256 * leVal l) ^^^ 2 ^ (8 * 0 + r)
    rw [add_xor8 _ _ (xor_lt8 _ _ h0 hp), add_xor8 _ _ h0, show 8 * 0 + r = r by omega, Nat.xor_assoc, Nat.xor_assoc, Nat.xor_comm (2 ^ r)]
  | b :: l, j + 1, r, hj, hb, hr => by
    have h0 := hb b (by simp)
    have ih := leVal_flip l j r (by simpa using hj) (fun x hx => hb x (by simp [hx])) hr
    show b + 256 * leVal (l.set j (l.getD j 0 ^^^ 2 ^ r)) = (b + 256 * leVal l) ^^^ 2 ^ (8 * (j + 1) + r)
    rw [ih, add_xor8 _ _ h0, add_xor8 _ _ h0, Nat.xor_assoc]
    congr 1
    have e : (2 : Nat) ^ (8 * (j + 1) + r) = 2 ^ 8 * 2 ^ (8 * j + r) := by rw [← Nat.pow_add]; congr 1; omega
    rw [e, show (256 : Nat) = 2 ^ 8 by decide]
    generalize (2 : Nat) ^ (8 * j + r) = z
    apply Nat.eq_of_testBit_eq
    intro i
    rw [Nat.testBit_two_pow_mul, Nat.testBit_xor, Nat.testBit_xor, Nat.testBit_two_pow_mul, Nat.testBit_two_pow_mul]
    cases decide (i ≥ 8) <;> simp

end Go.Proofs.YtfbbidaoljfloaaDoor


namespace Go.Proofs.YtfbbidaoljfloaaDoor
open Go.RowKit Go.MuLone

/-- A text in which a run of bits was turned. -/
structure Spoil (t t' : List Nat) (from_ m i : Nat) : Prop where
  lt : ∀ b ∈ t', b < 256
  len : t'.length = t.length
  val : leVal t' = leVal t ^^^ 2 ^ from_ * m
  small : m < 2 ^ i
  odd : 0 < i → m % 2 = 1

theorem pow_or_xor (m i : Nat) (h : m < 2 ^ i) : 2 ^ i + m = m ^^^ 2 ^ i := by
  apply Nat.eq_of_testBit_eq
  intro j
  rw [Nat.testBit_xor, Nat.testBit_two_pow, show 2 ^ i + m = 2 ^ i * 1 + m by omega, Nat.testBit_two_pow_mul_add _ h]
  by_cases hj : j < i
  · rw [if_pos hj]
    have : ¬ i = j := by omega
    simp [this]
  · rw [if_neg hj]
    have hb : m.testBit j = false := Nat.testBit_lt_two_pow (Nat.lt_of_lt_of_le h (Nat.pow_le_pow_right (by decide) (by omega)))
    rw [hb]
    by_cases e : i = j
    · subst e; simp
    · obtain ⟨d, rfl⟩ : ∃ d, j = i + (d + 1) := ⟨j - i - 1, by omega⟩
      rw [show i + (d + 1) - i = d + 1 by omega, Nat.testBit_succ]
      simp

theorem mul_xor_pow (f a b : Nat) : 2 ^ f * (a ^^^ b) = 2 ^ f * a ^^^ 2 ^ f * b := by
  apply Nat.eq_of_testBit_eq
  intro i
  rw [Nat.testBit_two_pow_mul, Nat.testBit_xor, Nat.testBit_xor, Nat.testBit_two_pow_mul, Nat.testBit_two_pow_mul]
  cases decide (i ≥ f) <;> simp

theorem Spoil.flip {t t' : List Nat} {from_ m i : Nat} (h : Spoil t t' from_ m i) (hl : from_ + i < 8 * t.length) : Spoil t (t'.set ((from_ + i) / 8) (t'.getD ((from_ + i) / 8) 0 ^^^ 2 ^ ((from_ + i) % 8))) from_ (2 ^ i + m) (i + 1) := by
  have hp : (2 : Nat) ^ ((from_ + i) % 8) < 256 := Nat.lt_of_lt_of_le (Nat.pow_lt_pow_right (by decide) (Nat.mod_lt _ (by decide))) (by decide)
  refine ⟨fun b hb => ?_, by rw [List.length_set]; exact h.len, ?_, ?_, fun _ => ?_⟩
  · rcases List.mem_or_eq_of_mem_set hb with q | q
    · exact h.lt b q
    · rw [q]; exact xor_lt8 _ _ (getD_lt h.lt _) hp
  · rw [leVal_flip t' _ _ (by rw [h.len]; omega) h.lt (Nat.mod_lt _ (by decide)), h.val, Nat.xor_assoc, pow_or_xor m i h.small, mul_xor_pow, ← Nat.pow_add, show 8 * ((from_ + i) / 8) + (from_ + i) % 8 = from_ + i by omega]
  · have := h.small
    rw [Nat.pow_succ]
    omega
  · by_cases hi : i = 0
    · subst hi
      have := h.small
      simp at this
      subst this
      rfl
    · have h1 := h.odd (by omega)
      obtain ⟨j, rfl⟩ : ∃ j, i = j + 1 := ⟨i - 1, by omega⟩
      rw [Nat.pow_succ]
      omega
theorem Spoil.skip {t t' : List Nat} {from_ m i : Nat} (h : Spoil t t' from_ m i) (hi : 0 < i) : Spoil t t' from_ m (i + 1) :=
  ⟨h.lt, h.len, h.val, by rw [Nat.pow_succ]; have := h.small; omega, fun _ => h.odd hi⟩

/-- What is spoiled is another text. -/
theorem Spoil.ne {t t' : List Nat} {from_ m i : Nat} (h : Spoil t t' from_ m i) (hi : 0 < i) : t' ≠ t := fun e => by
  have hv := h.val
  rw [e] at hv
  have h1 := congrArg (fun z => leVal t ^^^ z) hv
  simp only [← Nat.xor_assoc, Nat.xor_self, Nat.zero_xor] at h1
  have h2 := h.odd hi
  have h3 : 0 < 2 ^ from_ * m := Nat.mul_pos (Nat.two_pow_pos _) (by omega)
  omega

/-- What is spoiled is not read. -/
theorem Spoil.deaf {t t' : List Nat} {from_ m i blk : Nat} (h : Spoil t t' from_ m i) (hi : 0 < i) (hi2 : i ≤ 32) (ht : ∀ b ∈ t, b < 256) (hf : from_ ≤ 8 * t.length) (hv : t.take (blk + 9) ++ leBytes 4 (crc (t.take (blk + 9))) = t) : readS t' blk = none := by
  unfold readS
  rw [if_neg]
  intro hq
  have hm : m < 4294967296 := Nat.lt_of_lt_of_le h.small (Nat.le_trans (Nat.pow_le_pow_right (by decide) hi2) (by decide))
  have hm0 : m ≠ 0 := by have := h.odd hi; omega
  exact run_seen ht h.lt h.len hv hq.2.2 h.val hm hm0 rfl hf

theorem fText_valid (num blk row : Nat) (data : ByteArray) : (fText num blk row data).take (blk + 9) ++ leBytes 4 (crc ((fText num blk row data).take (blk + 9))) = fText num blk row data := by
  have hbl := sumBody_len num data.size row (sumRow data blk row)
  rw [sumRow_len] at hbl
  have ht : (fText num blk row data).take (blk + 9) = sumBody num data.size row (sumRow data blk row) := by
    unfold fText sumText
    rw [← hbl]
    exact List.take_left
  rw [ht]
  rfl

theorem pickNet_eq (c num : Int) (n : Nat) (w : World) (e : num = n) (h1 : -9223372036854775808 ≤ c) (h2 : c ≤ 9223372036854775807) (hn : 0 < n) (hn2 : n ≤ 4611686018427387904) :
    Calls Tryd.prog 51 #[.int .i64 c, .int .i64 num] w fun e w' => ∃ k : Nat, k < n ∧ e = .returned (.int .i64 k) ∧ w' = w := by
  subst e
  exact pickNet_any c n w h1 h2 hn hn2

theorem BRow.setAt {w : World} {g n cap : Nat} {ns : List Nat} (h : BRow w g n cap ns) (k b : Nat) (hk : k < n) (hb : b < 256) : BRow (w.setCell ⟨g, k, none⟩ (.int .u8 (b : Int))) g n cap (ns.set k b) := by
  have hl := h.len
  obtain ⟨u0, hu0⟩ := Option.isSome_iff_exists.1 (h.room k (by have := h.le; omega)).1
  refine ⟨⟨fun j x hx => ?_, fun x hx => ?_⟩, by rw [List.length_set]; exact hl, fun j hj => ⟨?_, by simp [(h.room j hj).2]⟩, h.le⟩
  · rw [Nat.zero_add]
    by_cases hjk : j = k
    · subst hjk
      rw [cellSame hu0]
      rw [List.getElem?_set_self (by omega)] at hx
      cases hx
      rfl
    · rw [World.cell?_setCell_other _ _ _ _ (by simp only [ne_eq, Addr.mk.injEq]; omega)]
      rw [List.getElem?_set_ne (fun e => hjk e.symm)] at hx
      exact h.at j x hx
  · rcases List.mem_or_eq_of_mem_set hx with q | q
    · exact h.cells.lt x q
    · omega
  · by_cases hjk : j = k
    · subst hjk; rw [cellSame hu0]; rfl
    · rw [World.cell?_setCell_other _ _ _ _ (by simp only [ne_eq, Addr.mk.injEq]; omega)]
      exact (h.room j hj).1
theorem BRow.getAt {w : World} {g n cap : Nat} {ns : List Nat} (h : BRow w g n cap ns) (k : Nat) (hk : k < n) : w.cell? ⟨g, k, none⟩ = some (.int .u8 (ns.getD k 0 : Nat)) := by
  have hl := h.len
  exact h.at k _ (by simp [List.getD, hl, hk])

theorem byte_flip (a k : Nat) (ha : a < 256) (hk : k < 8) : bits BinOp.xor IntKind.u8 (a : Int) (2 ^ k % 256) = ((a ^^^ 2 ^ k : Nat) : Int) := by
  have hp : (2 : Nat) ^ k < 256 := Nat.lt_of_lt_of_le (Nat.pow_lt_pow_right (by decide) hk) (by decide)
  have e : ((2 : Int) ^ k % 256) = ((2 ^ k : Nat) : Int) := by
    rw [show ((2 : Int) ^ k) = ((2 ^ k : Nat) : Int) by simp]
    generalize 2 ^ k = q at hp
    omega
  rw [e]
  exact u8_xor_nat _ _ ha hp

set_option maxRecDepth 100000 in
set_option maxHeartbeats 1600000 in
theorem spoiled_any (text : ByteArray) (at_ : Int) (mask : Nat) (w : World) (h1 : -9223372036854775808 ≤ at_) (h2 : at_ ≤ 9223372036854775807) (hm : mask < 4294967296) (hs0 : 0 < text.size) (hs : text.size ≤ 100) :
    Calls Tryd.prog 30 #[.string text, .int .i64 at_, .int .u32 mask] w fun e w' => ∃ (t' : List Nat) (from_ m i : Nat), e = .returned (.string (strOf t')) ∧ Spoil (bytesOf text) t' from_ m i ∧ 0 < i ∧ i ≤ 32 ∧ from_ < 8 * text.size ∧ Below w.heap.size w w' := by
  obtain ⟨cap, w2, hcv, hrow, hbe, hcm, hlt⟩ := conv_row text w (by omega)
  have hlen := bytesOf_len text
  have HLen : Hid _ := hlen
  have q0 : ((8 : Int) * (text.size : Int) == 0) = false := by rw [beq_eq_false_iff_ne]; omega
  have HR : Hid _ := hrow
  have HB : Hid _ := hbe
  clear hrow hbe hlen
  go_enter Tryd.func30, Tryd.ntmps30
  go_wp2_with fail
  refine (pickNet_eq at_ _ (8 * text.size) _ (by omega) h1 h2 (by omega) (by omega)).mono ?_
  rintro e w3 ⟨fr, hfr, rfl, rfl⟩
  clear hcv
  go_wp2_with fail
  go_loopw [10] (fun v wr => ∃ (i m : Nat) (t' : List Nat), v = .int .i64 i ∧ i ≤ 32 ∧ BRow wr w.heap.size text.size cap t' ∧ Spoil (bytesOf text) t' fr m i ∧ Below w.heap.size w wr) (fun v _ => 32 - (intOf v).toNat)
  case atStart => exact ⟨0, 0, bytesOf text, rfl, by omega, HR.out, ⟨bytesOf_lt text, rfl, by simp, by simp, fun h => by omega⟩, HB.out⟩
  case round =>
    obtain ⟨i, m, t', rfl, hi, hrow, hsp, hbel⟩ := hrel
    have HROW : Hid _ := hrow
    have HSP : Hid _ := hsp
    have hconv := hrow.conv
    clear hsp
    by_cases c1 : i < 32
    · by_cases c2 : fr + i < 8 * text.size
      · have g1 : decide ((i : Int) < 32) = true := by simp; omega
        have g2 : decide ((fr : Int) + (i : Int) < 8 * (text.size : Int)) = true := by simp; omega
        have hkl : (fr + i) / 8 < text.size := by omega
        have hcell := hrow.getAt ((fr + i) / 8) hkl
        have hfz := (hrow.room ((fr + i) / 8) (by have := hrow.le; omega)).2
        clear hrow hconv
        by_cases c3 : i = 0 ∨ mask.testBit i = true
        · have HSF := HSP.out.flip (by rw [HLen.out]; exact c2)
          obtain ⟨x, hx⟩ : ∃ x, x = t'.getD ((fr + i) / 8) 0 := ⟨_, rfl⟩
          have hx2 : x < 256 := by rw [hx]; exact getD_lt HSP.out.lt _
          rw [← hx] at hcell HSF
          have hbf := byte_flip x ((fr + i) % 8) hx2 (Nat.mod_lt _ (by decide))
          have hx3 : x ^^^ 2 ^ ((fr + i) % 8) < 256 := xor_lt8 _ _ hx2 (Nat.lt_of_lt_of_le (Nat.pow_lt_pow_right (by decide) (Nat.mod_lt _ (by decide))) (by decide))
          replace HSF : Hid _ := HSF
          clear HSP hx
          by_cases hi0 : i = 0
          · have g3 : ((i : Int) == 0) = true := by rw [beq_iff_eq]; omega
            clear c3 hi0
            go_wp2_with fail
            go_region
            clear hbf
            generalize hz : x ^^^ 2 ^ ((fr + i) % 8) = z at hx3 HSF ⊢
            clear hz
            go_wp2_with fail
            refine ⟨⟨i + 1, 2 ^ i + m, _, by go_num, by omega, (HROW.out.setAt _ z hkl hx3).turn (by have := HROW.out.lt hs0; simpa using this) ((Turn.refl [] _).drew) (by simp), HSF.out, (hbel.setCell (Nat.le_refl _) _).drew⟩, by simp [intOf]; omega⟩
          · have g3 : ((i : Int) == 0) = false := by rw [beq_eq_false_iff_ne]; omega
            have g4 : (bits BinOp.and IntKind.u32 ((mask : Int) / 2 ^ i) 1 == 1) = true := by rw [bit_go mask i hm]; simpa [hi0] using c3
            clear c3
            go_wp2_with fail
            go_region
            clear hbf
            generalize hz : x ^^^ 2 ^ ((fr + i) % 8) = z at hx3 HSF ⊢
            clear hz
            go_wp2_with fail
            refine ⟨⟨i + 1, 2 ^ i + m, _, by go_num, by omega, (HROW.out.setAt _ z hkl hx3).turn (by have := HROW.out.lt hs0; simpa using this) ((Turn.refl [] _).drew) (by simp), HSF.out, (hbel.setCell (Nat.le_refl _) _).drew⟩, by simp [intOf]; omega⟩
        · have hi0 : 0 < i := by omega
          have g3 : ((i : Int) == 0) = false := by rw [beq_eq_false_iff_ne]; omega
          have g4 : (bits BinOp.and IntKind.u32 ((mask : Int) / 2 ^ i) 1 == 1) = false := by rw [bit_go mask i hm]; simp at c3; simpa using c3.2
          have HSK : Hid _ := HSP.out.skip hi0
          clear c3
          go_wp2_with fail
          refine ⟨⟨i + 1, m, t', by go_num, by omega, HROW.out, HSK.out, hbel⟩, by simp [intOf]; omega⟩
      · have g1 : decide ((i : Int) < 32) = true := by simp; omega
        have g2 : decide ((fr : Int) + (i : Int) < 8 * (text.size : Int)) = false := by simp; omega
        clear hrow
        go_wp2_with fail
        go_ret
        exact ⟨t', fr, m, i, rfl, HSP.out, by omega, by omega, hfr, hbel⟩
    · obtain rfl : i = 32 := by omega
      have g1 : decide (((32 : Nat) : Int) < 32) = false := by simp
      clear hrow
      go_wp2_with fail
      go_ret
      exact ⟨t', fr, m, 32, rfl, HSP.out, by omega, by omega, hfr, hbel⟩

end Go.Proofs.YtfbbidaoljfloaaDoor
