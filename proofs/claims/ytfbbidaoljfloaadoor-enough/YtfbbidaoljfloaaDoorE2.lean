import Derived.Test.YtfbbidaoljfloaaDoorE1
namespace Go.Proofs.YtfbbidaoljfloaaDoor
open Go.RowKit Go.MuLone

def updN (K : Nat → Nat) (j x : Nat) : Nat → Nat := fun i => if i = j then x else K i
def leastF : Nat → Nat → (Nat → Nat) → Nat → (Nat → Nat) × Bool
  | 0, _, K, _ => (K, false)
  | n + 1, j, K, row => if row.testBit j = false then leastF n (j + 1) K row else if K j = 0 then (updN K j row, true) else leastF n (j + 1) K (row ^^^ K j)

theorem leastF_addF {blk K : Nat} {S : Rx.SetV} (hK : K ≤ 32) (hS : Rx.SetOk blk K S) (n : Nat) : ∀ (j row k : Nat) (b : List Nat), n + j = 32 → row < 2 ^ K → (∀ i, i < j → row.testBit i = false) → n + 1 ≤ k →
    leastF n j (fun i => (S i).1) row = ((fun i => ((Rx.addF k S row b).1 i).1), (Rx.addF k S row b).2) := by
  induction n with
  | zero =>
    intro j row k b hj hr hz hk
    obtain ⟨k', rfl⟩ : ∃ k', k = k' + 1 := ⟨k - 1, by omega⟩
    have h0 : row = 0 := by
      apply Nat.eq_of_testBit_eq
      intro i
      rw [Nat.zero_testBit]
      by_cases hi : i < j
      · exact hz i hi
      · exact Nat.testBit_lt_two_pow (Nat.lt_of_lt_of_le hr (Nat.pow_le_pow_right (by decide) (by omega)))
    subst h0
    rfl
  | succ n ih =>
    intro j row k b hj hr hz hk
    unfold leastF
    by_cases hb : row.testBit j = false
    · rw [if_pos hb]
      exact ih (j + 1) row k b (by omega) hr (fun i hi => by
        by_cases e : i = j
        · rw [e]; exact hb
        · exact hz i (by omega)) (by omega)
    · rw [if_neg hb]
      have hb' : row.testBit j = true := by simpa using hb
      have hlow : Rx.low row = j := Rx.low_unique (Rx.lt32 hK hr) hb' hz
      have h0 : row ≠ 0 := by intro e; rw [e] at hb'; simp at hb'
      obtain ⟨k', rfl⟩ : ∃ k', k = k' + 1 := ⟨k - 1, by omega⟩
      unfold Rx.addF
      rw [if_neg h0, hlow]
      by_cases h1 : (S j).1 = 0
      · rw [if_pos h1, if_pos h1]
        refine Prod.ext ?_ rfl
        funext i
        simp only [updN, Rx.setAt]
        split <;> rfl
      · rw [if_neg h1, if_neg h1]
        obtain ⟨q1, q2, _, _⟩ := hS.row j h1
        obtain ⟨n1, n2⟩ := Rx.next_row hK h0 hr h1 q1 (by rw [q2, hlow])
        refine ih (j + 1) _ k' _ (by omega) n1 (fun i hi => ?_) (by omega)
        show (row ^^^ (S j).1).testBit i = false
        rcases n2 with e | e
        · rw [e]; simp
        · by_cases hz0 : row ^^^ (S j).1 = 0
          · rw [hz0]; simp
          · exact Rx.low_below hz0 (Rx.lt32 hK n1) (by omega)

theorem addF_all {blk K : Nat} {S : Rx.SetV} (hK : K ≤ 32) (hS : Rx.SetOk blk K S) (hall : ∀ j, j < K → (S j).1 ≠ 0) (k : Nat) : ∀ (row : Nat) (b : List Nat), row < 2 ^ K → Rx.addF k S row b = (S, false) := by
  induction k with
  | zero => intro row b _; rfl
  | succ k ih =>
    intro row b hr
    unfold Rx.addF
    by_cases h0 : row = 0
    · rw [if_pos h0]
    · have h1 := hall _ (Rx.low_ltK hK h0 hr)
      obtain ⟨q1, q2, _, _⟩ := hS.row _ h1
      rw [if_neg h0, if_neg h1]
      exact ih _ _ (Rx.next_row hK h0 hr h1 q1 q2).1

/-- The array of the rows that were kept. -/
def KeptAt (w : World) (kb : Nat) (K : Nat → Nat) : Prop := w.heap[kb]? = some (.cells (Array.ofFn fun i : Fin 32 => .int .u32 (K i)) 56 (0, 0))
theorem KeptAt.cell {w : World} {kb : Nat} {K : Nat → Nat} (h : KeptAt w kb K) {j : Nat} (hj : j < 32) : w.cell? ⟨kb, j, none⟩ = some (.int .u32 (K j)) := by
  rw [cell_of_row _ _ _ _ _ _ h]
  simp [hj]
theorem KeptAt.frozen {w : World} {kb : Nat} {K : Nat → Nat} (h : KeptAt w kb K) (j : Nat) : w.frozen? ⟨kb, j, none⟩ = false := frozen_of_row _ _ _ _ _ h
theorem KeptAt.set {w : World} {kb : Nat} {K : Nat → Nat} (h : KeptAt w kb K) (j x : Nat) : KeptAt (w.setCell ⟨kb, j, none⟩ (.int .u32 x)) kb (updN K j x) := by
  have harr : (Array.ofFn fun i : Fin 32 => Value.int .u32 (K i)).setIfInBounds j (.int .u32 (x : Int)) = Array.ofFn fun i : Fin 32 => Value.int .u32 (updN K j x i) := by
    apply Array.ext
    · simp
    · intro i h1 h2
      have h3 : i < 32 := by simpa using h2
      by_cases e : j = i
      · subst e; simp [updN]
      · rw [Array.getElem_setIfInBounds_ne (by simpa using h3) e]
        simp only [Array.getElem_ofFn, updN]
        rw [if_neg (fun q => e q.symm)]
  have := heap_setCell_same w kb j _ _ (.int .u32 (x : Int)) h
  rw [harr] at this
  exact this

theorem bit_none (row t : Nat) (hr : row < 4294967296) : (bits BinOp.and IntKind.u32 ((row : Int) / 2 ^ t) 1 == 0) = !row.testBit t := by
  have e : (row : Int) / 2 ^ t = ((row / 2 ^ t : Nat) : Int) := by simp
  have hlt : row / 2 ^ t < 4294967296 := Nat.lt_of_le_of_lt (Nat.div_le_self _ _) hr
  have h := u32_and_nat (row / 2 ^ t) 1 hlt (by decide)
  rw [e, show (1 : Int) = ((1 : Nat) : Int) from rfl, h, Nat.and_one_is_mod, Nat.testBit_eq_decide_div_mod_eq]
  rcases Nat.mod_two_eq_zero_or_one (row / 2 ^ t) with h0 | h0 <;> rw [h0] <;> rfl

set_option maxRecDepth 100000 in
set_option maxHeartbeats 1600000 in
theorem least_any (kb row : Nat) (K : Nat → Nat) (w : World) (h : KeptAt w kb K) (hr : row < 4294967296) (hKr : ∀ j, K j < 4294967296) :
    Calls Tryd.prog 28 #[.pointer (some ⟨kb, 0, none⟩), .int .u32 row] w fun e w' => e = .returned (.bool (leastF 32 0 K row).2) ∧ Turn [kb] w w' ∧ KeptAt w' kb (leastF 32 0 K row).1 := by
  go_enter Tryd.func28, Tryd.ntmps28
  go_wp2_with fail
  go_loopw [1, 5] (fun rv jv wr => ∃ (j r : Nat), rv = .int .u32 r ∧ jv = .int .i64 j ∧ j ≤ 32 ∧ wr = w ∧ r < 4294967296 ∧ leastF (32 - j) j K r = leastF 32 0 K row) (fun _ jv _ => 32 - (intOf jv).toNat)
  case atStart => exact ⟨0, row, rfl, rfl, by omega, rfl, hr, rfl⟩
  case round =>
    obtain ⟨j, r, rfl, rfl, hj, rfl, hr2, hF⟩ := hrel
    have HF : Hid _ := hF
    clear hF
    by_cases hj2 : j < 32
    · have g1 : decide ((j : Int) < 32) = true := by simp; omega
      have gb := bit_none r j hr2
      have hc := h.cell hj2
      have hfz := h.frozen j
      have hj3 : (0 : Int) ≤ (j : Int) := by omega
      have hj4 : (j : Int) < 32 := by omega
      have HU : Hid (leastF (32 - j) j K r = if r.testBit j = false then leastF (32 - (j + 1)) (j + 1) K r else if K j = 0 then (updN K j r, true) else leastF (32 - (j + 1)) (j + 1) K (r ^^^ K j)) := by
        obtain ⟨m, hm⟩ : ∃ m, 32 - j = m + 1 := ⟨31 - j, by omega⟩
        rw [Hid, hm, show 32 - (j + 1) = m by omega]
        rfl
      by_cases hb : r.testBit j = false
      · rw [hb] at gb
        have HE : Hid (leastF (32 - (j + 1)) (j + 1) K r = leastF 32 0 K row) := by rw [Hid, ← HF.out, HU.out, if_pos hb]
        clear hb HU
        go_wp2_with fail
        exact ⟨⟨j + 1, r, rfl, by go_num, by omega, trivial, hr2, HE.out⟩, by simp [intOf]; omega⟩
      · have hb' : r.testBit j = true := by simpa using hb
        rw [hb'] at gb
        by_cases hk : K j = 0
        · have HE : Hid (leastF 32 0 K row = (updN K j r, true)) := by rw [Hid, ← HF.out, HU.out, if_neg hb, if_pos hk]
          have g2 : ((K j : Int) == 0) = true := by rw [hk]; rfl
          clear hb hb' HU
          go_wp2_with fail
          go_ret
          rw [HE.out]
          exact ⟨rfl, (Turn.refl [kb] wr).setCell (.inl (by simp)) _, h.set j r⟩
        · have g2 : ((K j : Int) == 0) = false := by rw [beq_eq_false_iff_ne]; omega
          have hx : bits BinOp.xor IntKind.u32 (r : Int) (K j : Int) = ((r ^^^ K j : Nat) : Int) := u32_xor_nat _ _ hr2 (hKr j)
          have hx2 := Rx.xor_lt32' hr2 (hKr j)
          have HE : Hid (leastF (32 - (j + 1)) (j + 1) K (r ^^^ K j) = leastF 32 0 K row) := by rw [Hid, ← HF.out, HU.out, if_neg hb, if_neg hk]
          clear hb hb' HU
          go_wp2_with fail
          exact ⟨⟨j + 1, r ^^^ K j, rfl, by go_num, by omega, trivial, hx2, HE.out⟩, by simp [intOf]; omega⟩
    · obtain rfl : j = 32 := by omega
      have g1 : decide (((32 : Nat) : Int) < 32) = false := by simp
      go_wp2_with fail
      go_ret
      rw [← HF.out]
      exact ⟨rfl, Turn.refl _ _, h⟩

end Go.Proofs.YtfbbidaoljfloaaDoor
