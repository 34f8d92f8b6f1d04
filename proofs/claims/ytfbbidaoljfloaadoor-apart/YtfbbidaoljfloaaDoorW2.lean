import Derived.Test.YtfbbidaoljfloaaDoorW1
namespace Go.Proofs.YtfbbidaoljfloaaDoor
open Go.RowKit

theorem many_go (K n : Nat) (hK : 1 ≤ K) : ((K : Int) + ((n : Int) % (K : Int) + 1) - 1) / ((n : Int) % (K : Int) + 1) = ((Dz.many K (n % K + 1) : Nat) : Int) := by
  have e : K + (n % K + 1) - 1 = K + n % K := by omega
  unfold Dz.many
  rw [e]
  simp
  congr 1
  omega

theorem pow_go (j : Nat) (hj : j < 32) : (2 : Int) ^ j % 4294967296 = ((2 ^ j : Nat) : Int) := by
  have h : 2 ^ j < 4294967296 := Nat.lt_of_lt_of_le (Nat.pow_lt_pow_right (by decide) hj) (Nat.le_refl (2 ^ 32))
  have e : (2 : Int) ^ j = ((2 ^ j : Nat) : Int) := by simp
  rw [e]
  clear e
  generalize 2 ^ j = x at *
  omega
theorem or_go (row j : Nat) (hr : row < 4294967296) (hj : j < 32) : bits BinOp.or IntKind.u32 (row : Int) (2 ^ j % 4294967296) = ((row ||| 2 ^ j : Nat) : Int) := by
  have h : 2 ^ j < 4294967296 := Nat.lt_of_lt_of_le (Nat.pow_lt_pow_right (by decide) hj) (Nat.le_refl (2 ^ 32))
  rw [pow_go j hj, u32_or_nat row _ hr h]

set_option maxHeartbeats 400000 in
theorem mixedRow_any (p : Nat) (s : Int) (K : Nat) (w : World) (hK : 1 ≤ K) (hK2 : K ≤ 32) (hc : w.cell? ⟨p, 0, none⟩ = some (.int .u64 s)) (hf : w.frozen? ⟨p, 0, none⟩ = false) :
    Calls Tryd.prog 52 #[.func (.func 83) #[] #[.pointer (some ⟨p, 0, none⟩)], .int .u32 K] w fun e w' => e = .returned (.int .u32 (Dz.mixed K s)) ∧ Below p w w' := by
  go_enter Tryd.func52, Tryd.ntmps52
  go_wp2_with fail
  refine (number_any s p _ hc hf).mono ?_
  rintro e w1 ⟨rfl, hw1⟩
  have hn := Dz.num_lt (Dz.lcg s) (Dz.lcg_hi s)
  have hm0 : 0 ≤ ((Dz.num (Dz.lcg s) : Nat) : Int) % (K : Int) := Int.emod_nonneg _ (by omega)
  have hm1 : ((Dz.num (Dz.lcg s) : Nat) : Int) % (K : Int) < K := Int.emod_lt_of_pos _ (by omega)
  have hb1 : Below p w w1 := by rw [hw1]; exact (Below.refl p w).setCell (p := ⟨p, 0, none⟩) (Nat.le_refl p) _
  have hc1 : w1.cell? ⟨p, 0, none⟩ = some (.int .u64 (Dz.lcg s)) := by rw [hw1]; exact World.cell?_setCell_same _ _ _ hc
  have hf1 : w1.frozen? ⟨p, 0, none⟩ = false := by rw [hw1, World.frozen?_setCell]; exact hf
  clear hw1 hc hf
  go_wp2_with fail
  obtain ⟨D, HD⟩ : ∃ D : Nat, Hid (D = Dz.many K (Dz.num (Dz.lcg s) % K + 1)) := ⟨_, rfl⟩
  have hD : ((K : Int) + (((Dz.num (Dz.lcg s) : Nat) : Int) % (K : Int) + 1) - 1) / (((Dz.num (Dz.lcg s) : Nat) : Int) % (K : Int) + 1) = (D : Int) := by rw [HD.out]; exact many_go K _ hK
  have hDK : D ≤ K := by rw [HD.out]; exact Dz.many_le K _ hK (by omega)
  rw [hD]
  clear hD
  have hs1 := Dz.lcg_lo s
  have hs2 := Dz.lcg_hi s
  obtain ⟨s1, HS⟩ : ∃ s1, Hid (s1 = Dz.lcg s) := ⟨_, rfl⟩
  rw [← HS.out] at hc1
  go_loopw [7, 20] (fun r c wr => ∃ i : Nat, i ≤ D ∧ r = .int .u32 (Dz.rowAt K s1 i) ∧ c = .int .u32 i ∧ wr.cell? ⟨p, 0, none⟩ = some (.int .u64 (Dz.seedAt s1 i)) ∧ wr.frozen? ⟨p, 0, none⟩ = false ∧ Below p w wr)
    (fun _ c _ => D - (intOf c).toNat)
  case atStart => exact ⟨0, Nat.zero_le _, rfl, rfl, hc1, hf1, hb1⟩
  case round =>
    obtain ⟨i, hi, rfl, rfl, hcr, hfr, hbr⟩ := hrel
    clear hc1 hf1 hb1
    by_cases hlt : i < D
    · go_wp2_with fail
      refine (number_any _ p _ hcr hfr).mono ?_
      rintro e w2 ⟨rfl, hw2⟩
      have hcw : w2.cell? ⟨p, 0, none⟩ = some (.int .u64 (Dz.seedAt s1 (i + 1))) := by rw [hw2]; exact World.cell?_setCell_same _ _ _ hcr
      have hfw : w2.frozen? ⟨p, 0, none⟩ = false := by rw [hw2, World.frozen?_setCell]; exact hfr
      have hbw : Below p w w2 := by rw [hw2]; exact hbr.setCell (p := ⟨p, 0, none⟩) (Nat.le_refl p) _
      clear hw2 hcr hfr hbr
      obtain ⟨n, HN⟩ : ∃ n, Hid (Dz.num (Dz.seedAt s1 (i + 1)) = n) := ⟨_, rfl⟩
      rw [show Dz.num (Dz.lcg (Dz.seedAt s1 i)) = n from HN.out]
      have hn0 : 0 ≤ (n : Int) % (K : Int) := Int.emod_nonneg _ (by omega)
      have hn1 : (n : Int) % (K : Int) < K := Int.emod_lt_of_pos _ (by omega)
      have hfree := Dz.rowAt_free K s1 hK i (by omega)
      have hjK := Dz.isFree_lt hK hfree
      have hrow := Dz.rowAt_lt K s1 hK i (by omega)
      have hpK := Dz.pow_K K hK2
      obtain ⟨j, HJ⟩ : ∃ j, Hid (Dz.fb (Dz.rowAt K s1 i).testBit K K (Dz.num (Dz.seedAt s1 (i + 1)) % K) = j) := ⟨_, rfl⟩
      rw [HJ.out] at hfree hjK
      rw [HN.out] at hfree
      have HF := hfree
      clear hfree
      go_wp2_with fail
      rw [show (n : Int) % (K : Int) = ((n % K : Nat) : Int) by simp]
      refine (freeBlock_any (Dz.rowAt K s1 i) (n % K) K _ hK hK2 (Nat.mod_lt _ (by omega)) (by omega) j HF).mono ?_
      rintro e w3 ⟨rfl, rfl⟩
      go_wp2
      go_roundw
      case rel =>
        refine ⟨i + 1, by omega, ?_, by go_num, hcw, hfw, hbw⟩
        rw [or_go _ j (by omega) (by omega)]
        show _ = Value.int .u32 ((Dz.rowAt K s1 i ||| 2 ^ Dz.fb (Dz.rowAt K s1 i).testBit K K (Dz.num (Dz.seedAt s1 (i + 1)) % K) : Nat) : Int)
        rw [HJ.out]
      case measure => simp [intOf]; omega
    · have HI : Hid (i = D) := by rw [Hid]; omega
      go_wp2
      go_ret
      refine ⟨ret_int ?_, hbr⟩
      rw [HI.out, HD.out, HS.out]
      rfl
set_option maxHeartbeats 400000 in
theorem row_bad (nonce blocks id : Int) (w : World) (h : ¬ (1 ≤ blocks ∧ blocks ≤ 32 ∧ 0 ≤ id ∧ id < 1048576)) :
    Calls Tryd.prog 27 #[.int .u64 nonce, .int .i64 blocks, .int .i64 id] w fun e w' => e = .returned (.tuple #[.int .u32 0, .int .i64 1]) ∧ w' = w := by
  by_cases h1 : blocks < 1
  · go_enter Tryd.func27, Tryd.ntmps27
    go_wp2
    go_ret2
    exact ⟨rfl, rfl⟩
  · by_cases h2 : 32 < blocks
    · go_enter Tryd.func27, Tryd.ntmps27
      go_wp2
      go_ret2
      exact ⟨rfl, rfl⟩
    · by_cases h3 : id < 0
      · go_enter Tryd.func27, Tryd.ntmps27
        go_wp2
        go_ret2
        exact ⟨rfl, rfl⟩
      · have h4 : 1048576 ≤ id := by omega
        go_enter Tryd.func27, Tryd.ntmps27
        go_wp2
        go_ret2
        exact ⟨rfl, rfl⟩

theorem seed_go (nonce id : Int) : IntKind.u64.wrap (nonce + IntKind.u64.wrap (id * 11400714819323198485)) = Dz.seed0 nonce id := by
  rw [u64w, u64w]; unfold Dz.seed0; omega

theorem ret_row {a b : Int} (h : a = b) : Ending.returned (.tuple #[.int .u32 a, .int .i64 0]) = .returned (.tuple #[.int .u32 b, .int .i64 0]) := by rw [h]

theorem plain_go (nonce id : Int) (K : Nat) (hK : 1 ≤ K) (hK2 : K ≤ 32) (hi0 : 0 ≤ id) (h4 : id % 4 = 0) :
    (2 : Int) ^ (id / 4 % (K : Int)).toNat % 4294967296 = ((Dz.rowOf nonce K id : Nat) : Int) := by
  have e : (id / 4 % (K : Int)).toNat = (id / 4).toNat % K := by
    obtain ⟨m, hm⟩ : ∃ m : Nat, id / 4 = (m : Int) := ⟨(id / 4).toNat, by omega⟩
    rw [hm, Int.toNat_natCast, show (m : Int) % (K : Int) = ((m % K : Nat) : Int) by simp, Int.toNat_natCast]
  have hlt : (id / 4).toNat % K < K := Nat.mod_lt _ (by omega)
  rw [Dz.rowOf, if_pos h4, e, pow_go _ (by omega)]

set_option maxHeartbeats 400000 in
theorem row_plain (nonce id : Int) (K : Nat) (w : World) (hK : 1 ≤ K) (hK2 : K ≤ 32) (hi0 : 0 ≤ id) (hi1 : id < 1048576) (h4 : id % 4 = 0) :
    Calls Tryd.prog 27 #[.int .u64 nonce, .int .i64 K, .int .i64 id] w fun e w' => e = .returned (.tuple #[.int .u32 (Dz.rowOf nonce K id), .int .i64 0]) ∧ w' = w := by
  have hj0 : 0 ≤ id / 4 % (K : Int) := Int.emod_nonneg _ (by omega)
  have hj1 : id / 4 % (K : Int) < (K : Int) := Int.emod_lt_of_pos _ (by omega)
  go_enter Tryd.func27, Tryd.ntmps27
  go_wp2
  go_ret2
  exact ⟨ret_row (plain_go nonce id K hK hK2 hi0 h4), rfl⟩

set_option maxHeartbeats 400000 in
theorem row_mixed (nonce id : Int) (K : Nat) (w : World) (hK : 1 ≤ K) (hK2 : K ≤ 32) (hi0 : 0 ≤ id) (hi1 : id < 1048576) (h4 : (id % 4 == 0) = false) :
    Calls Tryd.prog 27 #[.int .u64 nonce, .int .i64 K, .int .i64 id] w fun e w' => e = .returned (.tuple #[.int .u32 (Dz.rowOf nonce K id), .int .i64 0]) ∧ Below w.heap.size w w' := by
  have HR : Hid (Dz.rowOf nonce K id = Dz.mixed K (Dz.seed0 nonce id)) := by
    rw [Hid, Dz.rowOf, if_neg]; simpa using h4
  go_enter Tryd.func27, Tryd.ntmps27
  go_wp2_with fail
  rw [seed_go]
  refine (numbers_any _ _).mono ?_
  rintro e w1 ⟨rfl, hw1⟩
  have hc1 : w1.cell? ⟨w.heap.size, 0, none⟩ = some (.int .u64 (Dz.seed0 nonce id)) := by rw [hw1]; simp
  have hf1 : w1.frozen? ⟨w.heap.size, 0, none⟩ = false := by rw [hw1]; simp
  have hb1 : Below w.heap.size w w1 := by rw [hw1]; exact (Below.refl _ _).alloc (Nat.le_refl _) _
  clear hw1
  go_wp2_with fail
  refine (mixedRow_any _ _ K _ hK hK2 hc1 hf1).mono ?_
  rintro e w2 ⟨rfl, hb2⟩
  go_wp2
  go_ret2
  exact ⟨ret_row (by rw [HR.out]), hb1.trans hb2⟩

theorem row_any (nonce id : Int) (K : Nat) (w : World) (hK : 1 ≤ K) (hK2 : K ≤ 32) (hi0 : 0 ≤ id) (hi1 : id < 1048576) :
    Calls Tryd.prog 27 #[.int .u64 nonce, .int .i64 K, .int .i64 id] w fun e w' => e = .returned (.tuple #[.int .u32 (Dz.rowOf nonce K id), .int .i64 0]) ∧ Below w.heap.size w w' := by
  by_cases h4 : id % 4 = 0
  · refine (row_plain nonce id K w hK hK2 hi0 hi1 h4).mono ?_
    rintro e w' ⟨rfl, rfl⟩
    exact ⟨rfl, Below.refl _ _⟩
  · exact row_mixed nonce id K w hK hK2 hi0 hi1 (by simpa using h4)
end Go.Proofs.YtfbbidaoljfloaaDoor
