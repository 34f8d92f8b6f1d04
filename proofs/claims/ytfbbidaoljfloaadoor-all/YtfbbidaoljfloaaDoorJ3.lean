import Derived.Test.YtfbbidaoljfloaaDoorRows
import Derived.Test.YtfbbidaoljfloaaDoorNum
import Derived.WalkKit
import Derived.WalkSpells
import Derived.WalkLawsBesides
import Derived.Laws.BitsAllLaws
namespace Go.Proofs.YtfbbidaoljfloaaDoor
open Go.RowKit

theorem ret_int {k : IntKind} {a b : Int} (h : a = b) : Ending.returned (.int k a) = .returned (.int k b) := by rw [h]
theorem u64w (n : Int) : IntKind.u64.wrap n = n % 18446744073709551616 := IntKind.wrap_u64 n
theorem tmod32 (n : Int) : (n % 18446744073709551616).tmod 4294967296 = n % 18446744073709551616 % 4294967296 := Int.tmod_eq_emod_of_nonneg (by omega)

set_option maxHeartbeats 400000 in
theorem times_any (a b : Int) (w : World) (ha0 : 0 ≤ a) (ha : a < 18446744073709551616) (hb0 : 0 ≤ b) (hb : b < 18446744073709551616) :
    Calls Tryd.prog 85 #[.int .u64 a, .int .u64 b] w fun e w' => e = .returned (.int .u64 (a * b % 18446744073709551616)) ∧ w' = w := by
  go_enter Tryd.func85, Tryd.ntmps85
  go_wp2
  go_ret
  refine ⟨ret_int ?_, rfl⟩
  simp only [u64w, tmod32]
  exact Dz.times_eq a b

theorem lcg_go (s : Int) : IntKind.u64.wrap (IntKind.u64.wrap (s * 6364136223846793005) + 1442695040888963407) = Dz.lcg s := by
  rw [u64w, u64w, Dz.lcg_wrap]
theorem num_go (s : Int) : IntKind.u64.wrap (IntKind.u64.wrap (s * 6364136223846793005) + 1442695040888963407) / 4294967296 % 4294967296 = (Dz.num (Dz.lcg s) : Int) := by
  have h1 := Dz.lcg_lo s
  have h2 := Dz.lcg_hi s
  rw [lcg_go, Dz.num_cast _ h1]
  omega

set_option maxHeartbeats 400000 in
/-- One call of the closure: the next number; the cell that it keeps holds the next seed. -/
theorem number_any (s : Int) (p : Nat) (w : World) (hc : w.cell? ⟨p, 0, none⟩ = some (.int .u64 s)) (hf : w.frozen? ⟨p, 0, none⟩ = false) :
    Calls Tryd.prog 83 #[.pointer (some ⟨p, 0, none⟩)] w fun e w' => e = .returned (.int .u32 (Dz.num (Dz.lcg s))) ∧ w' = w.setCell ⟨p, 0, none⟩ (.int .u64 (Dz.lcg s)) := by
  go_enter Tryd.func83, Tryd.ntmps83
  go_wp2
  go_ret
  exact ⟨ret_int (num_go s), by rw [lcg_go]⟩

set_option maxHeartbeats 400000 in
theorem numbers_any (s : Int) (w : World) :
    Calls Tryd.prog 53 #[.int .u64 s] w fun e w' => e = .returned (.func (.func 83) #[] #[.pointer (some ⟨w.heap.size, 0, none⟩)]) ∧ w' = w.alloc (.cells #[.int .u64 s] 25) := by
  have hmf : ∀ (fn : Fn) (first cap : Array Value) (w : World), (Instr.makeFunc fn first cap).run Tryd.prog w = .ok (.func fn first cap) w := fun _ _ _ _ => rfl
  go_enter Tryd.func53, Tryd.ntmps53
  go_wp2
  go_ret
  exact ⟨rfl, rfl⟩

theorem bit_go (row t : Nat) (hr : row < 4294967296) : (bits BinOp.and IntKind.u32 ((row : Int) / 2 ^ t) 1 == 1) = row.testBit t := by
  have e : (row : Int) / 2 ^ t = ((row / 2 ^ t : Nat) : Int) := by simp
  have hlt : row / 2 ^ t < 4294967296 := Nat.lt_of_le_of_lt (Nat.div_le_self _ _) hr
  have h := u32_and_nat (row / 2 ^ t) 1 hlt (by decide)
  rw [e, show (1 : Int) = ((1 : Nat) : Int) from rfl, h, Nat.and_one_is_mod, Nat.testBit_eq_decide_div_mod_eq]
  rcases Nat.mod_two_eq_zero_or_one (row / 2 ^ t) with h0 | h0 <;> rw [h0] <;> rfl

set_option maxHeartbeats 400000 in
theorem freeBlock_any (row st K : Nat) (w : World) (hK : 1 ≤ K) (hK2 : K ≤ 32) (hs : st < K) (hr : row < 4294967296) (j : Nat) (hfree : Dz.IsFree row.testBit K st j) :
    Calls Tryd.prog 82 #[.int .u32 row, .int .u32 st, .int .u32 K] w fun e w' => e = .returned (.int .u32 j) ∧ w' = w := by
  obtain ⟨t, ht, hj, hpj, hpu⟩ := hfree
  have HJ : Hid (j = (st + t) % K) := hj
  have HP : Hid (row.testBit j = false) := hpj
  have HU : Hid (∀ u, u < t → row.testBit ((st + u) % K) = true) := hpu
  clear hj hpj hpu
  go_enter Tryd.func82, Tryd.ntmps82
  go_wp2
  go_loop [1] (fun s => ∃ u v : Nat, u ≤ t ∧ Hid (v = (st + u) % K) ∧ v < K ∧ s = .int .u32 v) (fun i => (j + K - (intOf i).toNat) % K)
  case atStart => exact ⟨0, st, Nat.zero_le _, by rw [Hid, Nat.add_zero, Nat.mod_eq_of_lt hs], hs, rfl⟩
  case round =>
    obtain ⟨u, v, hu, HV, hv, rfl⟩ := hrel
    have hbit := bit_go row v hr
    by_cases hut : u = t
    · have hb : (bits BinOp.and IntKind.u32 ((row : Int) / 2 ^ v) 1 == 1) = false := by
        rw [hbit, HV.out, hut, ← HJ.out]; exact HP.out
      have HE : Hid (v = j) := by rw [Hid, HV.out, hut, ← HJ.out]
      clear hbit hut
      go_wp2
      go_ret
      exact ⟨ret_int (by rw [HE.out]), rfl⟩
    · have hb : (bits BinOp.and IntKind.u32 ((row : Int) / 2 ^ v) 1 == 1) = true := by
        rw [hbit, HV.out]; exact HU.out u (by omega)
      clear hbit
      have hlt : u < t := by omega
      clear hut
      have HN : Hid ((v + 1) % K = (st + (u + 1)) % K) := by rw [Hid, HV.out, Nat.mod_add_mod]; rfl
      have hd1 := Dz.dist_eq K st t u ht hu
      have hd2 := Dz.dist_eq K st t (u + 1) ht (by omega)
      rw [← HJ.out, ← HV.out] at hd1
      rw [← HJ.out, ← HN.out] at hd2
      have HM : Hid ((j + K - (v + 1) % K) % K < (j + K - v) % K) := by rw [Hid, hd1, hd2]; omega
      clear hd1 hd2
      go_wp2
      go_round
      case rel => exact ⟨u + 1, (v + 1) % K, by omega, HN, Nat.mod_lt _ (by omega), by simp⟩
      case measure =>
        have e : (((v : Int) + 1) % (K : Int)).toNat = (v + 1) % K := by
          have e' : ((v : Int) + 1) % (K : Int) = (((v + 1) % K : Nat) : Int) := by simp
          rw [e', Int.toNat_natCast]
        simp only [intOf, e, Int.toNat_natCast]; exact HM.out
end Go.Proofs.YtfbbidaoljfloaaDoor


namespace Go.Proofs.YtfbbidaoljfloaaDoor
open Go.RowKit

theorem many_go (K n : Nat) (hK : 1 ≤ K) : ((K : Int) + ((n : Int) % (K : Int) + 1) - 1) / ((n : Int) % (K : Int) + 1) = ((Dz.many K (n % K + 1) : Nat) : Int) := by
  have e : K + (n % K + 1) - 1 = K + n % K := by omega
  unfold Dz.many
  rw [e]
  simp
  congr 1
  omega

theorem pow_go (j : Nat) (hj : j < 32) : (2 : Int) ^ j % 4294967296 = ((2 ^ j : Nat) : Int) := by
  have h : 2 ^ j < 4294967296 := Nat.lt_of_lt_of_le (Nat.pow_lt_pow_right (by decide) hj) (Nat.le_refl (2 ^ 32))
  have e : (2 : Int) ^ j = ((2 ^ j : Nat) : Int) := by simp
  rw [e]
  clear e
  generalize 2 ^ j = x at *
  omega
theorem or_go (row j : Nat) (hr : row < 4294967296) (hj : j < 32) : bits BinOp.or IntKind.u32 (row : Int) (2 ^ j % 4294967296) = ((row ||| 2 ^ j : Nat) : Int) := by
  have h : 2 ^ j < 4294967296 := Nat.lt_of_lt_of_le (Nat.pow_lt_pow_right (by decide) hj) (Nat.le_refl (2 ^ 32))
  rw [pow_go j hj, u32_or_nat row _ hr h]

set_option maxHeartbeats 400000 in
theorem mixedRow_any (p : Nat) (s : Int) (K : Nat) (w : World) (hK : 1 ≤ K) (hK2 : K ≤ 32) (hc : w.cell? ⟨p, 0, none⟩ = some (.int .u64 s)) (hf : w.frozen? ⟨p, 0, none⟩ = false) :
    Calls Tryd.prog 52 #[.func (.func 83) #[] #[.pointer (some ⟨p, 0, none⟩)], .int .u32 K] w fun e w' => e = .returned (.int .u32 (Dz.mixed K s)) ∧ Below p w w' := by
  go_enter Tryd.func52, Tryd.ntmps52
  go_wp2_with fail
  refine (number_any s p _ hc hf).mono ?_
  rintro e w1 ⟨rfl, hw1⟩
  have hn := Dz.num_lt (Dz.lcg s) (Dz.lcg_hi s)
  have hm0 : 0 ≤ ((Dz.num (Dz.lcg s) : Nat) : Int) % (K : Int) := Int.emod_nonneg _ (by omega)
  have hm1 : ((Dz.num (Dz.lcg s) : Nat) : Int) % (K : Int) < K := Int.emod_lt_of_pos _ (by omega)
  have hb1 : Below p w w1 := by rw [hw1]; exact (Below.refl p w).setCell (p := ⟨p, 0, none⟩) (Nat.le_refl p) _
  have hc1 : w1.cell? ⟨p, 0, none⟩ = some (.int .u64 (Dz.lcg s)) := by rw [hw1]; exact World.cell?_setCell_same _ _ _ hc
  have hf1 : w1.frozen? ⟨p, 0, none⟩ = false := by rw [hw1, World.frozen?_setCell]; exact hf
  clear hw1 hc hf
  go_wp2_with fail
  obtain ⟨D, HD⟩ : ∃ D : Nat, Hid (D = Dz.many K (Dz.num (Dz.lcg s) % K + 1)) := ⟨_, rfl⟩
  have hD : ((K : Int) + (((Dz.num (Dz.lcg s) : Nat) : Int) % (K : Int) + 1) - 1) / (((Dz.num (Dz.lcg s) : Nat) : Int) % (K : Int) + 1) = (D : Int) := by rw [HD.out]; exact many_go K _ hK
  have hDK : D ≤ K := by rw [HD.out]; exact Dz.many_le K _ hK (by omega)
  rw [hD]
  clear hD
  have hs1 := Dz.lcg_lo s
  have hs2 := Dz.lcg_hi s
  obtain ⟨s1, HS⟩ : ∃ s1, Hid (s1 = Dz.lcg s) := ⟨_, rfl⟩
  rw [← HS.out] at hc1
  go_loopw [7, 20] (fun r c wr => ∃ i : Nat, i ≤ D ∧ r = .int .u32 (Dz.rowAt K s1 i) ∧ c = .int .u32 i ∧ wr.cell? ⟨p, 0, none⟩ = some (.int .u64 (Dz.seedAt s1 i)) ∧ wr.frozen? ⟨p, 0, none⟩ = false ∧ Below p w wr)
    (fun _ c _ => D - (intOf c).toNat)
  case atStart => exact ⟨0, Nat.zero_le _, rfl, rfl, hc1, hf1, hb1⟩
  case round =>
    obtain ⟨i, hi, rfl, rfl, hcr, hfr, hbr⟩ := hrel
    clear hc1 hf1 hb1
    by_cases hlt : i < D
    · go_wp2_with fail
      refine (number_any _ p _ hcr hfr).mono ?_
      rintro e w2 ⟨rfl, hw2⟩
      have hcw : w2.cell? ⟨p, 0, none⟩ = some (.int .u64 (Dz.seedAt s1 (i + 1))) := by rw [hw2]; exact World.cell?_setCell_same _ _ _ hcr
      have hfw : w2.frozen? ⟨p, 0, none⟩ = false := by rw [hw2, World.frozen?_setCell]; exact hfr
      have hbw : Below p w w2 := by rw [hw2]; exact hbr.setCell (p := ⟨p, 0, none⟩) (Nat.le_refl p) _
      clear hw2 hcr hfr hbr
      obtain ⟨n, HN⟩ : ∃ n, Hid (Dz.num (Dz.seedAt s1 (i + 1)) = n) := ⟨_, rfl⟩
      rw [show Dz.num (Dz.lcg (Dz.seedAt s1 i)) = n from HN.out]
      have hn0 : 0 ≤ (n : Int) % (K : Int) := Int.emod_nonneg _ (by omega)
      have hn1 : (n : Int) % (K : Int) < K := Int.emod_lt_of_pos _ (by omega)
      have hfree := Dz.rowAt_free K s1 hK i (by omega)
      have hjK := Dz.isFree_lt hK hfree
      have hrow := Dz.rowAt_lt K s1 hK i (by omega)
      have hpK := Dz.pow_K K hK2
      obtain ⟨j, HJ⟩ : ∃ j, Hid (Dz.fb (Dz.rowAt K s1 i).testBit K K (Dz.num (Dz.seedAt s1 (i + 1)) % K) = j) := ⟨_, rfl⟩
      rw [HJ.out] at hfree hjK
      rw [HN.out] at hfree
      have HF := hfree
      clear hfree
      go_wp2_with fail
      rw [show (n : Int) % (K : Int) = ((n % K : Nat) : Int) by simp]
      refine (freeBlock_any (Dz.rowAt K s1 i) (n % K) K _ hK hK2 (Nat.mod_lt _ (by omega)) (by omega) j HF).mono ?_
      rintro e w3 ⟨rfl, rfl⟩
      go_wp2
      go_roundw
      case rel =>
        refine ⟨i + 1, by omega, ?_, by go_num, hcw, hfw, hbw⟩
        rw [or_go _ j (by omega) (by omega)]
        show _ = Value.int .u32 ((Dz.rowAt K s1 i ||| 2 ^ Dz.fb (Dz.rowAt K s1 i).testBit K K (Dz.num (Dz.seedAt s1 (i + 1)) % K) : Nat) : Int)
        rw [HJ.out]
      case measure => simp [intOf]; omega
    · have HI : Hid (i = D) := by rw [Hid]; omega
      go_wp2
      go_ret
      refine ⟨ret_int ?_, hbr⟩
      rw [HI.out, HD.out, HS.out]
      rfl
set_option maxHeartbeats 400000 in
theorem row_bad (nonce blocks id : Int) (w : World) (h : ¬ (1 ≤ blocks ∧ blocks ≤ 32 ∧ 0 ≤ id ∧ id < 1048576)) :
    Calls Tryd.prog 27 #[.int .u64 nonce, .int .i64 blocks, .int .i64 id] w fun e w' => e = .returned (.tuple #[.int .u32 0, .int .i64 1]) ∧ w' = w := by
  by_cases h1 : blocks < 1
  · go_enter Tryd.func27, Tryd.ntmps27
    go_wp2
    go_ret2
    exact ⟨rfl, rfl⟩
  · by_cases h2 : 32 < blocks
    · go_enter Tryd.func27, Tryd.ntmps27
      go_wp2
      go_ret2
      exact ⟨rfl, rfl⟩
    · by_cases h3 : id < 0
      · go_enter Tryd.func27, Tryd.ntmps27
        go_wp2
        go_ret2
        exact ⟨rfl, rfl⟩
      · have h4 : 1048576 ≤ id := by omega
        go_enter Tryd.func27, Tryd.ntmps27
        go_wp2
        go_ret2
        exact ⟨rfl, rfl⟩

theorem seed_go (nonce id : Int) : IntKind.u64.wrap (nonce + IntKind.u64.wrap (id * 11400714819323198485)) = Dz.seed0 nonce id := by
  rw [u64w, u64w]; unfold Dz.seed0; omega

theorem ret_row {a b : Int} (h : a = b) : Ending.returned (.tuple #[.int .u32 a, .int .i64 0]) = .returned (.tuple #[.int .u32 b, .int .i64 0]) := by rw [h]

theorem plain_go (nonce id : Int) (K : Nat) (hK : 1 ≤ K) (hK2 : K ≤ 32) (hi0 : 0 ≤ id) (h4 : id % 4 = 0) :
    (2 : Int) ^ (id / 4 % (K : Int)).toNat % 4294967296 = ((Dz.rowOf nonce K id : Nat) : Int) := by
  have e : (id / 4 % (K : Int)).toNat = (id / 4).toNat % K := by
    obtain ⟨m, hm⟩ : ∃ m : Nat, id / 4 = (m : Int) := ⟨(id / 4).toNat, by omega⟩
    rw [hm, Int.toNat_natCast, show (m : Int) % (K : Int) = ((m % K : Nat) : Int) by simp, Int.toNat_natCast]
  have hlt : (id / 4).toNat % K < K := Nat.mod_lt _ (by omega)
  rw [Dz.rowOf, if_pos h4, e, pow_go _ (by omega)]

set_option maxHeartbeats 400000 in
theorem row_plain (nonce id : Int) (K : Nat) (w : World) (hK : 1 ≤ K) (hK2 : K ≤ 32) (hi0 : 0 ≤ id) (hi1 : id < 1048576) (h4 : id % 4 = 0) :
    Calls Tryd.prog 27 #[.int .u64 nonce, .int .i64 K, .int .i64 id] w fun e w' => e = .returned (.tuple #[.int .u32 (Dz.rowOf nonce K id), .int .i64 0]) ∧ w' = w := by
  have hj0 : 0 ≤ id / 4 % (K : Int) := Int.emod_nonneg _ (by omega)
  have hj1 : id / 4 % (K : Int) < (K : Int) := Int.emod_lt_of_pos _ (by omega)
  go_enter Tryd.func27, Tryd.ntmps27
  go_wp2
  go_ret2
  exact ⟨ret_row (plain_go nonce id K hK hK2 hi0 h4), rfl⟩

set_option maxHeartbeats 400000 in
theorem row_mixed (nonce id : Int) (K : Nat) (w : World) (hK : 1 ≤ K) (hK2 : K ≤ 32) (hi0 : 0 ≤ id) (hi1 : id < 1048576) (h4 : (id % 4 == 0) = false) :
    Calls Tryd.prog 27 #[.int .u64 nonce, .int .i64 K, .int .i64 id] w fun e w' => e = .returned (.tuple #[.int .u32 (Dz.rowOf nonce K id), .int .i64 0]) ∧ Below w.heap.size w w' := by
  have HR : Hid (Dz.rowOf nonce K id = Dz.mixed K (Dz.seed0 nonce id)) := by
    rw [Hid, Dz.rowOf, if_neg]; simpa using h4
  go_enter Tryd.func27, Tryd.ntmps27
  go_wp2_with fail
  rw [seed_go]
  refine (numbers_any _ _).mono ?_
  rintro e w1 ⟨rfl, hw1⟩
  have hc1 : w1.cell? ⟨w.heap.size, 0, none⟩ = some (.int .u64 (Dz.seed0 nonce id)) := by rw [hw1]; simp
  have hf1 : w1.frozen? ⟨w.heap.size, 0, none⟩ = false := by rw [hw1]; simp
  have hb1 : Below w.heap.size w w1 := by rw [hw1]; exact (Below.refl _ _).alloc (Nat.le_refl _) _
  clear hw1
  go_wp2_with fail
  refine (mixedRow_any _ _ K _ hK hK2 hc1 hf1).mono ?_
  rintro e w2 ⟨rfl, hb2⟩
  go_wp2
  go_ret2
  exact ⟨ret_row (by rw [HR.out]), hb1.trans hb2⟩

theorem row_any (nonce id : Int) (K : Nat) (w : World) (hK : 1 ≤ K) (hK2 : K ≤ 32) (hi0 : 0 ≤ id) (hi1 : id < 1048576) :
    Calls Tryd.prog 27 #[.int .u64 nonce, .int .i64 K, .int .i64 id] w fun e w' => e = .returned (.tuple #[.int .u32 (Dz.rowOf nonce K id), .int .i64 0]) ∧ Below w.heap.size w w' := by
  by_cases h4 : id % 4 = 0
  · refine (row_plain nonce id K w hK hK2 hi0 hi1 h4).mono ?_
    rintro e w' ⟨rfl, rfl⟩
    exact ⟨rfl, Below.refl _ _⟩
  · exact row_mixed nonce id K w hK hK2 hi0 hi1 (by simpa using h4)
end Go.Proofs.YtfbbidaoljfloaaDoor
