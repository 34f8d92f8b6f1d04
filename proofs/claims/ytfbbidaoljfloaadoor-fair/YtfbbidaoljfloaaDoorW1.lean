import Derived.Test.YtfbbidaoljfloaaDoorRows
import Derived.Test.YtfbbidaoljfloaaDoorNum
import Derived.WalkKit
import Derived.WalkSpells
import Derived.WalkLawsBesides
import Derived.Laws.BitsAllLaws
namespace Go.Proofs.YtfbbidaoljfloaaDoor
open Go.RowKit

theorem ret_int {k : IntKind} {a b : Int} (h : a = b) : Ending.returned (.int k a) = .returned (.int k b) := by rw [h]
theorem u64w (n : Int) : IntKind.u64.wrap n = n % 18446744073709551616 := IntKind.wrap_u64 n
theorem tmod32 (n : Int) : (n % 18446744073709551616).tmod 4294967296 = n % 18446744073709551616 % 4294967296 := Int.tmod_eq_emod_of_nonneg (by omega)

set_option maxHeartbeats 400000 in
theorem times_any (a b : Int) (w : World) (ha0 : 0 ≤ a) (ha : a < 18446744073709551616) (hb0 : 0 ≤ b) (hb : b < 18446744073709551616) :
    Calls Tryd.prog 85 #[.int .u64 a, .int .u64 b] w fun e w' => e = .returned (.int .u64 (a * b % 18446744073709551616)) ∧ w' = w := by
  go_enter Tryd.func85, Tryd.ntmps85
  go_wp2
  go_ret
  refine ⟨ret_int ?_, rfl⟩
  simp only [u64w, tmod32]
  exact Dz.times_eq a b

theorem lcg_go (s : Int) : IntKind.u64.wrap (IntKind.u64.wrap (s * 6364136223846793005) + 1442695040888963407) = Dz.lcg s := by
  rw [u64w, u64w, Dz.lcg_wrap]
theorem num_go (s : Int) : IntKind.u64.wrap (IntKind.u64.wrap (s * 6364136223846793005) + 1442695040888963407) / 4294967296 % 4294967296 = (Dz.num (Dz.lcg s) : Int) := by
  have h1 := Dz.lcg_lo s
  have h2 := Dz.lcg_hi s
  rw [lcg_go, Dz.num_cast _ h1]
  omega

set_option maxHeartbeats 400000 in
/-- One call of the closure: the next number; the cell that it keeps holds the next seed. -/
theorem number_any (s : Int) (p : Nat) (w : World) (hc : w.cell? ⟨p, 0, none⟩ = some (.int .u64 s)) (hf : w.frozen? ⟨p, 0, none⟩ = false) :
    Calls Tryd.prog 83 #[.pointer (some ⟨p, 0, none⟩)] w fun e w' => e = .returned (.int .u32 (Dz.num (Dz.lcg s))) ∧ w' = w.setCell ⟨p, 0, none⟩ (.int .u64 (Dz.lcg s)) := by
  go_enter Tryd.func83, Tryd.ntmps83
  go_wp2
  go_ret
  exact ⟨ret_int (num_go s), by rw [lcg_go]⟩

set_option maxHeartbeats 400000 in
theorem numbers_any (s : Int) (w : World) :
    Calls Tryd.prog 53 #[.int .u64 s] w fun e w' => e = .returned (.func (.func 83) #[] #[.pointer (some ⟨w.heap.size, 0, none⟩)]) ∧ w' = w.alloc (.cells #[.int .u64 s] 25) := by
  have hmf : ∀ (fn : Fn) (first cap : Array Value) (w : World), (Instr.makeFunc fn first cap).run Tryd.prog w = .ok (.func fn first cap) w := fun _ _ _ _ => rfl
  go_enter Tryd.func53, Tryd.ntmps53
  go_wp2
  go_ret
  exact ⟨rfl, rfl⟩

theorem bit_go (row t : Nat) (hr : row < 4294967296) : (bits BinOp.and IntKind.u32 ((row : Int) / 2 ^ t) 1 == 1) = row.testBit t := by
  have e : (row : Int) / 2 ^ t = ((row / 2 ^ t : Nat) : Int) := by simp
  have hlt : row / 2 ^ t < 4294967296 := Nat.lt_of_le_of_lt (Nat.div_le_self _ _) hr
  have h := u32_and_nat (row / 2 ^ t) 1 hlt (by decide)
  rw [e, show (1 : Int) = ((1 : Nat) : Int) from rfl, h, Nat.and_one_is_mod, Nat.testBit_eq_decide_div_mod_eq]
  rcases Nat.mod_two_eq_zero_or_one (row / 2 ^ t) with h0 | h0 <;> rw [h0] <;> rfl

set_option maxHeartbeats 400000 in
theorem freeBlock_any (row st K : Nat) (w : World) (hK : 1 ≤ K) (hK2 : K ≤ 32) (hs : st < K) (hr : row < 4294967296) (j : Nat) (hfree : Dz.IsFree row.testBit K st j) :
    Calls Tryd.prog 82 #[.int .u32 row, .int .u32 st, .int .u32 K] w fun e w' => e = .returned (.int .u32 j) ∧ w' = w := by
  obtain ⟨t, ht, hj, hpj, hpu⟩ := hfree
  have HJ : Hid (j = (st + t) % K) := hj
  have HP : Hid (row.testBit j = false) := hpj
  have HU : Hid (∀ u, u < t → row.testBit ((st + u) % K) = true) := hpu
  clear hj hpj hpu
  go_enter Tryd.func82, Tryd.ntmps82
  go_wp2
  go_loop [1] (fun s => ∃ u v : Nat, u ≤ t ∧ Hid (v = (st + u) % K) ∧ v < K ∧ s = .int .u32 v) (fun i => (j + K - (intOf i).toNat) % K)
  case atStart => exact ⟨0, st, Nat.zero_le _, by rw [Hid, Nat.add_zero, Nat.mod_eq_of_lt hs], hs, rfl⟩
  case round =>
    obtain ⟨u, v, hu, HV, hv, rfl⟩ := hrel
    have hbit := bit_go row v hr
    by_cases hut : u = t
    · have hb : (bits BinOp.and IntKind.u32 ((row : Int) / 2 ^ v) 1 == 1) = false := by
        rw [hbit, HV.out, hut, ← HJ.out]; exact HP.out
      have HE : Hid (v = j) := by rw [Hid, HV.out, hut, ← HJ.out]
      clear hbit hut
      go_wp2
      go_ret
      exact ⟨ret_int (by rw [HE.out]), rfl⟩
    · have hb : (bits BinOp.and IntKind.u32 ((row : Int) / 2 ^ v) 1 == 1) = true := by
        rw [hbit, HV.out]; exact HU.out u (by omega)
      clear hbit
      have hlt : u < t := by omega
      clear hut
      have HN : Hid ((v + 1) % K = (st + (u + 1)) % K) := by rw [Hid, HV.out, Nat.mod_add_mod]; rfl
      have hd1 := Dz.dist_eq K st t u ht hu
      have hd2 := Dz.dist_eq K st t (u + 1) ht (by omega)
      rw [← HJ.out, ← HV.out] at hd1
      rw [← HJ.out, ← HN.out] at hd2
      have HM : Hid ((j + K - (v + 1) % K) % K < (j + K - v) % K) := by rw [Hid, hd1, hd2]; omega
      clear hd1 hd2
      go_wp2
      go_round
      case rel => exact ⟨u + 1, (v + 1) % K, by omega, HN, Nat.mod_lt _ (by omega), by simp⟩
      case measure =>
        have e : (((v : Int) + 1) % (K : Int)).toNat = (v + 1) % K := by
          have e' : ((v : Int) + 1) % (K : Int) = (((v + 1) % K : Nat) : Int) := by simp
          rw [e', Int.toNat_natCast]
        simp only [intOf, e, Int.toNat_natCast]; exact HM.out
end Go.Proofs.YtfbbidaoljfloaaDoor
