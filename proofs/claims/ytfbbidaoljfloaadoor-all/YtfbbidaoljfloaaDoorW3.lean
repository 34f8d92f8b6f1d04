import Derived.Test.YtfbbidaoljfloaaDoorJ3
import Derived.Deep.OwnRows
namespace Go.Proofs.YtfbbidaoljfloaaDoor
open Go.RowKit Go.Deep

theorem Tryd.infoBool : (Tryd.prog.info? 4).map (fun i => (i.zero, i.size, i.bytes)) = some (some (.bool false), 1, 1) := by kernel_rfl

theorem ret_two {a b : Int} {c d : Int} (h : a = b) (g : c = d) : Ending.returned (.tuple #[.int .u64 a, .int .u64 c]) = .returned (.tuple #[.int .u64 b, .int .u64 d]) := by rw [h, g]

theorem lcg_ref (s : Int) : IntKind.u64.wrap (s * 6364136223846793005 % 18446744073709551616 + 1442695040888963407) = Dz.lcg s := by
  rw [u64w, Dz.lcg_wrap]

theorem num_ref (s : Int) : IntKind.u64.wrap ((IntKind.u64.wrap (s * 6364136223846793005 % 18446744073709551616 + 1442695040888963407)).tdiv 4294967296) = ((Dz.num (Dz.lcg s) : Nat) : Int) := by
  have h1 := Dz.lcg_lo s
  have h2 := Dz.lcg_hi s
  rw [lcg_ref, Int.tdiv_eq_ediv_of_nonneg h1, u64w, Dz.num_cast _ h1]
  omega

set_option maxHeartbeats 400000 in
theorem next_any (s : Int) (w : World) (hs0 : 0 ≤ s) (hs : s < 18446744073709551616) :
    Calls Tryd.prog 84 #[.int .u64 s] w fun e w' => e = .returned (.tuple #[.int .u64 (Dz.lcg s), .int .u64 (Dz.num (Dz.lcg s))]) ∧ w' = w := by
  go_enter Tryd.func84, Tryd.ntmps84
  go_wp2_with fail
  refine (times_any s 6364136223846793005 _ hs0 hs (by decide) (by decide)).mono ?_
  rintro e w1 ⟨rfl, rfl⟩
  go_wp2
  go_ret2
  exact ⟨ret_two (lcg_ref s) (num_ref s), rfl⟩

set_option maxHeartbeats 400000 in
theorem refRow_bad (nonce blocks id : Int) (w : World) (h : ¬ (1 ≤ blocks ∧ blocks ≤ 32 ∧ 0 ≤ id ∧ id < 1048576)) :
    Calls Tryd.prog 55 #[.int .u64 nonce, .int .i64 blocks, .int .i64 id] w fun e w' => e = .returned (.tuple #[.slice none 0 0, .bool false]) ∧ w' = w := by
  by_cases h1 : blocks < 1
  · go_enter Tryd.func55, Tryd.ntmps55
    go_wp2
    go_ret2
    exact ⟨rfl, rfl⟩
  · by_cases h2 : 32 < blocks
    · go_enter Tryd.func55, Tryd.ntmps55
      go_wp2
      go_ret2
      exact ⟨rfl, rfl⟩
    · by_cases h3 : id < 0
      · go_enter Tryd.func55, Tryd.ntmps55
        go_wp2
        go_ret2
        exact ⟨rfl, rfl⟩
      · have h4 : 1048576 ≤ id := by omega
        go_enter Tryd.func55, Tryd.ntmps55
        go_wp2
        go_ret2
        exact ⟨rfl, rfl⟩

set_option maxHeartbeats 400000 in
theorem refRow_plain (nonce id : Int) (K : Nat) (w : World) (hK : 1 ≤ K) (hK2 : K ≤ 32) (hi0 : 0 ≤ id) (hi1 : id < 1048576) (h4 : id % 4 = 0) :
    Calls Tryd.prog 55 #[.int .u64 nonce, .int .i64 K, .int .i64 id] w fun e w' => e = .returned (.tuple #[.slice (some ⟨w.heap.size, 0, none⟩) K K, .bool true]) ∧ Below w.heap.size w w' ∧ w'.rowIs w.heap.size 4 K (fun j => .bool ((Dz.rowOf nonce K id).testBit j)) := by
  have hmk := fun w => run_make_row' (P := Tryd.prog) 76 4 (.bool false) 1 Tryd.underlying76 Tryd.infoBool rfl .i64 .i64 K (by omega) (by omega) w
  obtain ⟨j, HJ⟩ : ∃ j : Nat, Hid (id / 4 % (K : Int) = (j : Int)) := ⟨(id / 4 % (K : Int)).toNat, by rw [Hid]; have := Int.emod_nonneg (id / 4) (show (K : Int) ≠ 0 by omega); omega⟩
  have hjK : j < K := by have := Int.emod_lt_of_pos (id / 4) (show 0 < (K : Int) by omega); rw [HJ.out] at this; omega
  have hrow := World.rowIs_made w (.bool false) K 4
  have hj0 : 0 ≤ id / 4 % (K : Int) := by rw [HJ.out]; omega
  have hj1 : id / 4 % (K : Int) < (K : Int) := by rw [HJ.out]; omega
  have hjn : (id / 4 % (K : Int)).toNat = j := by rw [HJ.out]; omega
  have hcw := hrow.cell (i := j) hjK
  have hfw := hrow.frozen j
  have hwe : (w.alloc (.cells (madeCells #[.bool false] K) 4)).setCell ⟨w.heap.size, j, none⟩ (.bool true) = w.alloc (.cells ((madeCells #[.bool false] K).setIfInBounds j (.bool true)) 4) := by simp [go_sem]
  have HR : Hid ((w.alloc (.cells ((madeCells #[.bool false] K).setIfInBounds j (.bool true)) 4)).rowIs w.heap.size 4 K (fun i => .bool ((Dz.rowOf nonce K id).testBit i))) := by
    rw [Hid, ← hwe]
    refine (hrow.set j (.bool true)).congr fun i _ => ?_
    rw [Dz.rowOf_plain nonce K id j hi0 h4 HJ.out, Dz.bit_pow]
    by_cases h : i = j <;> simp [h]
  have HB : Hid (Below w.heap.size w (w.alloc (.cells ((madeCells #[.bool false] K).setIfInBounds j (.bool true)) 4))) :=
    (Below.refl _ _).alloc (Nat.le_refl _) _
  clear hrow hwe
  go_enter Tryd.func55, Tryd.ntmps55
  go_wp2_with fail
  go_ret2
  exact ⟨rfl, HB.out, HR.out⟩

theorem seed_ref (nonce id : Int) : IntKind.u64.wrap (nonce + id * 11400714819323198485 % 18446744073709551616) = Dz.seed0 nonce id := by
  rw [u64w]; unfold Dz.seed0; omega

set_option maxHeartbeats 1000000 in
theorem refRow_mixed (nonce id : Int) (K : Nat) (w : World) (hK : 1 ≤ K) (hK2 : K ≤ 32) (hi0 : 0 ≤ id) (hi1 : id < 1048576) (h4 : (id % 4 == 0) = false) :
    Calls Tryd.prog 55 #[.int .u64 nonce, .int .i64 K, .int .i64 id] w fun e w' => e = .returned (.tuple #[.slice (some ⟨w.heap.size, 0, none⟩) K K, .bool true]) ∧ Below w.heap.size w w' ∧ w'.rowIs w.heap.size 4 K (fun j => .bool ((Dz.rowOf nonce K id).testBit j)) := by
  have hmk := fun w => run_make_row' (P := Tryd.prog) 76 4 (.bool false) 1 Tryd.underlying76 Tryd.infoBool rfl .i64 .i64 K (by omega) (by omega) w
  have HR : Hid (Dz.rowOf nonce K id = Dz.mixed K (Dz.seed0 nonce id)) := by
    rw [Hid, Dz.rowOf, if_neg]; simpa using h4
  have hrow := World.rowIs_made w (.bool false) K 4
  have hbel : Below w.heap.size w (w.alloc (.cells (madeCells #[.bool false] K) 4)) := (Below.refl _ _).alloc (Nat.le_refl _) _
  go_enter Tryd.func55, Tryd.ntmps55
  go_wp2_with fail
  refine (times_any id 11400714819323198485 _ hi0 (by omega) (by decide) (by decide)).mono ?_
  rintro e w1 ⟨rfl, hw1⟩
  rw [← hw1] at hrow hbel
  clear hw1 hmk
  have hs0 := Dz.seed0_lo nonce id
  have hs1 := Dz.seed0_hi nonce id
  go_wp2_with fail
  rw [seed_ref]
  refine (next_any (Dz.seed0 nonce id) _ hs0 hs1).mono ?_
  rintro e w2 ⟨rfl, hw2⟩
  subst hw2
  obtain ⟨s1, HS⟩ : ∃ s1, Hid (Dz.lcg (Dz.seed0 nonce id) = s1) := ⟨_, rfl⟩
  have ht0 := Dz.lcg_lo (Dz.seed0 nonce id)
  have ht1 := Dz.lcg_hi (Dz.seed0 nonce id)
  obtain ⟨n, HN⟩ : ∃ n, Hid (Dz.num s1 = n) := ⟨_, rfl⟩
  rw [HS.out] at ht0 ht1
  have hn := Dz.num_lt s1 ht1
  rw [HS.out, HN.out]
  rw [HN.out] at hn
  have hm0 : 0 ≤ (n : Int) % (K : Int) := Int.emod_nonneg _ (by omega)
  have hm1 : (n : Int) % (K : Int) < K := Int.emod_lt_of_pos _ (by omega)
  clear hs0 hs1
  go_wp2_with fail
  obtain ⟨R, HRr⟩ : ∃ R : Nat, Hid (R = n % K + 1) := ⟨_, rfl⟩
  have hR : (n : Int) % (K : Int) + 1 = (R : Int) := by rw [HRr.out]; simp
  have hR1 : 1 ≤ R := by rw [HRr.out]; omega
  have hR2 : R ≤ K := by rw [HRr.out]; have := Nat.mod_lt n (show K > 0 by omega); omega
  rw [hR]
  clear hR hm0 hm1
  obtain ⟨D, HD⟩ : ∃ D, Hid (D = Dz.many K R) := ⟨_, rfl⟩
  have hDK : D ≤ K := by rw [HD.out]; exact Dz.many_le K R hK hR1
  go_loop [12] (fun d => ∃ k : Nat, k ≤ D ∧ d = .int .i64 k) (fun d => D - (intOf d).toNat)
  case atStart => exact ⟨0, Nat.zero_le _, rfl⟩
  case round =>
    obtain ⟨k, hk, rfl⟩ := hrel
    have hp0 : 0 ≤ (k : Int) * (R : Int) := Int.mul_nonneg (by omega) (by omega)
    have hp1 : (k : Int) * (R : Int) ≤ 1024 := by
      have h : k * R ≤ 32 * 32 := Nat.mul_le_mul (by omega) (by omega)
      have e : (k : Int) * (R : Int) = ((k * R : Nat) : Int) := by simp
      rw [e]; omega
    by_cases hlt : (k : Int) * (R : Int) < (K : Int)
    · have hlt' : k * R < K := by
        have e : (k : Int) * (R : Int) = ((k * R : Nat) : Int) := by simp
        rw [e] at hlt; omega
      have hmore : k + 1 ≤ D := by rw [HD.out]; exact Dz.many_more K R k hR1 hlt'
      clear hlt'
      go_wp2
      go_round
      case rel => exact ⟨k + 1, hmore, by go_num⟩
      case measure => simp [intOf]; omega
    · have hge : K ≤ k * R := by
        have e : (k : Int) * (R : Int) = ((k * R : Nat) : Int) := by simp
        rw [e] at hlt; omega
      obtain rfl : k = D := by rw [HD.out]; exact Dz.many_end K R k hR1 hge (by rw [← HD.out]; exact hk)
      clear hge
      go_wp2_with fail
      go_loopw [9, 12] (fun sd d wr => ∃ i : Nat, i ≤ k ∧ sd = .int .u64 (Dz.seedAt s1 i) ∧ d = .int .i64 ((k - i : Nat) : Int) ∧ wr.rowIs w.heap.size 4 K (fun j => .bool ((Dz.rowAt K s1 i).testBit j)) ∧ Below w.heap.size w wr)
        (fun _ d _ => (intOf d).toNat)
      case atStart => exact ⟨0, Nat.zero_le _, rfl, rfl, hrow.congr (fun j _ => by simp [Dz.rowAt]), hbel⟩
      case round =>
        clear hrow hbel hlt hp0 hp1
        obtain ⟨i, hi, rfl, rfl, hrow, hbel⟩ := hrel
        by_cases hlt : i < k
        · have hpos : 0 < ((k - i : Nat) : Int) := by omega
          go_wp2_with fail
          refine (next_any (Dz.seedAt s1 i) _ (Dz.seedAt_lo s1 ht0 i) (Dz.seedAt_hi s1 ht1 i)).mono ?_
          rintro e w3 ⟨rfl, hw3⟩
          subst hw3
          obtain ⟨m, HM⟩ : ∃ m, Hid (Dz.num (Dz.seedAt s1 (i + 1)) = m) := ⟨_, rfl⟩
          have hm := Dz.num_lt (Dz.seedAt s1 (i + 1)) (Dz.lcg_hi _)
          have hfree := Dz.rowAt_free K s1 hK i (by omega)
          have hjK := Dz.isFree_lt hK hfree
          obtain ⟨j, HJ⟩ : ∃ j, Hid (Dz.fb (Dz.rowAt K s1 i).testBit K K (Dz.num (Dz.seedAt s1 (i + 1)) % K) = j) := ⟨_, rfl⟩
          rw [HJ.out] at hfree hjK
          rw [HM.out] at hfree hm
          rw [show Dz.num (Dz.lcg (Dz.seedAt s1 i)) = m from HM.out]
          have hst : m % K < K := Nat.mod_lt _ (by omega)
          obtain ⟨st, HST⟩ : ∃ st, Hid (m % K = st) := ⟨_, rfl⟩
          rw [HST.out] at hfree hst
          have hm0 : 0 ≤ (m : Int) % (K : Int) := Int.emod_nonneg _ (by omega)
          have hm1 : (m : Int) % (K : Int) < K := Int.emod_lt_of_pos _ (by omega)
          obtain ⟨t, ht, hjt, hpj, hpu⟩ := hfree
          have HJT : Hid (j = (st + t) % K) := hjt
          have HP : Hid ((Dz.rowAt K s1 i).testBit j = false) := hpj
          have HU : Hid (∀ u, u < t → (Dz.rowAt K s1 i).testBit ((st + u) % K) = true) := hpu
          clear hjt hpj hpu
          go_wp2_with fail
          rw [show (m : Int) % (K : Int) = (st : Int) by rw [← HST.out]; simp]
          clear hm0 hm1
          go_loop [13] (fun x => ∃ u v : Nat, u ≤ t ∧ Hid (v = (st + u) % K) ∧ v < K ∧ x = .int .i64 v) (fun x => (j + K - (intOf x).toNat) % K)
          case atStart => exact ⟨0, st, Nat.zero_le _, by rw [Hid, Nat.add_zero, Nat.mod_eq_of_lt hst], hst, rfl⟩
          case round =>
            obtain ⟨u, v, hu, HV, hv, rfl⟩ := hrel
            have hcell := hrow.cell (i := v) hv
            have hfroz := hrow.frozen v
            by_cases hut : u = t
            · have hb : (Dz.rowAt K s1 i).testBit v = false := by rw [HV.out, hut, ← HJT.out]; exact HP.out
              have HE : Hid (v = j) := by rw [Hid, HV.out, hut, ← HJT.out]
              rw [hb] at hcell
              clear hb
              have hrow' := (hrow.set v (.bool true)).congr (g := fun x => .bool ((Dz.rowAt K s1 (i + 1)).testBit x)) (fun x _ => by
                show _ = Value.bool ((Dz.rowAt K s1 i ||| 2 ^ Dz.fb (Dz.rowAt K s1 i).testBit K K (Dz.num (Dz.seedAt s1 (i + 1)) % K)).testBit x)
                rw [HJ.out, ← HE.out, Dz.bit_new]
                by_cases h : x = v <;> simp [h])
              have hbel' := hbel.setCell (p := ⟨w.heap.size, v, none⟩) (Nat.le_refl _) (.bool true)
              clear hrow hbel
              go_wp2
              go_roundw
              case rel => exact ⟨i + 1, by omega, rfl, by go_num, hrow', hbel'⟩
              case measure => simp [intOf]; omega
            · have hb : (Dz.rowAt K s1 i).testBit v = true := by rw [HV.out]; exact HU.out u (by omega)
              rw [hb] at hcell
              clear hb
              have hltu : u < t := by omega
              clear hut
              have HNx : Hid ((v + 1) % K = (st + (u + 1)) % K) := by rw [Hid, HV.out, Nat.mod_add_mod]; rfl
              have hd1 := Dz.dist_eq K st t u ht hu
              have hd2 := Dz.dist_eq K st t (u + 1) ht (by omega)
              rw [← HJT.out, ← HV.out] at hd1
              rw [← HJT.out, ← HNx.out] at hd2
              have HMs : Hid ((j + K - (v + 1) % K) % K < (j + K - v) % K) := by rw [Hid, hd1, hd2]; omega
              clear hd1 hd2
              by_cases hwrap : v + 1 = K
              · have hw1 : ((v : Int) + 1 == (K : Int)) = true := by rw [beq_iff_eq]; omega
                have HZ : Hid ((v + 1) % K = 0) := by rw [Hid, hwrap, Nat.mod_self]
                clear hwrap
                go_wp2
                go_round
                case rel => exact ⟨u + 1, 0, by omega, by rw [Hid, ← HNx.out, HZ.out], by omega, rfl⟩
                case measure => have := HMs.out; rw [HZ.out] at this; simpa [intOf] using this
              · have hw1 : ((v : Int) + 1 == (K : Int)) = false := by rw [beq_eq_false_iff_ne]; omega
                have HZ : Hid ((v + 1) % K = v + 1) := by rw [Hid, Nat.mod_eq_of_lt (by omega)]
                have hv1 : v + 1 < K := by omega
                clear hwrap
                go_wp2
                go_round
                case rel => exact ⟨u + 1, v + 1, by omega, by rw [Hid, ← HNx.out, HZ.out], hv1, by go_num⟩
                case measure => have := HMs.out; rw [HZ.out] at this; simpa [intOf] using this
        · have HI : Hid (i = k) := by rw [Hid]; omega
          have hz : ((k - i : Nat) : Int) = 0 := by omega
          go_wp2
          go_ret2
          refine ⟨rfl, hbel, ?_⟩
          rw [HR.out, Dz.mixed, HS.out, HN.out, ← HRr.out, ← HD.out, ← HI.out]
          exact hrow

theorem refRow_any (nonce id : Int) (K : Nat) (w : World) (hK : 1 ≤ K) (hK2 : K ≤ 32) (hi0 : 0 ≤ id) (hi1 : id < 1048576) :
    Calls Tryd.prog 55 #[.int .u64 nonce, .int .i64 K, .int .i64 id] w fun e w' => e = .returned (.tuple #[.slice (some ⟨w.heap.size, 0, none⟩) K K, .bool true]) ∧ Below w.heap.size w w' ∧ w'.rowIs w.heap.size 4 K (fun j => .bool ((Dz.rowOf nonce K id).testBit j)) := by
  by_cases h4 : id % 4 = 0
  · exact refRow_plain nonce id K w hK hK2 hi0 hi1 h4
  · exact refRow_mixed nonce id K w hK hK2 hi0 hi1 (by simpa using h4)

set_option maxHeartbeats 400000 in
theorem number_row (row K g : Nat) (w : World) (hK2 : K ≤ 32) (hr : row < 2 ^ K) (hrow : w.rowIs g 4 K (fun j => .bool (row.testBit j))) :
    Calls Tryd.prog 57 #[.slice (some ⟨g, 0, none⟩) K K] w fun e w' => e = .returned (.int .u32 row) ∧ w' = w := by
  have hr32 : row < 4294967296 := Nat.lt_of_lt_of_le hr (Dz.pow_K K hK2)
  go_enter Tryd.func57, Tryd.ntmps57
  go_wp2_with fail
  go_loop [3, 4] (fun v j => ∃ i : Nat, i ≤ K ∧ v = .int .u32 ((row / 2 ^ i : Nat) : Int) ∧ j = .int .i64 ((i : Int) - 1)) (fun _ j => (intOf j + 1).toNat)
  case atStart => exact ⟨K, Nat.le_refl _, by rw [Nat.div_eq_of_lt hr]; rfl, rfl⟩
  case round =>
    obtain ⟨i, hi, rfl, rfl⟩ := hrel
    have hdl : row / 2 ^ i ≤ row := Nat.div_le_self _ _
    match i, hi, hdl with
    | 0, _, _ =>
      go_wp2
      go_ret
      exact ⟨ret_int (by simp), rfl⟩
    | i + 1, hi, hdl =>
      have hb := Dz.testBit_div row i
      have hdl' : row / 2 ^ i ≤ row := Nat.div_le_self _ _
      have hcell := hrow.cell (i := i) (by omega)
      obtain ⟨q, HQ⟩ : ∃ q, Hid (row / 2 ^ (i + 1) = q) := ⟨_, rfl⟩
      rw [HQ.out]
      rw [HQ.out] at hb hdl
      have hq : 2 * q + 1 < 4294967297 := by omega
      obtain ⟨b, hbit⟩ : ∃ b, row.testBit i = b := ⟨_, rfl⟩
      rw [hbit] at hcell hb
      have HB : Hid (row / 2 ^ i = 2 * q + if b then 1 else 0) := hb
      clear hb hbit
      cases b
      · have HB' : Hid (row / 2 ^ i = 2 * q) := by rw [Hid, HB.out]; rfl
        have hq2 : 2 * (q : Int) ≤ 4294967295 := by rw [HB'.out] at hdl'; omega
        clear hdl'
        go_wp2
        go_round
        case rel => exact ⟨i, by omega, by rw [HB'.out]; congr 1; omega, rfl⟩
        case measure => simp [intOf]
      · have HB' : Hid (row / 2 ^ i = 2 * q + 1) := by rw [Hid, HB.out]; rfl
        have hq2 : 2 * (q : Int) + 1 ≤ 4294967295 := by rw [HB'.out] at hdl'; omega
        clear hdl'
        go_wp2
        go_round
        case rel => exact ⟨i, by omega, by rw [HB'.out]; congr 1; omega, rfl⟩
        case measure => simp [intOf]
end Go.Proofs.YtfbbidaoljfloaaDoor
