import Derived.Test.YtfbbidaoljfloaaDoorY19
namespace Go.Proofs.YtfbbidaoljfloaaDoor
open Go.RowKit Go.MuLone

set_option maxRecDepth 100000 in
set_option maxHeartbeats 800000 in
theorem bent_any (n : Int) (lo hi : Nat) (w : World) (h1 : -9223372036854775808 ≤ n) (h2 : n ≤ 9223372036854775807) (hl : lo ≤ hi) (hh : hi ≤ 100000) :
    Calls Tryd.prog 14 #[.int .i64 n, .int .i64 lo, .int .i64 hi] w fun e w' => (∃ b : Nat, e = .returned (.int .i64 b) ∧ lo ≤ b ∧ b ≤ hi) ∧ w' = w := by
  have hp : (0 : Int) < (hi : Int) - (lo : Int) + 1 := by omega
  by_cases c1 : (lo : Int) ≤ n
  · by_cases c2 : n ≤ (hi : Int)
    · obtain ⟨b, rfl⟩ := Int.eq_ofNat_of_zero_le (show 0 ≤ n by omega)
      have q1 : decide (lo ≤ b) = true := by simp; omega
      have q2 : decide (b ≤ hi) = true := by simp; omega
      go_enter Tryd.func14, Tryd.ntmps14
      go_wp2
      go_ret
      exact ⟨⟨b, rfl, by omega, by omega⟩, rfl⟩
    · have hn0 : (0 : Int) ≤ n := by omega
      have hm0 := Int.emod_nonneg n (show (hi : Int) - (lo : Int) + 1 ≠ 0 by omega)
      have hm1 := Int.emod_lt_of_pos n hp
      obtain ⟨m, hm⟩ := Int.eq_ofNat_of_zero_le hm0
      have q1 : decide ((lo : Int) ≤ n) = true := by simpa using c1
      have q2 : decide (n ≤ (hi : Int)) = false := by simpa using c2
      have q3 : decide (n < 0) = false := by simpa using hn0
      have HM : Hid _ := hm
      have hml : m < hi - lo + 1 := by omega
      clear hm
      go_enter Tryd.func14, Tryd.ntmps14
      go_wp2
      go_ret
      refine ⟨⟨lo + m, ret_int ?_, by omega, by omega⟩, rfl⟩
      have := HM.out
      simp at this ⊢
      omega
  · have q1 : decide ((lo : Int) ≤ n) = false := by simpa using c1
    by_cases c3 : n < 0
    · have q3 : decide (n < 0) = true := by simpa using c3
      have hte : (-(n + 1)).tmod ((hi : Int) - (lo : Int) + 1) = (-(n + 1)) % ((hi : Int) - (lo : Int) + 1) := Int.tmod_eq_emod_of_nonneg (by omega)
      have hm0 := Int.emod_nonneg (-(n + 1)) (show (hi : Int) - (lo : Int) + 1 ≠ 0 by omega)
      have hm1 := Int.emod_lt_of_pos (-(n + 1)) hp
      obtain ⟨m, hm⟩ := Int.eq_ofNat_of_zero_le hm0
      have hml0 : m < hi - lo + 1 := by omega
      rw [← hte] at hm
      have hng : (-(n + 1)).tmod ((hi : Int) - (lo : Int) + 1) = -((n + 1).tmod ((hi : Int) - (lo : Int) + 1)) := Int.neg_tmod _ _
      rw [hng] at hm
      clear hte hng
      have HM : Hid _ := hm
      clear hm
      go_enter Tryd.func14, Tryd.ntmps14
      go_wp2
      go_ret
      refine ⟨⟨lo + m, ret_int ?_, by omega, by omega⟩, rfl⟩
      have := HM.out
      rw [this]
      simp [wrap64]
      omega
    · have hn0 : (0 : Int) ≤ n := by omega
      have q3 : decide (n < 0) = false := by simpa using hn0
      have hm0 := Int.emod_nonneg n (show (hi : Int) - (lo : Int) + 1 ≠ 0 by omega)
      have hm1 := Int.emod_lt_of_pos n hp
      obtain ⟨m, hm⟩ := Int.eq_ofNat_of_zero_le hm0
      have HM : Hid _ := hm
      have hml : m < hi - lo + 1 := by omega
      clear hm
      go_enter Tryd.func14, Tryd.ntmps14
      go_wp2
      go_ret
      refine ⟨⟨lo + m, ret_int ?_, by omega, by omega⟩, rfl⟩
      have := HM.out
      simp at this ⊢
      omega

/-- An object that is not too long. -/
def fitD (data : ByteArray) (blk : Nat) : ByteArray := if 32 * blk < data.size then data.extract 0 (32 * blk) else data
theorem fitD_size (data : ByteArray) (blk : Nat) : (fitD data blk).size ≤ 32 * blk := by
  unfold fitD
  split
  · rw [ByteArray.size_extract]; omega
  · omega

set_option maxRecDepth 100000 in
set_option maxHeartbeats 400000 in
theorem fit_any (data : ByteArray) (blk : Nat) (w : World) (h1 : 1 ≤ blk) (h2 : blk ≤ 32) :
    Calls Tryd.prog 16 #[.string data, .int .i64 blk] w fun e w' => e = .returned (.string (fitD data blk)) ∧ w' = w := by
  by_cases h : 32 * blk < data.size
  · have q : decide (32 * (blk : Int) < (data.size : Int)) = true := by simp; omega
    have a1 : (0 : Int) ≤ 32 * (blk : Int) := by omega
    have a2 : 32 * (blk : Int) ≤ (data.size : Int) := by omega
    have a3 : (32 * (blk : Int)).toNat = 32 * blk := by omega
    have HE : Hid (fitD data blk = data.extract 0 (32 * blk)) := by rw [Hid, fitD, if_pos h]
    clear h
    go_enter Tryd.func16, Tryd.ntmps16
    go_wp2
    go_ret
    refine ⟨?_, rfl⟩
    rw [HE.out]
    rfl
  · have q : decide (32 * (blk : Int) < (data.size : Int)) = false := by simp; omega
    have HE : Hid (fitD data blk = data) := by rw [Hid, fitD, if_neg h]
    clear h
    go_enter Tryd.func16, Tryd.ntmps16
    go_wp2
    go_ret
    refine ⟨?_, rfl⟩
    rw [HE.out]
    rfl

set_option maxRecDepth 100000 in
set_option maxHeartbeats 400000 in
theorem blocks_any (data : ByteArray) (blk : Nat) (w : World) (h1 : 1 ≤ blk) (h2 : blk ≤ 32) (hd : data.size ≤ 32 * blk) :
    Calls Tryd.prog 19 #[.string data, .int .i64 blk] w fun e w' => e = .returned (.int .i64 (blocksOf data.size blk)) ∧ w' = w := by
  have hq : ((data.size : Int) + (blk : Int) - 1) / (blk : Int) = (((data.size + blk - 1) / blk : Nat) : Int) := by
    rw [show (data.size : Int) + (blk : Int) - 1 = ((data.size + blk - 1 : Nat) : Int) by omega]
    simp
  have hb : (0 : Int) < (blk : Int) := by omega
  have HQ : Hid _ := hq
  have HB : Hid (blocksOf data.size blk = max 1 ((data.size + blk - 1) / blk)) := rfl
  by_cases h0 : (data.size + blk - 1) / blk = 0
  · have e : (((data.size : Int) + (blk : Int) - 1) / (blk : Int) == 0) = true := by rw [hq, h0]; rfl
    have HZ : Hid _ := h0
    clear hq h0
    go_enter Tryd.func19, Tryd.ntmps19
    go_wp2
    go_ret
    refine ⟨ret_int ?_, rfl⟩
    rw [HB.out, HZ.out]
    rfl
  · have e : (((data.size : Int) + (blk : Int) - 1) / (blk : Int) == 0) = false := by rw [hq, beq_eq_false_iff_ne]; omega
    have HZ : Hid (1 ≤ (data.size + blk - 1) / blk) := Nat.pos_of_ne_zero h0
    clear hq h0
    go_enter Tryd.func19, Tryd.ntmps19
    go_wp2
    go_ret
    refine ⟨ret_int ?_, rfl⟩
    rw [HB.out]
    have h1 := HQ.out
    have h2 := HZ.out
    show ((data.size : Int) + (blk : Int) - 1) / (blk : Int) = _
    rw [h1, Nat.max_eq_right h2]

theorem keepPick_any (c : Int) (n : Nat) (w : World) (h1 : -9223372036854775808 ≤ c) (h2 : c ≤ 9223372036854775807) (hn : 0 < n) (hn2 : n ≤ 4611686018427387904) :
    Calls Tryd.prog 26 #[.int .i64 c, .int .i64 n] w fun e w' => ∃ k : Nat, k < n ∧ e = .returned (.int .i64 k) ∧ w' = w := by
  go_enter Tryd.func26, Tryd.ntmps26
  go_wp2_with fail
  refine (pickNet_any c n _ h1 h2 hn hn2).mono ?_
  rintro e w1 ⟨k, hk, rfl, rfl⟩
  go_wp2
  go_ret
  exact ⟨k, hk, rfl, rfl⟩

structure PairAt (w : World) (bp bs br : Nat) : Prop where
  obj : w.heap[bp]? = some (.cells #[.pointer (some ⟨bs, 0, none⟩), .pointer (some ⟨br, 0, none⟩)] 36 (0, 0))
theorem PairAt.cells {w : World} {bp bs br : Nat} (h : PairAt w bp bs br) : w.cell? ⟨bp, 0, none⟩ = some (.pointer (some ⟨bs, 0, none⟩)) ∧ w.cell? ⟨bp, 1, none⟩ = some (.pointer (some ⟨br, 0, none⟩)) :=
  ⟨by rw [cell_of_row _ _ _ _ _ _ h.obj]; rfl, by rw [cell_of_row _ _ _ _ _ _ h.obj]; rfl⟩
theorem PairAt.turn {Z : List Nat} {w w' : World} {bp bs br : Nat} (h : PairAt w bp bs br) (ht : Turn Z w w') (hn : bp ∉ Z) : PairAt w' bp bs br := ⟨ht.cells h.obj hn⟩

def SV.fresh (blk bud : Nat) : SV := ⟨blk, bud, 0, []⟩
theorem SV.fresh_ok (blk bud : Nat) (h1 : 1 ≤ blk) (h2 : blk ≤ 32) (h3 : 1 ≤ bud) (h4 : bud ≤ 1000) : SVOk (SV.fresh blk bud) :=
  ⟨h1, h2, h3, h4, Nat.le_refl _, Nat.zero_le _, fun i o _ ho => by simp [SV.fresh] at ho⟩

set_option maxRecDepth 100000 in
set_option maxHeartbeats 800000 in
theorem pair_any (blk bud : Nat) (w : World) (ht : Tab w) (h1 : 1 ≤ blk) (h2 : blk ≤ 32) (h3 : 1 ≤ bud) (h4 : bud ≤ 1000) :
    Calls Tryd.prog 15 #[.int .i64 blk, .int .i64 bud] w fun e w' => ∃ bp bs br F, e = .returned (.tuple #[.pointer (some ⟨bp, 0, none⟩), .bool true]) ∧ Below w.heap.size w w' ∧ PairAt w' bp bs br ∧ Net w' bs br F (SV.fresh blk bud) (RV.fresh blk) ∧ (∀ g ∈ F, w.heap.size ≤ g) ∧ w.heap.size ≤ bp ∧ bp ∉ F := by
  have hgood : goodB blk bud = true := by unfold goodB; simp; omega
  have hpos : 0 < w.heap.size := World.block_lt_of_cell? w _ (ht 0 0 rfl)
  go_enter Tryd.func15, Tryd.ntmps15
  go_wp2_with fail
  refine (newSender_good blk bud _ hgood).mono ?_
  rintro e w1 ⟨bs, rfl, hb1, hbs, hs1⟩
  obtain ⟨hc1, hf1⟩ := bcell hb1
  have c0 : w1.cell? ⟨w.heap.size, 0, none⟩ = some (.int .i64 blk) := by rw [hc1 _ _ (by simp)]; simp [go_sem]
  have c1 : w1.cell? ⟨w.heap.size, 1, none⟩ = some (.int .i64 bud) := by rw [hc1 _ _ (by simp)]; simp [go_sem]
  have HB1 : Hid _ := hb1
  clear hc1 hf1 hb1
  go_wp2_with fail
  refine (newReceiver_good blk bud _ hgood).mono ?_
  rintro e w2 ⟨br, rfl, hb2, hbr, hr2⟩
  have HB2 : Hid _ := hb2
  have HR2 : Hid _ := hr2
  clear hb2 hr2
  go_wp2_with fail
  have hs0 : w.heap.size + 1 ≤ bs := by simpa using hbs
  have hbsl : bs < w1.heap.size := lt_of_heap hs1
  have hB1 : Below w.heap.size w w1 := ((Below.refl w.heap.size w).alloc (Nat.le_refl _) (.cells #[.int .i64 blk, .int .i64 bud] 72)).trans (HB1.out.mono (by simp))
  have hB2 : Below w.heap.size w w2 := hB1.trans (HB2.out.mono hB1.size)
  have hB3 : Below w.heap.size w (w2.alloc (.cells #[.pointer (some ⟨bs, 0, none⟩), .pointer (some ⟨br, 0, none⟩)] 36)) := hB2.alloc hB2.size _
  have T3 : Turn [] w2 (w2.alloc (.cells #[.pointer (some ⟨bs, 0, none⟩), .pointer (some ⟨br, 0, none⟩)] 36)) := (Turn.refl [] w2).alloc _
  have hbrl : br < w2.heap.size := HR2.out.held.at_.lt
  have hsz1 := hB1.size
  have hsz2 : w1.heap.size ≤ w2.heap.size := HB2.out.size
  have hs3 : SenderAt (w2.alloc (.cells #[.pointer (some ⟨bs, 0, none⟩), .pointer (some ⟨br, 0, none⟩)] 36)) bs blk bud (.slice none 0 0) 0 := T3.cells ((HB2.out.block bs hbsl).trans hs1) (by simp)
  obtain ⟨_, hft, hlk⟩ := fresh_recv blk w2 br HR2.out.held.at_
  refine bodyPost_ret (results_tmp2 rfl _ _ _) rfl ⟨w2.heap.size, bs, br, sfoot bs none ++ (RC.fresh blk).foot br, rfl, hB3, ⟨heap_alloc_new w2 _⟩, ⟨none, 0, RC.fresh blk, ⟨⟨?_, ?_, ?_⟩, HR2.out.turn T3 (by simp), hlk, ?_, SV.fresh_ok blk bud h1 h2 h3 h4, fresh_ok blk h1 h2, ?_, ?_, ?_⟩, rfl⟩, ?_, by omega, ?_⟩
  · exact hs3
  · exact ⟨World.ownsRow_nil _ _ _ _, rfl⟩
  · intro e; cases e
  · intro g hg
    rw [hft]
    simp [sfoot] at hg
    simp
    omega
  · exact ht.turn (Turn.below (S := []) hB3 (Nat.le_refl _)) (by simp)
  · simp [sfoot]; omega
  · rw [hft]; simp; omega
  · intro g hg
    rw [hft] at hg
    simp [sfoot] at hg
    omega
  · rw [hft]
    simp [sfoot]
    omega

set_option maxRecDepth 100000 in
set_option maxHeartbeats 800000 in
theorem taken_any (bp bs br num : Nat) (F : List Nat) (S : SV) (V : RV) (data : ByteArray) (w : World) (h : Net w bs br F S V) (hp : PairAt w bp bs br) (hr : V.ready = [(data, num)]) :
    Calls Tryd.prog 23 #[.pointer (some ⟨bp, 0, none⟩), .string data, .int .i64 num] w fun e w' => e = .returned (.bool true) ∧ ∃ F', NAft w w' bs br F F' S { V with ready := [] } := by
  obtain ⟨p0, p1⟩ := hp.cells
  have q : (data.toList == data.toList) = true := by simp
  go_enter Tryd.func23, Tryd.ntmps23
  go_wp2_with fail
  refine (nTake_some h hr).mono ?_
  rintro e w1 ⟨rfl, F', ha⟩
  go_wp2_with fail
  go_ret
  exact ⟨by simp, F', ha⟩

end Go.Proofs.YtfbbidaoljfloaaDoor
