import Derived.Test.YtfbbidaoljfloaaDoorP2
import Derived.Deep.RegionLaw
import Derived.Deep.DrawnRows
namespace Go.Proofs.YtfbbidaoljfloaaDoor
open Go.RowKit Go.MuLone

theorem infoObj : (Tryd.prog.info? 110).map (fun i => (i.zero, i.size, i.bytes)) = some (some (.agg #[.string .empty, .int .u64 0, .int .i64 0, .int .i64 0]), 4, 40) := by kernel_rfl

set_option maxHeartbeats 400000 in
theorem submit_long (bs : Nat) (blk bud : Int) (data : ByteArray) (nonce : Int) (pv : Value) (en : Int) (w : World) (hs : SenderAt w bs blk bud pv en) (h1 : 1 ≤ blk) (h2 : blk ≤ 32) (ha : 32 * blk < (data.size : Int)) :
    Calls Tryd.prog 17 #[.pointer (some ⟨bs, 0, none⟩), .string data, .int .u64 nonce] w fun e w' => e = .returned (.tuple #[.int .i64 0, .int .i64 2]) ∧ Turn [bs] w w' ∧ SenderAt w' bs blk bud pv en := by
  obtain ⟨s0, s2, s3, s4, s5, sf, slt⟩ := hs.cellsAt
  have HS : Hid (SenderAt w bs blk bud pv en) := hs
  clear hs
  have q1 : decide (32 * blk < (data.size : Int)) = true := by simpa using ha
  go_enter_defers Tryd.func17, Tryd.ntmps17
  go_wp2_with fail
  refine (lock_free muLib ⟨bs, 0, none⟩ _ s0 (sf _)).mono ?_
  rintro e w1 ⟨rfl, rfl⟩
  go_wp2
  refine leaves_cons (f := 40) (args := #[.pointer (some ⟨bs, 0, none⟩)]) (by simp) (by simp [go_sem]) ?_
  refine (unlock_deferred muLib ⟨bs, 0, none⟩ .returning _ ?_ ?_).mono ?_
  · exact cellSame s0
  · simp [sf]
  rintro e u' w'' ⟨rfl, rfl, rfl⟩
  refine ⟨_, results_tmp2 rfl _ _ _, rfl, ?_, HS.out.held.free⟩
  exact ((Turn.refl [bs] w).setCell (.inl (by simp)) _).setCell (.inl (by simp)) _

set_option maxHeartbeats 400000 in
theorem submit_end (bs : Nat) (blk bud : Int) (data : ByteArray) (nonce : Int) (sl : Option Addr) (cap : Nat) (en : Int) (w : World) (hs : SenderAt w bs blk bud (.slice sl 500 cap) en) (h1 : 1 ≤ blk) (h2 : blk ≤ 32) (ha : ¬ 32 * blk < (data.size : Int)) :
    Calls Tryd.prog 17 #[.pointer (some ⟨bs, 0, none⟩), .string data, .int .u64 nonce] w fun e w' => e = .returned (.tuple #[.int .i64 0, .int .i64 4]) ∧ Turn [bs] w w' ∧ SenderAt w' bs blk bud (.slice sl 500 cap) en := by
  obtain ⟨s0, s2, s3, s4, s5, sf, slt⟩ := hs.cellsAt
  have HS : Hid (SenderAt w bs blk bud (.slice sl 500 cap) en) := hs
  clear hs
  have q1 : decide (32 * blk < (data.size : Int)) = false := by simpa using ha
  go_enter_defers Tryd.func17, Tryd.ntmps17
  go_wp2_with fail
  refine (lock_free muLib ⟨bs, 0, none⟩ _ s0 (sf _)).mono ?_
  rintro e w1 ⟨rfl, rfl⟩
  go_wp2
  refine leaves_cons (f := 40) (args := #[.pointer (some ⟨bs, 0, none⟩)]) (by simp) (by simp [go_sem]) ?_
  refine (unlock_deferred muLib ⟨bs, 0, none⟩ .returning _ ?_ ?_).mono ?_
  · exact cellSame s0
  · simp [sf]
  rintro e u' w'' ⟨rfl, rfl, rfl⟩
  refine ⟨_, results_tmp2 rfl _ _ _, rfl, ?_, HS.out.held.free⟩
  exact ((Turn.refl [bs] w).setCell (.inl (by simp)) _).setCell (.inl (by simp)) _

theorem waiting_any (bs : Nat) (sl : Option Addr) (n cap en : Nat) (l : List Thing) (w : World) (hc : w.cell? ⟨bs, 4, none⟩ = some (.slice sl n cap)) (he : w.cell? ⟨bs, 5, none⟩ = some (.int .i64 en)) (h : Things w 110 sl n cap l) (hn : n ≤ 500) (hen : en ≤ n) :
    Calls Tryd.prog 41 #[.pointer (some ⟨bs, 0, none⟩)] w fun e w' => e = .returned (.int .i64 (cntSt (l.drop en) 1)) ∧ Below w.heap.size w w' := by
  by_cases hlt : en < n
  · exact waiting_some bs sl n cap en l w hc he h hn hlt
  · obtain rfl : en = n := by omega
    have e : cntSt (l.drop en) 1 = 0 := by rw [List.drop_of_length_le (by have := h.len; omega)]; rfl
    rw [e]
    exact waiting_none bs sl en cap l w hc he h hn

theorem Things.turn {S : List Nat} {w w' : World} {e : TypeId} {sl : Option Addr} {n cap : Nat} {l : List Thing} (h : Things w e sl n cap l) (ht : Turn S w w') (hn : ∀ k, (Value.slice sl n cap).ownBlock = some k → k ∉ S) : Things w' e sl n cap l := ⟨ht.owns h.owns hn, h.len⟩

set_option maxHeartbeats 400000 in
theorem submit_full (bs : Nat) (blk bud : Int) (data : ByteArray) (nonce : Int) (sl : Option Addr) (n cap en : Nat) (l : List Thing) (w : World) (hs : SenderAt w bs blk bud (.slice sl n cap) en) (h : Things w 110 sl n cap l) (hne : (Value.slice sl n cap).ownBlock ≠ some bs)
    (h1 : 1 ≤ blk) (h2 : blk ≤ 32) (ha : ¬ 32 * blk < (data.size : Int)) (hn : n < 500) (hen : en ≤ n) (h8 : cntSt (l.drop en) 1 = 8) :
    Calls Tryd.prog 17 #[.pointer (some ⟨bs, 0, none⟩), .string data, .int .u64 nonce] w fun e w' => e = .returned (.tuple #[.int .i64 0, .int .i64 3]) ∧ Turn [bs] w w' ∧ SenderAt w' bs blk bud (.slice sl n cap) en := by
  obtain ⟨s0, s2, s3, s4, s5, sf, slt⟩ := hs.cellsAt
  have HS : Hid (SenderAt w bs blk bud (.slice sl n cap) en) := hs
  clear hs
  have q1 : decide (32 * blk < (data.size : Int)) = false := by simpa using ha
  have q2 : ((n : Int) == 500) = false := by simp; omega
  have H8 : Hid (cntSt (l.drop en) 1 = 8) := h8
  clear h8
  go_enter_defers Tryd.func17, Tryd.ntmps17
  go_wp2_with fail
  refine (lock_free muLib ⟨bs, 0, none⟩ _ s0 (sf _)).mono ?_
  rintro e w1 ⟨rfl, rfl⟩
  have hA := HS.out.held
  obtain ⟨k0, k2, k3, k4, k5, kf, klt⟩ := hA.cellsAt
  have hth : Things (w.setCell ⟨bs, 0, none⟩ (.int .i32 1)) 110 sl n cap l := h.turn ((Turn.refl [bs] w).setCell (.inl (by simp)) _) (fun k hk => by simp; exact fun e => hne (by rw [hk, e]))
  have HA : Hid _ := hA
  clear hA
  go_wp2_with fail
  refine (waiting_any bs sl n cap en l _ k4 k5 hth (by omega) hen).mono ?_
  rintro e w2 ⟨rfl, hb⟩
  rw [H8.out]
  go_wp2
  refine leaves_cons (f := 40) (args := #[.pointer (some ⟨bs, 0, none⟩)]) (by simp) (by simp [go_sem]) ?_
  have hA2 := HeldAt.turn HA.out (Turn.below (S := []) hb (Nat.le_refl _)) (by simp)
  obtain ⟨m0, _, _, _, _, mf, _⟩ := hA2.cellsAt
  refine (unlock_deferred muLib ⟨bs, 0, none⟩ .returning _ m0 (mf _)).mono ?_
  rintro e u' w'' ⟨rfl, rfl, rfl⟩
  refine ⟨_, results_tmp2 rfl _ _ _, rfl, ?_, hA2.free⟩
  exact (((Turn.refl [bs] w).setCell (.inl (by simp)) _).trans (Turn.below (S := []) hb (Nat.le_refl _)) (by simp)).setCell (.inl (by simp)) _

set_option maxHeartbeats 1000000 in
theorem submit_yes (bs : Nat) (blk bud : Int) (data : ByteArray) (nonce : Int) (sl : Option Addr) (n cap en : Nat) (l : List Thing) (w : World) (hs : SenderAt w bs blk bud (.slice sl n cap) en) (h : Things w 110 sl n cap l) (hne : (Value.slice sl n cap).ownBlock ≠ some bs)
    (h1 : 1 ≤ blk) (h2 : blk ≤ 32) (ha : ¬ 32 * blk < (data.size : Int)) (hn : n < 500) (hen : en ≤ n) (h8 : cntSt (l.drop en) 1 < 8) :
    Calls Tryd.prog 17 #[.pointer (some ⟨bs, 0, none⟩), .string data, .int .u64 nonce] w fun e w' => e = .returned (.tuple #[.int .i64 ((n : Int) + 1), .int .i64 0]) ∧ Turn (bs :: (Value.slice sl n cap).ownBlock.toList) w w' ∧
      ∃ g' cap', SenderAt w' bs blk bud (.slice (some ⟨g', 0, none⟩) (n + 1) cap') en ∧ Things w' 110 (some ⟨g', 0, none⟩) (n + 1) cap' (l ++ [⟨data, nonce, 1, 0⟩]) ∧ ((Value.slice sl n cap).ownBlock = some g' ∨ w.heap.size ≤ g') := by
  obtain ⟨i0, hi, hz0, hz1, hz2⟩ := info_parts infoObj
  obtain ⟨s0, s2, s3, s4, s5, sf, slt⟩ := hs.cellsAt
  have HS : Hid (SenderAt w bs blk bud (.slice sl n cap) en) := hs
  clear hs
  have q1 : decide (32 * blk < (data.size : Int)) = false := by simpa using ha
  have q2 : ((n : Int) == 500) = false := by simp; omega
  have q3 : ((cntSt (l.drop en) 1 : Int) == 8) = false := by simp; omega
  have hlim : data.size ≤ 281474976710656 := by omega
  go_enter_defers Tryd.func17, Tryd.ntmps17
  go_wp2_with fail
  refine (lock_free muLib ⟨bs, 0, none⟩ _ s0 (sf _)).mono ?_
  rintro e w1 ⟨rfl, rfl⟩
  have hA := HS.out.held
  obtain ⟨k0, k2, k3, k4, k5, kf, klt⟩ := hA.cellsAt
  have hth : Things (w.setCell ⟨bs, 0, none⟩ (.int .i32 1)) 110 sl n cap l := h.turn ((Turn.refl [bs] w).setCell (.inl (by simp)) _) (fun k hk => by simp; exact fun e => hne (by rw [hk, e]))
  have HA : Hid _ := hA
  clear hA
  go_wp2_with fail
  refine (waiting_any bs sl n cap en l _ k4 k5 hth (by omega) hen).mono ?_
  rintro e w2 ⟨rfl, hb⟩
  have hA2 := HeldAt.turn HA.out (Turn.below (S := []) hb (Nat.le_refl _)) (by simp)
  obtain ⟨m0, m2, m3, m4, m5, mf, mlt⟩ := hA2.cellsAt
  have hth2 := hth.below hb (Nat.le_refl _)
  have HA2 : Hid _ := hA2
  clear hA2
  go_wp2_with fail
  refine wp_region_noPanic ?_
  go_region_law (first
    | (go_simp; go_at_call 42; refine (clone_any data _ hlim).mono ?_; rintro e wc ⟨rfl, hbc⟩; obtain ⟨hcc, hfc⟩ := bcell hbc; have hc4 : wc.cell? ⟨bs, 4, none⟩ = some (.slice sl n cap) := (hcc bs 4 (by simpa using mlt)).trans m4; have hf4 : wc.frozen? ⟨bs, 4, none⟩ = false := (hfc bs 4 (by simpa using mlt)).trans (mf 4); have hl4 : bs < wc.heap.size := World.block_lt_of_cell? wc _ hc4; clear hcc hfc; have hoc := (Turn.below (S := []) hbc (Nat.le_refl _)).owns (show World.ownsRow _ 0 110 4 (.slice sl n cap) n (rowCells l) from hth2.owns) (by simp); have hsc := hbc.size)
    | (refine step_append_far _ (by rfl) _ _ 104 (by rfl) 110 i0 _ 4 40 Tryd.underlying104 hi hz0 hz1 hz2 rfl (by decide) (.slice sl n cap) n (rowCells l) (by simp [Act.eval]) (hoc.alloc _) ⟨wc.heap.size, 0, none⟩ 1 1 [.string data, .int .u64 nonce, .int .i64 1, .int .i64 0] (by simp [Act.eval]) rfl (World.news_of_block (heap_alloc_new wc _)) (by intro u hu; simp at hu; rcases hu with rfl | rfl | rfl | rfl <;> rfl) (by decide) (by unfold maxLen; omega) (by omega) ?_; intro g cap' wa hown hgrow hat hlt; have hca := (hgrow.cell_far ⟨bs, 4, none⟩ (by simp; omega) (Ne.symm hne)).trans (cellNew hc4 _); have hfa := (hgrow.frozen_far ⟨bs, 4, none⟩ (by simp; omega) (Ne.symm hne)).trans (frozenNew hf4 hl4 _)))
  all_goals
    refine NoPanic.normal ?_
    go_wp2
    refine leaves_cons (f := 40) (args := #[.pointer (some ⟨bs, 0, none⟩)]) (by simp) (by simp [go_sem]) ?_
    have TA : Turn (Value.slice sl n cap).ownBlock.toList w2 wa := ((((Turn.refl _ w2).drew).trans (Turn.below (S := []) hbc (Nat.le_refl _)) (by simp)).alloc _).grown hgrow (fun k hk => .inl (by simp [hk]))
    have hnb : bs ∉ (Value.slice sl n cap).ownBlock.toList := fun q => hne (by simpa using q)
    have hA4 := (HeldAt.turn HA2.out TA hnb).objects (.slice (some ⟨g, 0, none⟩) (n + 1) cap')
    obtain ⟨z0, _, _, _, _, zf, _⟩ := hA4.cellsAt
    refine (unlock_deferred muLib ⟨bs, 0, none⟩ .returning _ z0 (zf _)).mono ?_
    rintro e u' w'' ⟨rfl, rfl, rfl⟩
    have hgb : g ≠ bs := by
      rcases hat with q | q
      · intro e; exact hne (by rw [q, e])
      · rw [q]; simp; omega
    have hsz : w.heap.size ≤ wc.heap.size := by have := hb.size; have := hbc.size; simp at *; omega
    have TT : Turn (bs :: (Value.slice sl n cap).ownBlock.toList) w wa := (((Turn.refl _ w).setCell (p := ⟨bs, 0, none⟩) (.inl (by simp)) (.int .i32 1)).trans (Turn.below (S := []) hb (Nat.le_refl _)) (by simp)).trans TA (fun x hx => .inl (List.mem_cons_of_mem _ hx))
    refine ⟨_, results_tmp2 rfl _ _ _, rfl, (TT.setCell (.inl (by simp)) _).setCell (.inl (by simp)) _, g, cap', hA4.free, ?_, ?_⟩
    · exact (Things.more (o := ⟨data, nonce, 1, 0⟩) hown rfl h.len).turn (((Turn.refl [bs] wa).setCell (.inl (by simp)) _).setCell (.inl (by simp)) _) (fun k hk => by simp [Value.ownBlock] at hk; simp; omega)
    · rcases hat with q | q
      · exact .inl q
      · right; rw [q]; simp; omega

end Go.Proofs.YtfbbidaoljfloaaDoor
