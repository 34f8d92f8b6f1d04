import Derived.Test.YtfbbidaoljfloaaDoorV27
namespace Go.Proofs.YtfbbidaoljfloaaDoor
open Go.RowKit Go.MuLone

set_option maxRecDepth 100000 in
set_option maxHeartbeats 8000000 in
theorem playsA_nil (w : World) (ht : Tab w) :
    Calls Tryd.prog 13 #[.slice none 0 0, .bool false] w fun e w' => e = .returned (.bool true) ∧ Below w.heap.size w w' := by
  have HT0 := hide ht
  have hpos : 0 < w.heap.size := World.block_lt_of_cell? w _ (ht 0 0 rfl)
  clear ht
  obtain ⟨j0, hj, hy0, hy1, hy2⟩ := info_parts infoNetP
  have hm : (0 : Nat) ≤ 2199023255488 := by omega
  have hF : (w.alloc (.cells #[.int .i64 2, .int .i64 0, .int .i64 4, .int .i64 20, .int .u64 0, .int .u32 0, .string ⟨#[]⟩] 89)).ownsRow 0 89 7 (.slice (some ⟨w.heap.size, 0, none⟩) 1 1) 1 [.int .i64 2, .int .i64 0, .int .i64 4, .int .i64 20, .int .u64 0, .int .u32 0, .string ⟨#[]⟩] :=
    ⟨rfl, .inr ⟨w.heap.size, 1, _, rfl, Nat.zero_le _, heap_alloc_new _ _, Nat.le_refl _, by decide, rfl, rfl⟩⟩
  have hTy : Typed [.int .i64 2, .int .i64 0, .int .i64 4, .int .i64 20, .int .u64 0, .int .u32 0, .string ⟨#[]⟩] 1 := Typed.cons (xs := []) (n := 0) (fun j hj => by omega)
  have hFirst : First [.int .i64 2, .int .i64 0, .int .i64 4, .int .i64 20, .int .u64 0, .int .u32 0, .string ⟨#[]⟩] := ⟨rfl, rfl, rfl⟩
  have hR : w.heap.size ≤ w.heap.size := Nat.le_refl _
  have hB1 : Below w.heap.size w (w.alloc (.cells #[.int .i64 2, .int .i64 0, .int .i64 4, .int .i64 20, .int .u64 0, .int .u32 0, .string ⟨#[]⟩] 89)) := (Below.refl w.heap.size w).alloc (Nat.le_refl _) _
  obtain ⟨xs, hxs⟩ : ∃ xs, xs = [Value.int .i64 2, .int .i64 0, .int .i64 4, .int .i64 20, .int .u64 0, .int .u32 0, .string ⟨#[]⟩] := ⟨_, rfl⟩
  have hF' : (w.alloc (.cells #[.int .i64 2, .int .i64 0, .int .i64 4, .int .i64 20, .int .u64 0, .int .u32 0, .string ⟨#[]⟩] 89)).ownsRow 0 89 7 (.slice (some ⟨w.heap.size, 0, none⟩) 1 1) 1 xs := by rw [hxs]; exact hF
  rw [← hxs] at hTy hFirst
  have HTY := hide hTy
  have HFI := hide hFirst
  have HB1 := hide hB1
  have HF := hide hF'
  clear hTy hFirst hxs hB1 hF hF'
  go_enter Tryd.func13, Tryd.ntmps13
  have hnot := notOp
  go_wp2
  go_loopw [5, 7] (fun nv i wr => ∃ (k : Nat) (L : List NetA) (nsl : Option Addr) (ncap : Nat), k ≤ 1 ∧ i = .int .i64 k ∧ nv = .slice nsl L.length ncap ∧ Game w.heap.size w.heap.size (1) 1 xs k wr L nsl ncap ∧ (k = 0 ∨ 0 < L.length) ∧ Below w.heap.size w wr) (fun _ i _ => 1 - (intOf i).toNat)
  case atStart => exact ⟨0, [], none, 0, Nat.zero_le _, rfl, rfl, ⟨(unhide HF), World.ownsRow_nil _ _ _ _, by simp, by simp, by simp, by simp, by simp, hR, by simp [Value.ownBlock], by simp, hpos⟩, .inl rfl, (unhide HB1)⟩
  case round =>
    obtain ⟨k, L, nsl, ncap, hk, rfl, rfl, hg, hL, hb⟩ := hrel
    by_cases hlt : k < 1
    · obtain ⟨kk, aa, bb, mm, nonce, mask, s, t0, t1, t2, t3, t4, t5, t6, b1, b2, b3, b4, b5, b6, b7, b8⟩ := (unhide HTY) k hlt
      have r0 := owns_cell hg.row (g := w.heap.size) rfl t0
      have r1 := owns_cell hg.row (g := w.heap.size) rfl t1
      have r2 := owns_cell hg.row (g := w.heap.size) rfl t2
      have r3 := owns_cell hg.row (g := w.heap.size) rfl t3
      have r4 := owns_cell hg.row (g := w.heap.size) rfl t4
      have r5 := owns_cell hg.row (g := w.heap.size) rfl t5
      have r6 := owns_cell hg.row (g := w.heap.size) rfl t6
      have hlt' : (k : Int) < 1 := by omega
      have hk0 : (0 : Int) ≤ (k : Int) := by omega
      have zw := hb.size
      have ta : Turn [] wr (wr.alloc (.cells (opCells kk aa bb mm nonce mask s) 89)) := (Turn.refl _ _).alloc _
      have hga := hg.same ta
      have hba : Below w.heap.size w (wr.alloc (.cells (opCells kk aa bb mm nonce mask s) 89)) := hb.alloc zw _
      have hzero : k = 0 → kk = 2 ∧ bb = 4 ∧ mm = 20 := fun e => by
        subst e
        have f := unhide HFI
        refine ⟨?_, ?_, ?_⟩
        · have := t0.symm.trans f.1; simpa using this
        · have := t2.symm.trans f.2.1; simpa using this
        · have := t3.symm.trans f.2.2; simpa using this
      have HTAB : Hid (Tab (wr.alloc (.cells (opCells kk aa bb mm nonce mask s) 89))) := (unhide HT0).turn (Turn.below (S := []) hba (Nat.le_refl _)) (by simp)
      have HZ := hide hzero
      have HL := hide hL
      clear hzero hL t0 t1 t2 t3 t4 t5 t6
      obtain ⟨e0, e1, e2⟩ := unhide HZ (by omega)
      have hgood : goodB bb mm = true := by rw [e1, e2]; decide
      subst e0
      clear e1 e2
      have hgd : 1 ≤ bb ∧ bb ≤ 32 ∧ 1 ≤ mm ∧ mm ≤ 1000 := by simpa [goodB] using hgood
      obtain ⟨blk, rfl⟩ := Int.eq_ofNat_of_zero_le (show 0 ≤ bb by omega)
      obtain ⟨bud, rfl⟩ := Int.eq_ofNat_of_zero_le (show 0 ≤ mm by omega)
      go_wp2_with fail
      refine (anewA_good blk bud _ (unhide HTAB) (by omega) (by omega) (by omega) (by omega)).mono ?_
      rintro e w2 ⟨bn, bs, br, F, rfl, hb2, IN, hnew⟩
      have HNEW := hide hnew
      have T2 := Below.toTurn (S := []) hb2
      have hga2 := hga.same T2
      have hb2' := hba.trans (hb2.mono hba.size)
      have z2 := hb2'.size
      have HIN := hide IN
      clear IN hnew
      have hllen := hg.len
      go_upto_region 19 with (at_builtin; (refine wpList_append_far _ rfl _ _ 87 rfl 91 j0 _ 1 8 Tryd.underlying87 hj hy0 hy1 hy2 rfl (by decide) (.slice nsl L.length ncap) L.length _ rfl (hga2.nets.alloc _) ⟨w2.heap.size, 0, none⟩ 1 1 [.pointer (some ⟨bn, 0, none⟩)] rfl rfl (World.news_of_block (heap_alloc_new w2 _)) (by intro u hu; simp at hu; subst hu; rfl) (by decide) (by unfold maxLen; omega) (by omega) ?_; intro g' cap' w3 ho3 hg3 ha3 hlt3))
      have T3 : Turn (Value.slice nsl L.length ncap).ownBlock.toList w2 w3 := ((Turn.refl _ w2).alloc _).grown hg3 (fun x hx => .inl (by simp [hx]))
      have zwr := hba.size
      have GM := hga.more (N := NetA.fresh bn bs br blk bud F) T2 (unhide HIN) rfl rfl (unhide HNEW) rfl hba.size T3 ho3 (by rcases ha3 with q | q; exact .inl q; right; simp at q; omega)
      have hb3 : Below w.heap.size w w3 := hba.trans (hga.turnN T2 hba.size T3)
      have len1 : (L ++ [NetA.fresh bn bs br blk bud F]).length = L.length + 1 := by simp
      have GM2 := GM
      clear ho3 hg3 ha3 hga2 T3
      obtain ⟨L2, hL2⟩ : ∃ L2, L2 = L ++ [NetA.fresh bn bs br blk bud F] := ⟨_, rfl⟩
      rw [← hL2] at GM GM2 len1
      have HL2 := hide hL2
      clear hL2
      rw [← len1]
      have HLEN := hide len1
      clear len1
      have hLb : (L2).length ≤ 4611686018427387904 := by have := GM.len; omega
      go_wp2
      go_loopw [13] (fun j wz => ∃ q : Nat, q ≤ (L2).length ∧ j = .int .i64 q ∧ Turn [] w3 wz) (fun j _ => (L2).length - (intOf j).toNat)
      case atStart => exact ⟨0, Nat.zero_le _, rfl, Turn.refl _ _⟩
      case round =>
        obtain ⟨q, hq, rfl, tq⟩ := hrel
        have G3 := GM.same tq
        by_cases hq2 : q < (L2).length
        · obtain ⟨gn, hgn, hcn⟩ := netCellAt G3 hq2
          have hq3 : (q : Int) < (((L2).length : Nat) : Int) := by omega
          have hq0 : (0 : Int) ≤ (q : Int) := by omega
          have HST := hide (G3.still (by omega) hq2)
          obtain rfl : _ = gn := (by simpa using hgn)
          go_wp2_with fail
          refine (unhide HST).mono ?_
          rintro e w8 ⟨rfl, hb8⟩
          go_wp2
          refine ⟨⟨q + 1, by omega, by go_num, tq.trans (Below.toTurn (S := []) hb8) (by simp)⟩, by simp [intOf]; omega⟩
        · have hq3 : ¬ (q : Int) < (((L2).length : Nat) : Int) := by omega
          have HG3 := hide G3
          have HB3 := hide (Below.trans hb3 (tq.toBelow (B := w.heap.size) (Below.size hb3) (by simp)))
          clear G3
          go_wp2
          go_roundw
          case rel => exact ⟨k + 1, L2, (some ⟨g', 0, none⟩), cap', by omega, by go_num, rfl, unhide HG3, .inr (by have := unhide HLEN; omega), unhide HB3⟩
          case measure => simp [intOf]; omega
    · have hlt' : ¬ (k : Int) < 1 := by omega
      go_wp2
      go_ret
      exact ⟨rfl, hb⟩

end Go.Proofs.YtfbbidaoljfloaaDoor
