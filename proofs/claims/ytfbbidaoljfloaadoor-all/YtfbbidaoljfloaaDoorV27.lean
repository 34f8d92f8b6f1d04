import Derived.Test.YtfbbidaoljfloaaDoorJ44
import Derived.Test.YtfbbidaoljfloaaDoorJ45
namespace Go.Proofs.YtfbbidaoljfloaaDoor
open Go.RowKit Go.MuLone

theorem infoOp : (Tryd.prog.info? 89).map (fun i => (i.zero, i.size, i.bytes)) = some (some (.agg #[.int .i64 0, .int .i64 0, .int .i64 0, .int .i64 0, .int .u64 0, .int .u32 0, .string .empty]), 7, 64) := by kernel_rfl
theorem infoNetP : (Tryd.prog.info? 91).map (fun i => (i.zero, i.size, i.bytes)) = some (some (.pointer none), 1, 8) := by kernel_rfl

/-- A script's cells. -/
def Typed (xs : List Value) (n : Nat) : Prop := ∀ j, j < n → ∃ (k a b m nonce mask : Int) (s : ByteArray), xs[j * 7]? = some (.int .i64 k) ∧ xs[j * 7 + 1]? = some (.int .i64 a) ∧ xs[j * 7 + 2]? = some (.int .i64 b) ∧ xs[j * 7 + 3]? = some (.int .i64 m) ∧
  xs[j * 7 + 4]? = some (.int .u64 nonce) ∧ xs[j * 7 + 5]? = some (.int .u32 mask) ∧ xs[j * 7 + 6]? = some (.string s) ∧ -9223372036854775808 ≤ a ∧ a ≤ 9223372036854775807 ∧ -9223372036854775808 ≤ b ∧ b ≤ 9223372036854775807 ∧ -9223372036854775808 ≤ m ∧ m ≤ 9223372036854775807 ∧ 0 ≤ mask ∧ mask ≤ 4294967295

theorem Typed.cons {xs : List Value} {n : Nat} (h : Typed xs n) : Typed ([.int .i64 2, .int .i64 0, .int .i64 4, .int .i64 20, .int .u64 0, .int .u32 0, .string .empty] ++ xs) (1 + n) := by
  intro j hj
  by_cases h0 : j = 0
  · subst h0
    exact ⟨2, 0, 4, 20, 0, 0, .empty, rfl, rfl, rfl, rfl, rfl, rfl, rfl, by omega, by omega, by omega, by omega, by omega, by omega, by omega, by omega⟩
  · obtain ⟨k, a, b, m, nonce, mask, s, t0, t1, t2, t3, t4, t5, t6, t7⟩ := h (j - 1) (by omega)
    have g : ∀ r, ([Value.int .i64 2, .int .i64 0, .int .i64 4, .int .i64 20, .int .u64 0, .int .u32 0, .string .empty] ++ xs)[j * 7 + r]? = xs[(j - 1) * 7 + r]? := fun r => by
      rw [List.getElem?_append_right (by simp; omega)]
      congr 1
      simp
      omega
    exact ⟨k, a, b, m, nonce, mask, s, (g 0).trans t0, (g 1).trans t1, (g 2).trans t2, (g 3).trans t3, (g 4).trans t4, (g 5).trans t5, (g 6).trans t6, t7⟩

/-- The first step makes a network. -/
def First (xs : List Value) : Prop := xs[0]? = some (.int .i64 2) ∧ xs[2]? = some (.int .i64 4) ∧ xs[3]? = some (.int .i64 20)

theorem netCellAt {B R n rcap : Nat} {xs : List Value} {i : Nat} {w : World} {L : List NetA} {nsl : Option Addr} {ncap : Nat} (g : Game B R n rcap xs i w L nsl ncap) {q : Nat} (hq : q < L.length) :
    ∃ gn, nsl = some ⟨gn, 0, none⟩ ∧ w.cell? ⟨gn, q, none⟩ = some (.pointer (some ⟨L[q].bn, 0, none⟩)) := by
  rcases g.nets.2 with ⟨_, h0⟩ | ⟨gn, cap', cur, hv, _⟩
  · omega
  · exact ⟨gn, by injection hv, owns_cell g.nets (by rw [hv]; rfl) (by simp [hq, ptrOf])⟩

theorem Below.toTurn {S : List Nat} {w w' : World} (h : Below w.heap.size w w') : Turn S w w' := Turn.below h (Nat.le_refl _)

theorem Game.still {B R n rcap : Nat} {xs : List Value} {i : Nat} {w : World} {L : List NetA} {nsl : Option Addr} {ncap : Nat} (g : Game B R n rcap xs i w L nsl ncap) (hi : i ≤ 2199023255552) {q : Nat} (hq : q < L.length) :
    Calls Tryd.prog 37 #[.pointer (some ⟨L[q].bn, 0, none⟩)] w fun e w' => e = .returned (.bool true) ∧ Below w.heap.size w w' := by
  have I := g.inv _ (List.getElem_mem hq)
  have C := g.cnt _ (List.getElem_mem hq)
  exact still_any L[q].bn L[q].bs L[q].X L[q].blk L[q].bud L[q].rv L[q].wv L[q].hsl L[q].hm L[q].hcap L[q].hs w I.m.hold I.m.lists (by rw [I.m.hold.len]; omega)

set_option maxRecDepth 100000 in
set_option maxHeartbeats 8000000 in
theorem playsA_some (m c : Nat) (cs : List Value) (w : World) (ht : Tab w) (hm : m ≤ 2199023255488) (hm0 : 0 < m) (hl : cs.length = m * 7) (ad : Addr) (hcs : ∀ j u, cs[j]? = some u → w.cell? (ad.add j) = some u) (hone : ∀ u ∈ cs, u.oneCell' = true) (hty : Typed cs m) :
    Calls Tryd.prog 13 #[.slice (some ad) m c, .bool false] w fun e w' => e = .returned (.bool true) ∧ Below w.heap.size w w' := by
  obtain ⟨i0, hi, hz0, hz1, hz2⟩ := info_parts infoOp
  have HT0 := hide ht
  have hpos : 0 < w.heap.size := World.block_lt_of_cell? w _ (ht 0 0 rfl)
  clear ht
  obtain ⟨j0, hj, hy0, hy1, hy2⟩ := info_parts infoNetP
  have hF : (w.alloc (.cells #[.int .i64 2, .int .i64 0, .int .i64 4, .int .i64 20, .int .u64 0, .int .u32 0, .string ⟨#[]⟩] 89)).ownsRow 0 89 7 (.slice (some ⟨w.heap.size, 0, none⟩) 1 1) 1 [.int .i64 2, .int .i64 0, .int .i64 4, .int .i64 20, .int .u64 0, .int .u32 0, .string ⟨#[]⟩] :=
    ⟨rfl, .inr ⟨w.heap.size, 1, _, rfl, Nat.zero_le _, heap_alloc_new _ _, Nat.le_refl _, by decide, rfl, rfl⟩⟩
  have hTy : Typed ([.int .i64 2, .int .i64 0, .int .i64 4, .int .i64 20, .int .u64 0, .int .u32 0, .string ⟨#[]⟩] ++ cs) (1 + m) := hty.cons
  have hFirst : First ([.int .i64 2, .int .i64 0, .int .i64 4, .int .i64 20, .int .u64 0, .int .u32 0, .string ⟨#[]⟩] ++ cs) := ⟨rfl, rfl, rfl⟩
  go_enter Tryd.func13, Tryd.ntmps13
  go_upto_region 4 with (at_builtin; (refine wpList_append_far _ rfl _ _ 22 rfl 89 i0 _ 7 64 Tryd.underlying22 hi hz0 hz1 hz2 rfl (by decide) (.slice (some ⟨w.heap.size, 0, none⟩) 1 1) 1 _ rfl hF ad m c cs rfl hl (fun j u hu => cellNew (hcs j u hu) _) hone hm0 (by unfold maxLen; omega) (by omega) ?_; intro R rcap w1 ho1 hg1 ha1 hRlt))
  have hR : w.heap.size ≤ R := by
    rcases ha1 with q | q
    · simp [Value.ownBlock] at q; omega
    · simp at q; omega
  have hB1 : Below w.heap.size w w1 := ((Below.refl w.heap.size w).alloc (Nat.le_refl _) _).grown hg1 (by simp) (fun k hk => by simp [Value.ownBlock] at hk; omega)
  generalize [Value.int .i64 2, .int .i64 0, .int .i64 4, .int .i64 20, .int .u64 0, .int .u32 0, .string ⟨#[]⟩] ++ cs = xs at ho1 hTy hFirst
  have HTY := hide hTy
  have HFI := hide hFirst
  clear hF hTy hFirst hg1 ha1 hcs hone hty hl
  have hnot := notOp
  go_wp2
  go_loopw [5, 7] (fun nv i wr => ∃ (k : Nat) (L : List NetA) (nsl : Option Addr) (ncap : Nat), k ≤ 1 + m ∧ i = .int .i64 k ∧ nv = .slice nsl L.length ncap ∧ Game w.heap.size R (1 + m) rcap xs k wr L nsl ncap ∧ (k = 0 ∨ 0 < L.length) ∧ Below w.heap.size w wr) (fun _ i _ => 1 + m - (intOf i).toNat)
  case atStart => exact ⟨0, [], none, 0, Nat.zero_le _, rfl, rfl, ⟨ho1, World.ownsRow_nil _ _ _ _, by simp, by simp, by simp, by simp, by simp, hR, by simp [Value.ownBlock], by simp, hpos⟩, .inl rfl, hB1⟩
  case round =>
    obtain ⟨k, L, nsl, ncap, hk, rfl, rfl, hg, hL, hb⟩ := hrel
    by_cases hlt : k < 1 + m
    · obtain ⟨kk, aa, bb, mm, nonce, mask, s, t0, t1, t2, t3, t4, t5, t6, b1, b2, b3, b4, b5, b6, b7, b8⟩ := (unhide HTY) k hlt
      have r0 := owns_cell hg.row (g := R) rfl t0
      have r1 := owns_cell hg.row (g := R) rfl t1
      have r2 := owns_cell hg.row (g := R) rfl t2
      have r3 := owns_cell hg.row (g := R) rfl t3
      have r4 := owns_cell hg.row (g := R) rfl t4
      have r5 := owns_cell hg.row (g := R) rfl t5
      have r6 := owns_cell hg.row (g := R) rfl t6
      have hlt' : (k : Int) < 1 + (m : Int) := by omega
      have hk0 : (0 : Int) ≤ (k : Int) := by omega
      have zw := hb.size
      have ta : Turn [] wr (wr.alloc (.cells (opCells kk aa bb mm nonce mask s) 89)) := (Turn.refl _ _).alloc _
      have hga := hg.same ta
      have hba : Below w.heap.size w (wr.alloc (.cells (opCells kk aa bb mm nonce mask s) 89)) := hb.alloc zw _
      have hzero : k = 0 → kk = 2 ∧ bb = 4 ∧ mm = 20 := fun e => by
        subst e
        have f := unhide HFI
        refine ⟨?_, ?_, ?_⟩
        · have := t0.symm.trans f.1; simpa using this
        · have := t2.symm.trans f.2.1; simpa using this
        · have := t3.symm.trans f.2.2; simpa using this
      have HTAB : Hid (Tab (wr.alloc (.cells (opCells kk aa bb mm nonce mask s) 89))) := (unhide HT0).turn (Turn.below (S := []) hba (Nat.le_refl _)) (by simp)
      have HZ := hide hzero
      have HL := hide hL
      clear hzero hL t0 t1 t2 t3 t4 t5 t6
      by_cases c1 : kk = 1
      · subst c1
        go_wp2_with fail
        refine (rows_any nonce bb mm _).mono ?_
        rintro e w2 ⟨rfl, hb2⟩
        have hLpos : 0 < L.length := by
          rcases unhide HL with q | q
          · have := (unhide HZ q).1; omega
          · exact q
        have GM := (hga.same (Below.toTurn (S := []) hb2)).next
        have hb2' := hba.trans (hb2.mono hba.size)
        have hLb : (L).length ≤ 4611686018427387904 := by have := GM.len; omega
        go_wp2
        go_loopw [13] (fun j wz => ∃ q : Nat, q ≤ (L).length ∧ j = .int .i64 q ∧ Turn [] w2 wz) (fun j _ => (L).length - (intOf j).toNat)
        case atStart => exact ⟨0, Nat.zero_le _, rfl, Turn.refl _ _⟩
        case round =>
          obtain ⟨q, hq, rfl, tq⟩ := hrel
          have G3 := GM.same tq
          by_cases hq2 : q < (L).length
          · obtain ⟨gn, hgn, hcn⟩ := netCellAt G3 hq2
            have hq3 : (q : Int) < (((L).length : Nat) : Int) := by omega
            have hq0 : (0 : Int) ≤ (q : Int) := by omega
            have HST := hide (G3.still (by omega) hq2)
            subst hgn
            go_wp2_with fail
            refine (unhide HST).mono ?_
            rintro e w8 ⟨rfl, hb8⟩
            go_wp2
            refine ⟨⟨q + 1, by omega, by go_num, tq.trans (Below.toTurn (S := []) hb8) (by simp)⟩, by simp [intOf]; omega⟩
          · have hq3 : ¬ (q : Int) < (((L).length : Nat) : Int) := by omega
            have HG3 := hide G3
            have HB3 := hide (Below.trans hb2' (tq.toBelow (B := w.heap.size) (Below.size hb2') (by simp)))
            clear G3
            go_wp2
            go_roundw
            case rel => exact ⟨k + 1, L, nsl, ncap, by omega, by go_num, rfl, unhide HG3, .inr (by omega), unhide HB3⟩
            case measure => simp [intOf]; omega
      · have n1 : (kk == 1) = false := by simpa using c1
        by_cases c2 : kk = 2
        · subst c2
          by_cases hgood : goodB bb mm = true
          · have hgd : 1 ≤ bb ∧ bb ≤ 32 ∧ 1 ≤ mm ∧ mm ≤ 1000 := by simpa [goodB] using hgood
            obtain ⟨blk, rfl⟩ := Int.eq_ofNat_of_zero_le (show 0 ≤ bb by omega)
            obtain ⟨bud, rfl⟩ := Int.eq_ofNat_of_zero_le (show 0 ≤ mm by omega)
            go_wp2_with fail
            refine (anewA_good blk bud _ (unhide HTAB) (by omega) (by omega) (by omega) (by omega)).mono ?_
            rintro e w2 ⟨bn, bs, br, F, rfl, hb2, IN, hnew⟩
            have HNEW := hide hnew
            have T2 := Below.toTurn (S := []) hb2
            have hga2 := hga.same T2
            have hb2' := hba.trans (hb2.mono hba.size)
            have z2 := hb2'.size
            have HIN := hide IN
            clear IN hnew
            have hllen := hg.len
            go_upto_region 19 with (at_builtin; (refine wpList_append_far _ rfl _ _ 87 rfl 91 j0 _ 1 8 Tryd.underlying87 hj hy0 hy1 hy2 rfl (by decide) (.slice nsl L.length ncap) L.length _ rfl (hga2.nets.alloc _) ⟨w2.heap.size, 0, none⟩ 1 1 [.pointer (some ⟨bn, 0, none⟩)] rfl rfl (World.news_of_block (heap_alloc_new w2 _)) (by intro u hu; simp at hu; subst hu; rfl) (by decide) (by unfold maxLen; omega) (by omega) ?_; intro g' cap' w3 ho3 hg3 ha3 hlt3))
            have T3 : Turn (Value.slice nsl L.length ncap).ownBlock.toList w2 w3 := ((Turn.refl _ w2).alloc _).grown hg3 (fun x hx => .inl (by simp [hx]))
            have zwr := hba.size
            have GM := hga.more (N := NetA.fresh bn bs br blk bud F) T2 (unhide HIN) rfl rfl (unhide HNEW) rfl hba.size T3 ho3 (by rcases ha3 with q | q; exact .inl q; right; simp at q; omega)
            have hb3 : Below w.heap.size w w3 := hba.trans (hga.turnN T2 hba.size T3)
            have len1 : (L ++ [NetA.fresh bn bs br blk bud F]).length = L.length + 1 := by simp
            have GM2 := GM
            clear ho3 hg3 ha3 hga2 T3
            obtain ⟨L2, hL2⟩ : ∃ L2, L2 = L ++ [NetA.fresh bn bs br blk bud F] := ⟨_, rfl⟩
            rw [← hL2] at GM GM2 len1
            have HL2 := hide hL2
            clear hL2
            rw [← len1]
            have HLEN := hide len1
            clear len1
            have hLb : (L2).length ≤ 4611686018427387904 := by have := GM.len; omega
            go_wp2
            go_loopw [13] (fun j wz => ∃ q : Nat, q ≤ (L2).length ∧ j = .int .i64 q ∧ Turn [] w3 wz) (fun j _ => (L2).length - (intOf j).toNat)
            case atStart => exact ⟨0, Nat.zero_le _, rfl, Turn.refl _ _⟩
            case round =>
              obtain ⟨q, hq, rfl, tq⟩ := hrel
              have G3 := GM.same tq
              by_cases hq2 : q < (L2).length
              · obtain ⟨gn, hgn, hcn⟩ := netCellAt G3 hq2
                have hq3 : (q : Int) < (((L2).length : Nat) : Int) := by omega
                have hq0 : (0 : Int) ≤ (q : Int) := by omega
                have HST := hide (G3.still (by omega) hq2)
                obtain rfl : _ = gn := (by simpa using hgn)
                go_wp2_with fail
                refine (unhide HST).mono ?_
                rintro e w8 ⟨rfl, hb8⟩
                go_wp2
                refine ⟨⟨q + 1, by omega, by go_num, tq.trans (Below.toTurn (S := []) hb8) (by simp)⟩, by simp [intOf]; omega⟩
              · have hq3 : ¬ (q : Int) < (((L2).length : Nat) : Int) := by omega
                have HG3 := hide G3
                have HB3 := hide (Below.trans hb3 (tq.toBelow (B := w.heap.size) (Below.size hb3) (by simp)))
                clear G3
                go_wp2
                go_roundw
                case rel => exact ⟨k + 1, L2, (some ⟨g', 0, none⟩), cap', by omega, by go_num, rfl, unhide HG3, .inr (by have := unhide HLEN; omega), unhide HB3⟩
                case measure => simp [intOf]; omega
          · have hgf : goodB bb mm = false := by simpa using hgood
            go_wp2_with fail
            refine (anewA_bad bb mm _ hgf).mono ?_
            rintro e w2 ⟨rfl, hb2⟩
            have hLpos : 0 < L.length := by
              rcases unhide HL with q | q
              · obtain ⟨_, rfl, rfl⟩ := unhide HZ q
                exact absurd hgf (by decide)
              · exact q
            have GM := (hga.same (Below.toTurn (S := []) hb2)).next
            have hb2' := hba.trans (hb2.mono hba.size)
            have hLb : (L).length ≤ 4611686018427387904 := by have := GM.len; omega
            go_wp2
            go_loopw [13] (fun j wz => ∃ q : Nat, q ≤ (L).length ∧ j = .int .i64 q ∧ Turn [] w2 wz) (fun j _ => (L).length - (intOf j).toNat)
            case atStart => exact ⟨0, Nat.zero_le _, rfl, Turn.refl _ _⟩
            case round =>
              obtain ⟨q, hq, rfl, tq⟩ := hrel
              have G3 := GM.same tq
              by_cases hq2 : q < (L).length
              · obtain ⟨gn, hgn, hcn⟩ := netCellAt G3 hq2
                have hq3 : (q : Int) < (((L).length : Nat) : Int) := by omega
                have hq0 : (0 : Int) ≤ (q : Int) := by omega
                have HST := hide (G3.still (by omega) hq2)
                subst hgn
                go_wp2_with fail
                refine (unhide HST).mono ?_
                rintro e w8 ⟨rfl, hb8⟩
                go_wp2
                refine ⟨⟨q + 1, by omega, by go_num, tq.trans (Below.toTurn (S := []) hb8) (by simp)⟩, by simp [intOf]; omega⟩
              · have hq3 : ¬ (q : Int) < (((L).length : Nat) : Int) := by omega
                have HG3 := hide G3
                have HB3 := hide (Below.trans hb2' (tq.toBelow (B := w.heap.size) (Below.size hb2') (by simp)))
                clear G3
                go_wp2
                go_roundw
                case rel => exact ⟨k + 1, L, nsl, ncap, by omega, by go_num, rfl, unhide HG3, .inr (by omega), unhide HB3⟩
                case measure => simp [intOf]; omega
        · have n2 : (kk == 2) = false := by simpa using c2
          have hLpos : 0 < L.length := by
            rcases unhide HL with q | q
            · exact absurd (unhide HZ q).1 c2
            · exact q
          by_cases c3 : kk < 1 ∨ 12 < kk
          · have GM := hga.next
            by_cases d1 : kk < 1
            · have q1 : decide (kk < 1) = true := by simpa using d1
              have hLb : (L).length ≤ 4611686018427387904 := by have := GM.len; omega
              go_wp2
              go_loopw [13] (fun j wz => ∃ q : Nat, q ≤ (L).length ∧ j = .int .i64 q ∧ Turn [] (wr.alloc (.cells (opCells kk aa bb mm nonce mask s) 89)) wz) (fun j _ => (L).length - (intOf j).toNat)
              case atStart => exact ⟨0, Nat.zero_le _, rfl, Turn.refl _ _⟩
              case round =>
                obtain ⟨q, hq, rfl, tq⟩ := hrel
                have G3 := GM.same tq
                by_cases hq2 : q < (L).length
                · obtain ⟨gn, hgn, hcn⟩ := netCellAt G3 hq2
                  have hq3 : (q : Int) < (((L).length : Nat) : Int) := by omega
                  have hq0 : (0 : Int) ≤ (q : Int) := by omega
                  have HST := hide (G3.still (by omega) hq2)
                  subst hgn
                  go_wp2_with fail
                  refine (unhide HST).mono ?_
                  rintro e w8 ⟨rfl, hb8⟩
                  go_wp2
                  refine ⟨⟨q + 1, by omega, by go_num, tq.trans (Below.toTurn (S := []) hb8) (by simp)⟩, by simp [intOf]; omega⟩
                · have hq3 : ¬ (q : Int) < (((L).length : Nat) : Int) := by omega
                  have HG3 := hide G3
                  have HB3 := hide (Below.trans hba (tq.toBelow (B := w.heap.size) (Below.size hba) (by simp)))
                  clear G3
                  go_wp2
                  go_roundw
                  case rel => exact ⟨k + 1, L, nsl, ncap, by omega, by go_num, rfl, unhide HG3, .inr (by omega), unhide HB3⟩
                  case measure => simp [intOf]; omega
            · have q1 : decide (kk < 1) = false := by simpa using d1
              have q2 : decide (12 < kk) = true := by simp; omega
              have hLb : (L).length ≤ 4611686018427387904 := by have := GM.len; omega
              go_wp2
              go_loopw [13] (fun j wz => ∃ q : Nat, q ≤ (L).length ∧ j = .int .i64 q ∧ Turn [] (wr.alloc (.cells (opCells kk aa bb mm nonce mask s) 89)) wz) (fun j _ => (L).length - (intOf j).toNat)
              case atStart => exact ⟨0, Nat.zero_le _, rfl, Turn.refl _ _⟩
              case round =>
                obtain ⟨q, hq, rfl, tq⟩ := hrel
                have G3 := GM.same tq
                by_cases hq2 : q < (L).length
                · obtain ⟨gn, hgn, hcn⟩ := netCellAt G3 hq2
                  have hq3 : (q : Int) < (((L).length : Nat) : Int) := by omega
                  have hq0 : (0 : Int) ≤ (q : Int) := by omega
                  have HST := hide (G3.still (by omega) hq2)
                  subst hgn
                  go_wp2_with fail
                  refine (unhide HST).mono ?_
                  rintro e w8 ⟨rfl, hb8⟩
                  go_wp2
                  refine ⟨⟨q + 1, by omega, by go_num, tq.trans (Below.toTurn (S := []) hb8) (by simp)⟩, by simp [intOf]; omega⟩
                · have hq3 : ¬ (q : Int) < (((L).length : Nat) : Int) := by omega
                  have HG3 := hide G3
                  have HB3 := hide (Below.trans hba (tq.toBelow (B := w.heap.size) (Below.size hba) (by simp)))
                  clear G3
                  go_wp2
                  go_roundw
                  case rel => exact ⟨k + 1, L, nsl, ncap, by omega, by go_num, rfl, unhide HG3, .inr (by omega), unhide HB3⟩
                  case measure => simp [intOf]; omega
          · have hkk : 3 ≤ kk ∧ kk ≤ 12 := by omega
            have q1 : decide (kk < 1) = false := by simp; omega
            have q2 : decide (12 < kk) = false := by simp; omega
            have HKK := hide hkk
            clear hkk c3
            have hgal := hga.len
            go_wp2_with fail
            refine (pick_any aa L.length _ b1 b2 hLpos (by omega)).mono ?_
            rintro e w2 ⟨p, hp, rfl, rfl⟩
            obtain ⟨gn, hgn, hcn⟩ := netCellAt hg hp
            have hgnl : gn < wr.heap.size := World.block_lt_of_cell? _ _ hcn
            have hp0 : (0 : Int) ≤ (p : Int) := by omega
            have hp1 : (p : Int) < (L.length : Int) := by omega
            have C := hg.cnt _ (List.getElem_mem hp)
            have CC := hide C
            have IP := hide (hga.inv _ (List.getElem_mem hp))
            clear C
            subst hgn
            go_wp2_with fail
            refine (stepA_any L[p] kk aa bb mm nonce mask s _ (unhide IP) (by have := unhide CC; omega) (by have := unhide CC; omega) b3 b4 b5 b6 b7 b8 (unhide HKK).1 (unhide HKK).2).mono ?_
            rintro e w3 ⟨rfl, N', st⟩
            have GM := hga.step hp st hba.size
            have hb3 := hba.trans (hga.turnB hp st hba.size)
            have len1 : (L.set p N').length = L.length := List.length_set
            obtain ⟨L2, hL2⟩ : ∃ L2, L2 = L.set p N' := ⟨_, rfl⟩
            rw [← hL2] at GM len1
            have GM' : Game w.heap.size R (1 + m) rcap xs (k + 1) w3 L2 (some ⟨gn, 0, none⟩) ncap := GM
            have HST2 := hide st
            clear st hL2 GM hg hga
            have hLpos2 : 0 < L2.length := by omega
            rw [← len1]
            have HLEN := hide len1
            clear len1
            have hLb : (L2).length ≤ 4611686018427387904 := by have := GM'.len; omega
            go_wp2
            go_loopw [13] (fun j wz => ∃ q : Nat, q ≤ (L2).length ∧ j = .int .i64 q ∧ Turn [] w3 wz) (fun j _ => (L2).length - (intOf j).toNat)
            case atStart => exact ⟨0, Nat.zero_le _, rfl, Turn.refl _ _⟩
            case round =>
              obtain ⟨q, hq, rfl, tq⟩ := hrel
              have G3 := GM'.same tq
              by_cases hq2 : q < (L2).length
              · obtain ⟨gn, hgn, hcn⟩ := netCellAt G3 hq2
                have hq3 : (q : Int) < (((L2).length : Nat) : Int) := by omega
                have hq0 : (0 : Int) ≤ (q : Int) := by omega
                have HST := hide (G3.still (by omega) hq2)
                obtain rfl : _ = gn := (by simpa using hgn)
                go_wp2_with fail
                refine (unhide HST).mono ?_
                rintro e w8 ⟨rfl, hb8⟩
                go_wp2
                refine ⟨⟨q + 1, by omega, by go_num, tq.trans (Below.toTurn (S := []) hb8) (by simp)⟩, by simp [intOf]; omega⟩
              · have hq3 : ¬ (q : Int) < (((L2).length : Nat) : Int) := by omega
                have HG3 := hide G3
                have HB3 := hide (Below.trans hb3 (tq.toBelow (B := w.heap.size) (Below.size hb3) (by simp)))
                clear G3
                go_wp2
                go_roundw
                case rel => exact ⟨k + 1, L2, (some ⟨gn, 0, none⟩), ncap, by omega, by go_num, rfl, unhide HG3, .inr (by omega), unhide HB3⟩
                case measure => simp [intOf]; omega
    · have hlt' : ¬ (k : Int) < 1 + (m : Int) := by omega
      go_wp2
      go_ret
      exact ⟨rfl, hb⟩

end Go.Proofs.YtfbbidaoljfloaaDoor
