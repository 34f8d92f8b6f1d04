import Derived.Test.YtfbbidaoljfloaaDoorL6
namespace Go.Proofs.YtfbbidaoljfloaaDoor
open Go.RowKit

set_option maxHeartbeats 1000000 in
theorem lawSubmit_yes (N : NetM) (k a n m nonce mask : Int) (s : ByteArray) (w : World) (h : Inv w N) (y1 : ¬ 32 * (N.blk : Int) < (s.size : Int)) (y2 : N.os.length < 500) (y3 : cntSt N.os 1 < 8) :
    Calls Tryd.prog 60 #[.pointer (some ⟨N.bn, 0, none⟩), opV k a n m nonce mask s] w fun e w' => e = .returned (.bool true) ∧ ∃ N', Stp w N w' N' := by
  have A := h.aps
  have hb1 := h.blk1
  have hb2 := h.blk2
  have hce := h.shape.counts
  have hcd := h.shape.drops
  obtain ⟨n0, n2, n3, n4, n10, nlt⟩ := h.netCell
  obtain ⟨W, hW⟩ : ∃ W, W = w.alloc (.cells (opCells k a n m nonce mask s) 89) := ⟨_, rfl⟩
  have t0 : Turn [] w W := by rw [hW]; exact (Turn.refl _ _).alloc _
  have hX : W.heap[w.heap.size]? = some (.cells (opCells k a n m nonce mask s) 89 (0, 0)) := by rw [hW]; exact heap_alloc_new _ _
  have x6 : W.cell? ⟨w.heap.size, 6, none⟩ = some (.string s) := by rw [cell_of_row _ _ _ _ _ _ hX]; rfl
  have x4 : W.cell? ⟨w.heap.size, 4, none⟩ = some (.int .u64 nonce) := by rw [cell_of_row _ _ _ _ _ _ hX]; rfl
  have y0 : W.cell? ⟨N.bn, 0, none⟩ = some (.pointer (some ⟨N.bs, 0, none⟩)) := (t0.cell (p := ⟨N.bn, 0, none⟩) nlt (by simp)).trans n0
  have hI0 : Inv W N := h.turn t0 (by simp) (by simp)
  have HW : Hid (W = w.alloc (.cells (opCells k a n m nonce mask s) 89)) := hW
  have zW : w.heap.size < W.heap.size := lt_of_heap hX
  have sblt : N.bs < w.heap.size := lt_of_heap h.snd
  have plt : ∀ k, N.pv.ownBlock = some k → k < w.heap.size := fun k hk => h.lt k ((N.mem_blocks k).2 (by simp [NetM.own, hk]))
  have rlt : ∀ k, N.rv.ownBlock = some k → k < w.heap.size := fun k hk => h.lt k ((N.mem_blocks k).2 (by simp [NetM.own, hk]))
  have hc8 : cntSt (N.ps.drop N.en) 1 < 8 := by rw [hcd, ← hce]; exact y3
  have HSH : Hid (Shape N.blk N.bud N.en (N.os ++ [⟨s, nonce, 1, 0⟩]) (N.ps ++ [⟨s, nonce, 1, 0⟩])) := h.shape.submit s nonce y2 y3 (by omega)
  have hmem : ∀ b : Nat, b ≠ N.bs → N.pv.ownBlock ≠ some b → b ∉ N.bs :: N.pv.ownBlock.toList := by
    intro b h1 h2 hm
    simp only [List.mem_cons, Option.mem_toList] at hm
    rcases hm with q | q
    · exact h1 q
    · exact h2 q
  have mX : w.heap.size ∉ N.bs :: N.pv.ownBlock.toList := hmem _ (by omega) (fun q => by have := plt _ q; omega)
  have mN : N.bn ∉ N.bs :: N.pv.ownBlock.toList := hmem _ A.ns A.np
  have mX2 : w.heap.size ∉ N.rv.ownBlock.toList := not_mem_toList (fun q => by have := rlt _ q; omega)
  have mN2 : N.bn ∉ N.rv.ownBlock.toList := not_mem_toList A.nr
  have hXN : w.heap.size ≠ N.bn := by omega
  have HY1 : Hid (¬ 32 * (N.blk : Int) < (s.size : Int)) := y1
  clear hW hce hcd y1
  unfold opV
  go_enter Tryd.func60, Tryd.ntmps60
  go_wp2_with fail
  rw [show w.alloc (.cells #[.int .i64 k, .int .i64 a, .int .i64 n, .int .i64 m, .int .u64 nonce, .int .u32 mask, .string s] 89) = W from HW.out.symm]
  go_region_held3 (fun v => v.cell? ⟨N.bn, 0, none⟩ = some (.pointer (some ⟨N.bs, 0, none⟩)) ∧ v.cell? ⟨w.heap.size, 6, none⟩ = some (.string s) ∧ v.cell? ⟨w.heap.size, 4, none⟩ = some (.int .u64 nonce))
    (first | exact ⟨y0, x6, x4⟩ | exact ⟨(T1.cell (p := ⟨N.bn, 0, none⟩) (World.block_lt_of_cell? _ _ y0) mN).trans y0, (T1.cell (p := ⟨w.heap.size, 6, none⟩) zW mX).trans x6, (T1.cell (p := ⟨w.heap.size, 4, none⟩) zW mX).trans x4⟩)
    (first | (go_at_call 17; refine (submit_yes N.bs N.blk N.bud s nonce N.psl N.os.length N.pcap N.en N.ps _ (by exact hI0.snd) (by exact ⟨hI0.pth.owns, hI0.pth.len⟩) A.sp (by omega) (by omega) (by have := HY1.out; omega) y2 h.shape.le hc8).mono ?_; rintro e w1 ⟨rfl, T1, g1, c1, S1, P1, a1⟩))
  rename_i hH
  obtain ⟨z0, z6, z4⟩ := hH
  have TT1 : Turn (N.bs :: N.pv.ownBlock.toList) w w1 := (((t0.mono (by simp)).drew)).trans T1 (fun x hx => .inl hx)
  have m2 : w1.cell? ⟨N.bn, 2, none⟩ = some (.int .i64 N.blk) := (TT1.cell (p := ⟨N.bn, 2, none⟩) nlt mN).trans n2
  have m4 : w1.cell? ⟨N.bn, 4, none⟩ = some N.rv := (TT1.cell (p := ⟨N.bn, 4, none⟩) nlt mN).trans n4
  have f4 : w1.frozen? ⟨N.bn, 4, none⟩ = false := (TT1.frozen (p := ⟨N.bn, 4, none⟩) nlt mN).trans (h.hold.froz 4)
  have R1 : Things w1 158 N.rsl N.os.length N.rcap N.os := h.rth.turn TT1 (fun k hk => hmem k (fun q => A.sr (by rw [← q]; exact hk)) (fun q => A.pr k q hk))
  have zw1 : w.heap.size < w1.heap.size := World.block_lt_of_cell? _ _ z6
  have nlt1 : N.bn < w1.heap.size := by omega
  go_wp2_with fail
  go_region_held3 (fun v => v.cell? ⟨w.heap.size, 6, none⟩ = some (.string s) ∧ v.cell? ⟨w.heap.size, 4, none⟩ = some (.int .u64 nonce))
    (first | exact ⟨z6, z4⟩ | exact ⟨(T3.cell (p := ⟨w.heap.size, 6, none⟩) zw1 (by simp only [List.mem_cons, not_or]; exact ⟨hXN, mX2⟩)).trans z6, (T3.cell (p := ⟨w.heap.size, 4, none⟩) zw1 (by simp only [List.mem_cons, not_or]; exact ⟨hXN, mX2⟩)).trans z4⟩)
    (first | (go_at_call 87; refine (refSubmit_yes N.bn N.blk s nonce N.rsl N.os.length N.rcap N.os _ (by exact m2) (by exact m4) (by exact f4) (by exact ⟨R1.owns, R1.len⟩) y2 (by omega) (by omega) (by have := HY1.out; omega) y3 A.nr).mono ?_; rintro e w3 ⟨rfl, g2, c2, w2, T2, hw3, R2, a2⟩; subst hw3; have T3 : Turn (N.bn :: N.rv.ownBlock.toList) w1.drew (w2.setCell ⟨N.bn, 4, none⟩ (.slice (some ⟨g2, 0, none⟩) (N.os.length + 1) c2)) := (by exact (T2.mono (fun x hx => List.mem_cons_of_mem _ hx)).setCell (.inl (by simp)) _)))
  have T2' : Turn N.rv.ownBlock.toList w1 w2 := ((Turn.refl _ w1).drew).trans T2 (fun x hx => .inl hx)
  go_wp2_with fail
  refine (num_any _ _).mono ?_
  rintro e w4 ⟨rfl, rfl⟩
  go_wp2
  go_ret
  refine ⟨rfl, N.submitted ⟨s, nonce, 1, 0⟩ g1 c1 g2 c2, ?_⟩
  refine h.submitted ⟨s, nonce, 1, 0⟩ g1 c1 g2 c2 TT1 S1 P1 ?_ T2' R2 a2 HSH.out
  rcases a1 with q | q
  · exact .inl q
  · right; simp at q; omega

end Go.Proofs.YtfbbidaoljfloaaDoor
