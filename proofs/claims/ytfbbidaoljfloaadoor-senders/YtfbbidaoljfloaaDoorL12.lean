import Derived.Test.YtfbbidaoljfloaaDoorL11
namespace Go.Proofs.YtfbbidaoljfloaaDoor
open Go.RowKit

set_option maxRecDepth 100000 in
set_option maxHeartbeats 4000000 in
theorem step_status_good (N : NetM) (a m nonce mask : Int) (s : ByteArray) (k : Nat) (w : World) (h : Inv w N) (hk : k < N.os.length) :
    Calls Tryd.prog 36 #[.pointer (some ⟨N.bn, 0, none⟩), opV 5 a ((k : Int) + 1) m nonce mask s] w fun e w' => e = .returned (.bool true) ∧ ∃ N', Stp w N w' N' := by
  have A := h.aps
  have hl5 := h.shape.n500
  obtain ⟨W, hW⟩ : ∃ W, W = w.alloc (.cells (opCells 5 a ((k : Int) + 1) m nonce mask s) 89) := ⟨_, rfl⟩
  have t0 : Turn [] w W := by rw [hW]; exact (Turn.refl _ _).alloc _
  have hX : W.heap[w.heap.size]? = some (.cells (opCells 5 a ((k : Int) + 1) m nonce mask s) 89 (0, 0)) := by rw [hW]; exact heap_alloc_new _ _
  have hI0 : Inv W N := h.turn t0 (by simp) (by simp)
  have x2 : W.cell? ⟨w.heap.size, 2, none⟩ = some (.int .i64 ((k : Int) + 1)) := by rw [cell_of_row _ _ _ _ _ _ hX]; rfl
  have zW : w.heap.size < W.heap.size := lt_of_heap hX
  have sblt : N.bs < w.heap.size := lt_of_heap h.snd
  have hXb : w.heap.size ∉ N.blocks := fun hm => by have := h.lt _ hm; omega
  obtain ⟨gr, o, hrs, ho, r0, r1, r2, r3, rf⟩ := h.rth.at hk
  have hpl := h.shape.len
  have hp : N.ps[k]? = some (N.ps[k]'(by omega)) := List.getElem?_eq_getElem (by omega)
  generalize N.ps[k]'(by omega) = p at hp
  obtain ⟨hst, hse⟩ := h.shape.stat k o p ho hp
  have OK : ∀ v, Stp W N v N → v.cell? ⟨N.bn, 0, none⟩ = some (.pointer (some ⟨N.bs, 0, none⟩)) ∧ v.cell? ⟨w.heap.size, 2, none⟩ = some (.int .i64 ((k : Int) + 1)) ∧ Stp W N v N :=
    fun v st => ⟨st.inv.netCell.1, (st.turn.cell (p := ⟨w.heap.size, 2, none⟩) zW hXb).trans x2, st⟩
  have OR : ∀ v, Stp W N v N → v.cell? ⟨N.bn, 4, none⟩ = some (.slice (some ⟨gr, 0, none⟩) N.os.length N.rcap) ∧ v.cell? ⟨w.heap.size, 2, none⟩ = some (.int .i64 ((k : Int) + 1)) ∧
      v.cell? ⟨gr, k * 4, none⟩ = some (.string o.data) ∧ v.cell? ⟨gr, k * 4 + 1, none⟩ = some (.int .u64 o.nonce) ∧ v.cell? ⟨gr, k * 4 + 2, none⟩ = some (.int .i64 o.st) ∧ v.cell? ⟨gr, k * 4 + 3, none⟩ = some (.int .i64 o.sent) ∧ Stp W N v N := fun v st => by
    obtain ⟨g', o', hrs', ho', q0, q1, q2, q3, _⟩ := st.inv.rth.at hk
    obtain rfl : g' = gr := by rw [hrs] at hrs'; simpa using hrs'.symm
    obtain rfl : o' = o := by rw [ho] at ho'; simpa using ho'.symm
    refine ⟨?_, (OK v st).2.1, q0, q1, q2, q3, st⟩
    have := st.inv.netCell.2.2.2.1
    rw [this, NetM.rv, hrs]
  have HOK := hide OK
  have HOR := hide OR
  have HW : Hid (W = w.alloc (.cells (opCells 5 a ((k : Int) + 1) m nonce mask s) 89)) := hW
  have wbs : W.heap.size ≠ N.bs := by omega
  have HP := hide hp
  have HST := hide hst
  have HSE := hide hse
  have q1 : decide ((k : Int) + 1 < 1) = false := by simp; omega
  have q2 : decide ((N.os.length : Int) < (k : Int) + 1) = false := by simp; omega
  have hk0 : (0 : Int) ≤ (k : Int) := by omega
  have hk1 : (k : Int) < (N.os.length : Int) := by omega
  have hk2 : (k : Int) + 1 - 1 = (k : Int) := by omega
  have hwr1 : IntKind.i64.wrap (k : Int) = (k : Int) := by simp [IntKind.wrap, IntKind.signed, IntKind.bits]; omega
  have hwr2 : IntKind.i64.wrap ((k : Int) + 1 - 1) = (k : Int) := by rw [hk2]; exact hwr1
  clear hW OK OR hp hst hse ho r0 r1 r2 r3 rf hrs
  unfold opV
  go_enter Tryd.func36, Tryd.ntmps36
  go_wp2_with fail
  rw [show w.alloc (.cells #[.int .i64 5, .int .i64 a, .int .i64 ((k : Int) + 1), .int .i64 m, .int .u64 nonce, .int .u32 mask, .string s] 89) = W from HW.out.symm]
  go_region_held3 (fun v => v.cell? ⟨N.bn, 0, none⟩ = some (.pointer (some ⟨N.bs, 0, none⟩)) ∧ v.cell? ⟨w.heap.size, 2, none⟩ = some (.int .i64 ((k : Int) + 1)) ∧ Stp W N v N)
    (first | exact unhide HOK _ (Stp.same hI0 ((Turn.refl _ _).drew)) | exact unhide HOK _ ST1 | exact unhide HOK _ (ST1.alloc _) | exact unhide HOK _ (Stp.fresh hI0 (Stp.fresh hI0 ST1 (Nat.le_refl _) _ _) (Nat.le_refl _) _ _) | exact unhide HOK _ ((Stp.same hI0 ((Turn.refl _ _).alloc _)).draw))
    (first | (go_at_call 22; go_split_ands; refine (status_good N.bs N.blk N.bud N.psl N.os.length N.pcap k N.en N.ps p _ (Inv.snd (Stp.inv (by assumption))) (Inv.pth (Stp.inv (by assumption))) A.sp hl5 hk (unhide HP)).mono ?_; rintro e w1 ⟨rfl, T1, S1⟩; obtain ⟨hcc, hff⟩ := T1.one; have ST1 : Stp W N w1 N := Stp.more (by assumption) (Inv.asked (Stp.inv (by assumption)) T1 S1)))
  · rename_i hH
    obtain ⟨_, _, ST⟩ := hH
    obtain ⟨e4, e2, _⟩ := unhide HOR _ ST1
    have l1 : N.bn < w1.heap.size := World.block_lt_of_cell? _ _ e4
    have l2 : w.heap.size < w1.heap.size := World.block_lt_of_cell? _ _ e2
    have l3 : N.bn < w.heap.size := lt_of_heap h.hold.net
    have l4 : N.bn ≠ W.heap.size := by omega
    have l5 : w.heap.size ≠ W.heap.size := by omega
    have a0 : (w1.alloc (.cells #[.int .i64 p.st, .int .i64 p.sent] 45)).cell? ⟨w1.heap.size, 0, none⟩ = some (.int .i64 o.st) := by rw [← unhide HST]; (rw [cell_of_row _ _ _ _ _ _ (heap_alloc_new w1 _)]; rfl)
    have a1 : (w1.alloc (.cells #[.int .i64 p.st, .int .i64 p.sent] 45)).cell? ⟨w1.heap.size, 1, none⟩ = some (.int .i64 o.sent) := by rw [← unhide HSE]; (rw [cell_of_row _ _ _ _ _ _ (heap_alloc_new w1 _)]; rfl)
    have HC := hide hcc
    clear hcc hff
    generalize w1.alloc (.cells #[.int .i64 p.st, .int .i64 p.sent] 45) = v at *
    obtain ⟨b4, b2, _⟩ := unhide HOR _ ST
    go_wp2_with fail
    go_quiet (fail)
    go_wp2_with fail
    have ST2 := ST.draws nq
    have A0 : (v.drewN nq).cell? ⟨w1.heap.size, 0, none⟩ = some (.int .i64 o.st) := a0
    have A1 : (v.drewN nq).cell? ⟨w1.heap.size, 1, none⟩ = some (.int .i64 o.sent) := a1
    clear a0 a1 b4 b2 e4 e2 ST T1 S1 ST1 HC
    generalize v.drewN nq = v2 at *
    obtain ⟨e4, e2, g0, g1, g2, g3, _⟩ := unhide HOR _ ST2
    have hAlt : w1.heap.size < v2.heap.size := World.block_lt_of_cell? _ _ A0
    have hglt : gr < v2.heap.size := World.block_lt_of_cell? _ _ g0
    have hnlt : N.bn < v2.heap.size := World.block_lt_of_cell? _ _ e4
    have hxlt : w.heap.size < v2.heap.size := World.block_lt_of_cell? _ _ e2
    go_region_held3 (fun u => u.cell? ⟨N.bn, 4, none⟩ = some (.slice (some ⟨gr, 0, none⟩) N.os.length N.rcap) ∧ u.cell? ⟨w.heap.size, 2, none⟩ = some (.int .i64 ((k : Int) + 1)) ∧
      u.cell? ⟨gr, k * 4, none⟩ = some (.string o.data) ∧ u.cell? ⟨gr, k * 4 + 1, none⟩ = some (.int .u64 o.nonce) ∧ u.cell? ⟨gr, k * 4 + 2, none⟩ = some (.int .i64 o.st) ∧ u.cell? ⟨gr, k * 4 + 3, none⟩ = some (.int .i64 o.sent) ∧ Stp W N u N)
      (first | exact unhide HOR _ ST2.draw | exact unhide HOR _ (ST2.alloc _).draw | exact unhide HOR _ (ST2.draw.alloc _))
      (fail)
    all_goals
      clear HOR HOK HP HST HSE
      go_wp2_with fail
      have B0 := cellNew A0 (.cells #[.string o.data, .int .u64 o.nonce, .int .i64 o.st, .int .i64 o.sent] 158)
      have B1 := cellNew A1 (.cells #[.string o.data, .int .u64 o.nonce, .int .i64 o.st, .int .i64 o.sent] 158)
      have B2 : (v2.alloc (.cells #[.string o.data, .int .u64 o.nonce, .int .i64 o.st, .int .i64 o.sent] 158)).cell? ⟨v2.heap.size, 2, none⟩ = some (.int .i64 o.st) := by rw [cell_of_row _ _ _ _ _ _ (heap_alloc_new v2 _)]; rfl
      have B3 : (v2.alloc (.cells #[.string o.data, .int .u64 o.nonce, .int .i64 o.st, .int .i64 o.sent] 158)).cell? ⟨v2.heap.size, 3, none⟩ = some (.int .i64 o.sent) := by rw [cell_of_row _ _ _ _ _ _ (heap_alloc_new v2 _)]; rfl
      go_region_held3 (fun u => u.cell? ⟨w1.heap.size, 0, none⟩ = some (.int .i64 o.st) ∧ u.cell? ⟨w1.heap.size, 1, none⟩ = some (.int .i64 o.sent) ∧ u.cell? ⟨v2.heap.size, 2, none⟩ = some (.int .i64 o.st) ∧ u.cell? ⟨v2.heap.size, 3, none⟩ = some (.int .i64 o.sent))
        (first | exact ⟨B0, B1, B2, B3⟩ | assumption)
        (first | (go_at_call 63; refine (state_any _ _).mono ?_; rintro e w5 ⟨rfl, rfl⟩))
      go_wp2
      go_ret
      exact ⟨rfl, N, (by repeat (first | exact ST2 | refine Stp.draws ?_ _ | refine Stp.draw ?_ | refine Stp.alloc ?_ _ | refine Stp.pre t0 ?_))⟩
  · rename_i hH
    obtain ⟨_, _, ST⟩ := hH
    obtain ⟨e4, e2, _⟩ := unhide HOR _ ST1
    have l1 : N.bn < w1.heap.size := World.block_lt_of_cell? _ _ e4
    have l2 : w.heap.size < w1.heap.size := World.block_lt_of_cell? _ _ e2
    have l3 : N.bn < w.heap.size := lt_of_heap h.hold.net
    have l4 : N.bn ≠ W.heap.size := by omega
    have l5 : w.heap.size ≠ W.heap.size := by omega
    have c0 : w1.cell? ⟨W.heap.size, 0, none⟩ = some (.int .i64 0) := (hcc _ _ (by simp) wbs).trans (by show (W.alloc _).cell? _ = _; rw [cell_of_row _ _ _ _ _ _ (heap_alloc_new W _)]; rfl)
    have c1 : w1.cell? ⟨W.heap.size, 1, none⟩ = some (.int .i64 0) := (hcc _ _ (by simp) wbs).trans (by show (W.alloc _).cell? _ = _; rw [cell_of_row _ _ _ _ _ _ (heap_alloc_new W _)]; rfl)
    have a0 : ((w1.setCell ⟨W.heap.size, 0, none⟩ (.int .i64 p.st)).setCell ⟨W.heap.size, 1, none⟩ (.int .i64 p.sent)).cell? ⟨W.heap.size, 0, none⟩ = some (.int .i64 o.st) := by rw [← unhide HST]; exact (World.cell?_setCell_other _ ⟨W.heap.size, 1, none⟩ ⟨W.heap.size, 0, none⟩ _ (by simp)).trans (World.cell?_setCell_same _ _ _ c0)
    have a1 : ((w1.setCell ⟨W.heap.size, 0, none⟩ (.int .i64 p.st)).setCell ⟨W.heap.size, 1, none⟩ (.int .i64 p.sent)).cell? ⟨W.heap.size, 1, none⟩ = some (.int .i64 o.sent) := by rw [← unhide HSE]; exact World.cell?_setCell_same _ _ _ ((World.cell?_setCell_other _ ⟨W.heap.size, 0, none⟩ ⟨W.heap.size, 1, none⟩ _ (by simp)).trans c1)
    clear c0 c1
    have HC := hide hcc
    clear hcc hff
    generalize (w1.setCell ⟨W.heap.size, 0, none⟩ (.int .i64 p.st)).setCell ⟨W.heap.size, 1, none⟩ (.int .i64 p.sent) = v at *
    obtain ⟨b4, b2, _⟩ := unhide HOR _ ST
    go_wp2_with fail
    go_quiet (fail)
    go_wp2_with fail
    have ST2 := ST.draws nq
    have A0 : (v.drewN nq).cell? ⟨W.heap.size, 0, none⟩ = some (.int .i64 o.st) := a0
    have A1 : (v.drewN nq).cell? ⟨W.heap.size, 1, none⟩ = some (.int .i64 o.sent) := a1
    clear a0 a1 b4 b2 e4 e2 ST T1 S1 ST1 HC
    generalize v.drewN nq = v2 at *
    obtain ⟨e4, e2, g0, g1, g2, g3, _⟩ := unhide HOR _ ST2
    have hAlt : W.heap.size < v2.heap.size := World.block_lt_of_cell? _ _ A0
    have hglt : gr < v2.heap.size := World.block_lt_of_cell? _ _ g0
    have hnlt : N.bn < v2.heap.size := World.block_lt_of_cell? _ _ e4
    have hxlt : w.heap.size < v2.heap.size := World.block_lt_of_cell? _ _ e2
    go_region_held3 (fun u => u.cell? ⟨N.bn, 4, none⟩ = some (.slice (some ⟨gr, 0, none⟩) N.os.length N.rcap) ∧ u.cell? ⟨w.heap.size, 2, none⟩ = some (.int .i64 ((k : Int) + 1)) ∧
      u.cell? ⟨gr, k * 4, none⟩ = some (.string o.data) ∧ u.cell? ⟨gr, k * 4 + 1, none⟩ = some (.int .u64 o.nonce) ∧ u.cell? ⟨gr, k * 4 + 2, none⟩ = some (.int .i64 o.st) ∧ u.cell? ⟨gr, k * 4 + 3, none⟩ = some (.int .i64 o.sent) ∧ Stp W N u N)
      (first | exact unhide HOR _ ST2.draw | exact unhide HOR _ (ST2.alloc _).draw | exact unhide HOR _ (ST2.draw.alloc _))
      (fail)
    all_goals
      clear HOR HOK HP HST HSE
      go_wp2_with fail
      have B0 := cellNew A0 (.cells #[.string o.data, .int .u64 o.nonce, .int .i64 o.st, .int .i64 o.sent] 158)
      have B1 := cellNew A1 (.cells #[.string o.data, .int .u64 o.nonce, .int .i64 o.st, .int .i64 o.sent] 158)
      have B2 : (v2.alloc (.cells #[.string o.data, .int .u64 o.nonce, .int .i64 o.st, .int .i64 o.sent] 158)).cell? ⟨v2.heap.size, 2, none⟩ = some (.int .i64 o.st) := by rw [cell_of_row _ _ _ _ _ _ (heap_alloc_new v2 _)]; rfl
      have B3 : (v2.alloc (.cells #[.string o.data, .int .u64 o.nonce, .int .i64 o.st, .int .i64 o.sent] 158)).cell? ⟨v2.heap.size, 3, none⟩ = some (.int .i64 o.sent) := by rw [cell_of_row _ _ _ _ _ _ (heap_alloc_new v2 _)]; rfl
      go_region_held3 (fun u => u.cell? ⟨W.heap.size, 0, none⟩ = some (.int .i64 o.st) ∧ u.cell? ⟨W.heap.size, 1, none⟩ = some (.int .i64 o.sent) ∧ u.cell? ⟨v2.heap.size, 2, none⟩ = some (.int .i64 o.st) ∧ u.cell? ⟨v2.heap.size, 3, none⟩ = some (.int .i64 o.sent))
        (first | exact ⟨B0, B1, B2, B3⟩ | assumption)
        (first | (go_at_call 63; refine (state_any _ _).mono ?_; rintro e w5 ⟨rfl, rfl⟩))
      go_wp2
      go_ret
      exact ⟨rfl, N, (by repeat (first | exact ST2 | refine Stp.draws ?_ _ | refine Stp.draw ?_ | refine Stp.alloc ?_ _ | refine Stp.pre t0 ?_))⟩

end Go.Proofs.YtfbbidaoljfloaaDoor
