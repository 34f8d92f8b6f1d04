import Derived.Test.YtfbbidaoljfloaaDoorV18
namespace Go.Proofs.YtfbbidaoljfloaaDoor
open Go.RowKit Go.MuLone

set_option maxRecDepth 100000 in
set_option maxHeartbeats 4000000 in
theorem stepA_status_good (N : NetA) (a m nonce mask : Int) (s : ByteArray) (k : Nat) (w : World) (h : InvA w N) (hk : k < N.os.length) :
    Calls Tryd.prog 36 #[.pointer (some ⟨N.bn, 0, none⟩), opV 5 a ((k : Int) + 1) m nonce mask s] w fun e w' => e = .returned (.bool true) ∧ ∃ N', StpA w N w' N' := by
  have hX := OpAt.mk' h.m 5 a ((k : Int) + 1) m nonce mask s
  have HT : Hid _ := hX.turn
  have HI : Hid _ := h
  have HS0 : Hid _ := (h.m.turn hX.turn).stp
  have OK : ∀ (v : World) (M : NetA), StpM (w.alloc (.cells (opCells 5 a ((k : Int) + 1) m nonce mask s) 89)) N v M → M.bs = N.bs → v.cell? ⟨N.bn, 0, none⟩ = some (.pointer (some ⟨N.bs, 0, none⟩)) ∧ v.cell? ⟨w.heap.size, 2, none⟩ = some (.int .i64 ((k : Int) + 1)) := fun v M st hb => by
    have q := st.m.cells.1
    rw [st.bn, hb] at q
    exact ⟨q, (hX.cell st 2).trans rfl⟩
  have HOK : Hid _ := OK
  have hl5 := h.l.shape.n500
  have hpl := h.l.shape.len
  obtain ⟨o, ho⟩ : ∃ o, N.os[k]? = some o := ⟨_, List.getElem?_eq_getElem hk⟩
  obtain ⟨p, hp⟩ : ∃ p, N.S.l[k]? = some p := ⟨_, List.getElem?_eq_getElem (by omega)⟩
  obtain ⟨hst, hse⟩ := h.l.shape.stat k o p ho hp
  have HST : Hid (∀ v F, Net v N.bs N.br F N.S N.V → Calls Tryd.prog 22 #[.pointer (some ⟨N.bs, 0, none⟩), .int .i64 ((k : Int) + 1)] v fun e w' => e = .returned (.tuple #[.agg #[.int .i64 o.st, .int .i64 o.sent], .int .i64 0]) ∧ ∃ F', NAft v w' N.bs N.br F F' N.S N.V) := fun v F hv => by
    have := nStatus k hv hp
    rw [hst, hse] at this
    exact this
  have HO : Hid _ := ho
  have q1 : decide ((k : Int) + 1 < 1) = false := by simp; omega
  have q2 : decide ((N.os.length : Int) < (k : Int) + 1) = false := by simp; omega
  have hk0 : (0 : Int) ≤ (k : Int) := by omega
  have hk1 : (k : Int) < (N.os.length : Int) := by omega
  have hk2 : (k : Int) + 1 - 1 = (k : Int) := by omega
  have hwr1 : IntKind.i64.wrap (k : Int) = (k : Int) := by simp [IntKind.wrap, IntKind.signed, IntKind.bits]; omega
  have hwr2 : IntKind.i64.wrap ((k : Int) + 1 - 1) = (k : Int) := by rw [hk2]; exact hwr1
  clear hX h OK ho hp hst hse
  unfold opV
  go_enter Tryd.func36, Tryd.ntmps36
  go_wp2_with fail
  rw [show w.alloc (.cells #[.int .i64 5, .int .i64 a, .int .i64 ((k : Int) + 1), .int .i64 m, .int .u64 nonce, .int .u32 mask, .string s] 89) = w.alloc (.cells (opCells 5 a ((k : Int) + 1) m nonce mask s) 89) from rfl]
  generalize w.alloc (.cells (opCells 5 a ((k : Int) + 1) m nonce mask s) 89) = W at *
  generalize w.heap.size = X at *
  obtain ⟨y0, y2⟩ := HOK.out _ _ HS0.out rfl
  have hnl : N.bn < W.heap.size := World.block_lt_of_cell? _ _ y0
  have hxl : X < W.heap.size := World.block_lt_of_cell? _ _ y2
  go_region_held3 (fun v => v.cell? ⟨N.bn, 0, none⟩ = some (.pointer (some ⟨N.bs, 0, none⟩)) ∧ v.cell? ⟨X, 2, none⟩ = some (.int .i64 ((k : Int) + 1)))
    (first | exact ⟨y0, y2⟩ | exact ⟨cellNew y0 _, cellNew y2 _⟩ | exact ⟨u0, u2⟩ | exact ⟨cellNew u0 _, cellNew u2 _⟩ | exact HOK.out _ _ (StpM.fresh HS0.out.m (StpM.fresh HS0.out.m hs1 (Nat.le_refl _) hBF _ _) (Nat.le_refl _) hBF _ _) rfl)
    (first
      | (go_at_call 22; refine (HST.out _ _ HS0.out.m.net.drew).mono ?_; rintro e w1 ⟨rfl, F1, ha⟩; have hs1 := HS0.out.ends (ha.pre ((Turn.refl [] _).drew)); obtain ⟨u0, u2⟩ := HOK.out _ _ hs1 rfl)
      | (go_at_call 22; refine (HST.out _ _ (HS0.out.m.net.turn0 (((Turn.refl [] _).alloc _).drew))).mono ?_; rintro e w1 ⟨rfl, F1, ha⟩; have hs1 := HS0.out.ends (ha.pre (((Turn.refl [] _).alloc _).drew)); obtain ⟨hBF, hcc, hff⟩ := own_new HS0.out.m.net ha; obtain ⟨u0, u2⟩ := HOK.out _ _ hs1 rfl))
  have HSv : Hid (StpM W N (w1.alloc (.cells #[.int .i64 o.st, .int .i64 o.sent] 45)) { N with F := F1 }) := hs1.then ((Turn.refl [] _).alloc _)
  have a0 : (w1.alloc (.cells #[.int .i64 o.st, .int .i64 o.sent] 45)).cell? ⟨w1.heap.size, 0, none⟩ = some (.int .i64 o.st) := by rw [cell_of_row _ _ _ _ _ _ (heap_alloc_new w1 _)]; rfl
  have a1 : (w1.alloc (.cells #[.int .i64 o.st, .int .i64 o.sent] 45)).cell? ⟨w1.heap.size, 1, none⟩ = some (.int .i64 o.sent) := by rw [cell_of_row _ _ _ _ _ _ (heap_alloc_new w1 _)]; rfl
  clear u0 u2 ha hs1
  generalize w1.heap.size = A at *
  generalize w1.alloc (.cells #[.int .i64 o.st, .int .i64 o.sent] 45) = v at *
  rotate_left
  have HSv : Hid (StpM W N ((w1.setCell ⟨W.heap.size, 0, none⟩ (.int .i64 o.st)).setCell ⟨W.heap.size, 1, none⟩ (.int .i64 o.sent)) { N with F := F1 }) := StpM.fresh HS0.out.m (StpM.fresh HS0.out.m hs1 (Nat.le_refl _) hBF _ _) (Nat.le_refl _) hBF _ _
  have c0 : w1.cell? ⟨W.heap.size, 0, none⟩ = some (.int .i64 0) := (hcc 0).trans (by rw [cell_of_row _ _ _ _ _ _ (heap_alloc_new W _)]; rfl)
  have c1 : w1.cell? ⟨W.heap.size, 1, none⟩ = some (.int .i64 0) := (hcc 1).trans (by rw [cell_of_row _ _ _ _ _ _ (heap_alloc_new W _)]; rfl)
  have a0 : ((w1.setCell ⟨W.heap.size, 0, none⟩ (.int .i64 o.st)).setCell ⟨W.heap.size, 1, none⟩ (.int .i64 o.sent)).cell? ⟨W.heap.size, 0, none⟩ = some (.int .i64 o.st) := (World.cell?_setCell_other _ ⟨W.heap.size, 1, none⟩ ⟨W.heap.size, 0, none⟩ _ (by simp)).trans (World.cell?_setCell_same _ _ _ c0)
  have a1 : ((w1.setCell ⟨W.heap.size, 0, none⟩ (.int .i64 o.st)).setCell ⟨W.heap.size, 1, none⟩ (.int .i64 o.sent)).cell? ⟨W.heap.size, 1, none⟩ = some (.int .i64 o.sent) := World.cell?_setCell_same _ _ _ ((World.cell?_setCell_other _ ⟨W.heap.size, 0, none⟩ ⟨W.heap.size, 1, none⟩ _ (by simp)).trans c1)
  clear u0 u2 ha hs1 hcc hff c0 c1 hBF
  generalize (w1.setCell ⟨W.heap.size, 0, none⟩ (.int .i64 o.st)).setCell ⟨W.heap.size, 1, none⟩ (.int .i64 o.sent) = v at *
  generalize W.heap.size = A at *
  rotate_left
  all_goals
    rename_i hHeld
    clear hHeld hnl hxl y0 y2
    have e4 : v.cell? ⟨N.bn, 4, none⟩ = some (.slice N.rsl N.os.length N.rcap) := by rw [cell_of_row _ _ _ _ _ _ HSv.out.m.hold.net]; rfl
    have e2 : v.cell? ⟨X, 2, none⟩ = some (.int .i64 ((k : Int) + 1)) := (HOK.out _ _ HSv.out rfl).2
    go_wp2_with fail
    go_quiet (fail)
    go_wp2_with fail
    have HS2 : Hid _ := HSv.out.then ((Turn.refl [] v).drewN nq)
    have A0 : (v.drewN nq).cell? ⟨A, 0, none⟩ = some (.int .i64 o.st) := a0
    have A1 : (v.drewN nq).cell? ⟨A, 1, none⟩ = some (.int .i64 o.sent) := a1
    clear a0 a1 e4 e2 HSv
    generalize v.drewN nq = v2 at *
    obtain ⟨gr, o', hrs, ho', g0, g1, g2, g3, _⟩ := HS2.out.m.rth.at hk
    obtain rfl : o = o' := by have ho' : N.os[k]? = some o' := ho'; rw [HO.out] at ho'; simpa using ho'
    have c4 : v2.cell? ⟨N.bn, 4, none⟩ = some (.slice (some ⟨gr, 0, none⟩) N.os.length N.rcap) := by rw [cell_of_row _ _ _ _ _ _ HS2.out.m.hold.net, ← hrs]; rfl
    have y2 : v2.cell? ⟨X, 2, none⟩ = some (.int .i64 ((k : Int) + 1)) := (HOK.out _ _ HS2.out rfl).2
    have hAlt : A < v2.heap.size := World.block_lt_of_cell? _ _ A0
    have hglt : gr < v2.heap.size := World.block_lt_of_cell? _ _ g0
    have hnlt : N.bn < v2.heap.size := World.block_lt_of_cell? _ _ c4
    have hxlt : X < v2.heap.size := World.block_lt_of_cell? _ _ y2
    go_region_held3 (fun u => u.cell? ⟨N.bn, 4, none⟩ = some (.slice (some ⟨gr, 0, none⟩) N.os.length N.rcap) ∧ u.cell? ⟨X, 2, none⟩ = some (.int .i64 ((k : Int) + 1)) ∧
        u.cell? ⟨gr, k * 4, none⟩ = some (.string o.data) ∧ u.cell? ⟨gr, k * 4 + 1, none⟩ = some (.int .u64 o.nonce) ∧ u.cell? ⟨gr, k * 4 + 2, none⟩ = some (.int .i64 o.st) ∧ u.cell? ⟨gr, k * 4 + 3, none⟩ = some (.int .i64 o.sent))
        (first | exact ⟨c4, y2, g0, g1, g2, g3⟩ | exact ⟨cellNew c4 _, cellNew y2 _, cellNew g0 _, cellNew g1 _, cellNew g2 _, cellNew g3 _⟩)
        (fail)
    rename_i hHeld
    clear hHeld
    have HF : Hid (∀ u, Turn [] (v2.alloc (.cells #[.string o.data, .int .u64 o.nonce, .int .i64 o.st, .int .i64 o.sent] 158)).drew u → StpA w N u { N with F := F1 }) := fun u T => StpA.of HT.out HI.out.m (HS2.out.then ((((Turn.refl [] v2).alloc _).drew).trans T (by simp))) (HI.out.l.feet F1) (by show N.hm ≤ _; omega) (by show N.wn ≤ _; omega)
    have B0 : (v2.alloc (.cells #[.string o.data, .int .u64 o.nonce, .int .i64 o.st, .int .i64 o.sent] 158)).drew.cell? ⟨A, 0, none⟩ = some (.int .i64 o.st) := cellNew A0 (.cells #[.string o.data, .int .u64 o.nonce, .int .i64 o.st, .int .i64 o.sent] 158)
    have B1 : (v2.alloc (.cells #[.string o.data, .int .u64 o.nonce, .int .i64 o.st, .int .i64 o.sent] 158)).drew.cell? ⟨A, 1, none⟩ = some (.int .i64 o.sent) := cellNew A1 (.cells #[.string o.data, .int .u64 o.nonce, .int .i64 o.st, .int .i64 o.sent] 158)
    have B2 : (v2.alloc (.cells #[.string o.data, .int .u64 o.nonce, .int .i64 o.st, .int .i64 o.sent] 158)).drew.cell? ⟨v2.heap.size, 2, none⟩ = some (.int .i64 o.st) := by show (v2.alloc _).cell? _ = _; rw [cell_of_row _ _ _ _ _ _ (heap_alloc_new v2 _)]; rfl
    have B3 : (v2.alloc (.cells #[.string o.data, .int .u64 o.nonce, .int .i64 o.st, .int .i64 o.sent] 158)).drew.cell? ⟨v2.heap.size, 3, none⟩ = some (.int .i64 o.sent) := by show (v2.alloc _).cell? _ = _; rw [cell_of_row _ _ _ _ _ _ (heap_alloc_new v2 _)]; rfl
    clear c4 y2 g0 g1 g2 g3 hAlt hglt hnlt hxlt A0 A1 HS2
    generalize (v2.alloc (.cells #[.string o.data, .int .u64 o.nonce, .int .i64 o.st, .int .i64 o.sent] 158)).drew = v3 at *
    generalize v2.heap.size = P at *
    go_wp2_with fail
    go_region_held3 (fun u => u.cell? ⟨A, 0, none⟩ = some (.int .i64 o.st) ∧ u.cell? ⟨A, 1, none⟩ = some (.int .i64 o.sent) ∧ u.cell? ⟨P, 2, none⟩ = some (.int .i64 o.st) ∧ u.cell? ⟨P, 3, none⟩ = some (.int .i64 o.sent))
      (first | exact ⟨B0, B1, B2, B3⟩ | assumption)
      (first | (go_at_call 63; refine (state_any _ _).mono ?_; rintro e w5 ⟨rfl, rfl⟩))
    go_wp2_with fail
    go_ret
    exact ⟨rfl, _, HF.out _ (by repeat (first | exact Turn.refl [] v3 | refine Turn.drew ?_ | refine Turn.drewN ?_ _))⟩

theorem stepA_status (N : NetA) (a n m nonce mask : Int) (s : ByteArray) (w : World) (h : InvA w N) :
    Calls Tryd.prog 36 #[.pointer (some ⟨N.bn, 0, none⟩), opV 5 a n m nonce mask s] w fun e w' => e = .returned (.bool true) ∧ ∃ N', StpA w N w' N' := by
  by_cases hb : n < 1 ∨ (N.os.length : Int) < n
  · exact stepA_status_bad N a n m nonce mask s w h hb
  · obtain ⟨k, rfl⟩ : ∃ k : Nat, n = (k : Int) + 1 := ⟨(n - 1).toNat, by omega⟩
    exact stepA_status_good N a m nonce mask s k w h (by omega)
end Go.Proofs.YtfbbidaoljfloaaDoor
