import Derived.Test.YtfbbidaoljfloaaDoorV17
namespace Go.Proofs.YtfbbidaoljfloaaDoor
open Go.RowKit Go.MuLone

/-- A block that is the caller's own is written. -/
theorem StpM.fresh {W v : World} {N : NetA} {F : List Nat} (h : InvM W N) (s : StpM W N v { N with F := F }) {B : Nat} (hB : W.heap.size ≤ B) (hBF : B ∉ F) (o : Nat) (u : Value) : StpM W N (v.setCell ⟨B, o, none⟩ u) { N with F := F } := by
  have T : Turn [B] v (v.setCell ⟨B, o, none⟩ u) := (Turn.refl [B] v).setCell (.inl (by simp)) _
  have hp := h.net.pos
  obtain ⟨q1, q2, q3, q4, q5, q6⟩ := s.m.law T (fun k hk hm => by
    have := h.lt k hk
    simp at hm; omega) (fun k hk hm => by
    have := h.ro_lt k hk
    simp at hm; omega)
  refine ⟨⟨q1, q2, s.m.net.turn T (fun g hg hm => ?_) (fun hm => ?_), q3, q4, s.m.r0, q5, q6, s.m.low, s.m.ro, s.m.pos⟩, s.turn.setCell (.inr hB) _, rfl, s.blocks, s.ros⟩
  · simp at hm; subst hm; exact hBF hg
  · simp at hm; omega

theorem own_new {W w1 : World} {bs br : Nat} {F F1 : List Nat} {S S' : SV} {V V' : RV} (hn : Net W bs br F S V) {o : Obj} (ha : NAft (W.alloc o).drew w1 bs br F F1 S' V') : W.heap.size ∉ F1 ∧ (∀ j, w1.cell? ⟨W.heap.size, j, none⟩ = (W.alloc o).cell? ⟨W.heap.size, j, none⟩) ∧ (∀ j, w1.frozen? ⟨W.heap.size, j, none⟩ = (W.alloc o).frozen? ⟨W.heap.size, j, none⟩) := by
  have hl : W.heap.size ∉ F := fun hm => by have := hn.lt _ hm; omega
  have hz : W.heap.size < (W.alloc o).drew.heap.size := by show _ < (W.alloc o).heap.size; simp
  refine ⟨fun hm => ?_, fun j => ha.turn.cell (p := ⟨W.heap.size, j, none⟩) hz hl, fun j => ha.turn.frozen (p := ⟨W.heap.size, j, none⟩) hz hl⟩
  rcases ha.foot _ hm with q | q
  · exact hl q
  · omega

set_option maxRecDepth 100000 in
set_option maxHeartbeats 4000000 in
theorem stepA_status_bad (N : NetA) (a n m nonce mask : Int) (s : ByteArray) (w : World) (h : InvA w N) (hbad : n < 1 ∨ (N.os.length : Int) < n) :
    Calls Tryd.prog 36 #[.pointer (some ⟨N.bn, 0, none⟩), opV 5 a n m nonce mask s] w fun e w' => e = .returned (.bool true) ∧ ∃ N', StpA w N w' N' := by
  have hX := OpAt.mk' h.m 5 a n m nonce mask s
  have HT : Hid _ := hX.turn
  have HI : Hid _ := h
  have HS0 : Hid _ := (h.m.turn hX.turn).stp
  have OK : ∀ (v : World) (M : NetA), StpM (w.alloc (.cells (opCells 5 a n m nonce mask s) 89)) N v M → M.bs = N.bs → v.cell? ⟨N.bn, 0, none⟩ = some (.pointer (some ⟨N.bs, 0, none⟩)) ∧ v.cell? ⟨w.heap.size, 2, none⟩ = some (.int .i64 n) := fun v M st hb => by
    have q := st.m.cells.1
    rw [st.bn, hb] at q
    exact ⟨q, (hX.cell st 2).trans rfl⟩
  have HOK : Hid _ := OK
  have HST : Hid (∀ v F, Net v N.bs N.br F N.S N.V → Calls Tryd.prog 22 #[.pointer (some ⟨N.bs, 0, none⟩), .int .i64 n] v fun e w' => e = .returned (.tuple #[.agg #[.int .i64 0, .int .i64 0], .int .i64 5]) ∧ ∃ F', NAft v w' N.bs N.br F F' N.S N.V) := fun v F hv => nStatus_bad n hv (by rw [h.l.shape.len]; exact hbad)
  have HB : Hid _ := hbad
  clear hX h OK hbad
  unfold opV
  go_enter Tryd.func36, Tryd.ntmps36
  go_wp2_with fail
  rw [show w.alloc (.cells #[.int .i64 5, .int .i64 a, .int .i64 n, .int .i64 m, .int .u64 nonce, .int .u32 mask, .string s] 89) = w.alloc (.cells (opCells 5 a n m nonce mask s) 89) from rfl]
  generalize w.alloc (.cells (opCells 5 a n m nonce mask s) 89) = W at *
  generalize w.heap.size = X at *
  obtain ⟨y0, y2⟩ := HOK.out _ _ HS0.out rfl
  have hnl : N.bn < W.heap.size := World.block_lt_of_cell? _ _ y0
  have hxl : X < W.heap.size := World.block_lt_of_cell? _ _ y2
  go_region_held3 (fun v => v.cell? ⟨N.bn, 0, none⟩ = some (.pointer (some ⟨N.bs, 0, none⟩)) ∧ v.cell? ⟨X, 2, none⟩ = some (.int .i64 n))
    (first | exact ⟨y0, y2⟩ | exact ⟨cellNew y0 _, cellNew y2 _⟩ | exact ⟨u0, u2⟩ | exact ⟨cellNew u0 _, cellNew u2 _⟩ | exact HOK.out _ _ (StpM.fresh HS0.out.m (StpM.fresh HS0.out.m hs1 (Nat.le_refl _) hBF _ _) (Nat.le_refl _) hBF _ _) rfl)
    (first
      | (go_at_call 22; refine (HST.out _ _ HS0.out.m.net.drew).mono ?_; rintro e w1 ⟨rfl, F1, ha⟩; have hs1 := HS0.out.ends (ha.pre ((Turn.refl [] _).drew)); obtain ⟨u0, u2⟩ := HOK.out _ _ hs1 rfl)
      | (go_at_call 22; refine (HST.out _ _ (HS0.out.m.net.turn0 (((Turn.refl [] _).alloc _).drew))).mono ?_; rintro e w1 ⟨rfl, F1, ha⟩; have hs1 := HS0.out.ends (ha.pre (((Turn.refl [] _).alloc _).drew)); obtain ⟨hBF, hcc, hff⟩ := own_new HS0.out.m.net ha; obtain ⟨u0, u2⟩ := HOK.out _ _ hs1 rfl))
  have HSv : Hid (StpM W N (w1.alloc (.cells #[.int .i64 0, .int .i64 0] 45)) { N with F := F1 }) := hs1.then ((Turn.refl [] _).alloc _)
  have a0 : (w1.alloc (.cells #[.int .i64 0, .int .i64 0] 45)).cell? ⟨w1.heap.size, 0, none⟩ = some (.int .i64 0) := by rw [cell_of_row _ _ _ _ _ _ (heap_alloc_new w1 _)]; rfl
  have a1 : (w1.alloc (.cells #[.int .i64 0, .int .i64 0] 45)).cell? ⟨w1.heap.size, 1, none⟩ = some (.int .i64 0) := by rw [cell_of_row _ _ _ _ _ _ (heap_alloc_new w1 _)]; rfl
  clear u0 u2 ha hs1
  generalize w1.heap.size = A at *
  generalize w1.alloc (.cells #[.int .i64 0, .int .i64 0] 45) = v at *
  rotate_left
  have HSv : Hid (StpM W N ((w1.setCell ⟨W.heap.size, 0, none⟩ (.int .i64 0)).setCell ⟨W.heap.size, 1, none⟩ (.int .i64 0)) { N with F := F1 }) := StpM.fresh HS0.out.m (StpM.fresh HS0.out.m hs1 (Nat.le_refl _) hBF _ _) (Nat.le_refl _) hBF _ _
  have c0 : w1.cell? ⟨W.heap.size, 0, none⟩ = some (.int .i64 0) := (hcc 0).trans (by rw [cell_of_row _ _ _ _ _ _ (heap_alloc_new W _)]; rfl)
  have c1 : w1.cell? ⟨W.heap.size, 1, none⟩ = some (.int .i64 0) := (hcc 1).trans (by rw [cell_of_row _ _ _ _ _ _ (heap_alloc_new W _)]; rfl)
  have a0 : ((w1.setCell ⟨W.heap.size, 0, none⟩ (.int .i64 0)).setCell ⟨W.heap.size, 1, none⟩ (.int .i64 0)).cell? ⟨W.heap.size, 0, none⟩ = some (.int .i64 0) := (World.cell?_setCell_other _ ⟨W.heap.size, 1, none⟩ ⟨W.heap.size, 0, none⟩ _ (by simp)).trans (World.cell?_setCell_same _ _ _ c0)
  have a1 : ((w1.setCell ⟨W.heap.size, 0, none⟩ (.int .i64 0)).setCell ⟨W.heap.size, 1, none⟩ (.int .i64 0)).cell? ⟨W.heap.size, 1, none⟩ = some (.int .i64 0) := World.cell?_setCell_same _ _ _ ((World.cell?_setCell_other _ ⟨W.heap.size, 0, none⟩ ⟨W.heap.size, 1, none⟩ _ (by simp)).trans c1)
  clear u0 u2 ha hs1 hcc hff c0 c1 hBF
  generalize (w1.setCell ⟨W.heap.size, 0, none⟩ (.int .i64 0)).setCell ⟨W.heap.size, 1, none⟩ (.int .i64 0) = v at *
  generalize W.heap.size = A at *
  rotate_left
  all_goals
    rename_i hHeld
    clear hHeld hnl hxl y0 y2
    have e4 : v.cell? ⟨N.bn, 4, none⟩ = some (.slice N.rsl N.os.length N.rcap) := by rw [cell_of_row _ _ _ _ _ _ HSv.out.m.hold.net]; rfl
    have e2 : v.cell? ⟨X, 2, none⟩ = some (.int .i64 n) := (HOK.out _ _ HSv.out rfl).2
    have HF : Hid (StpA w N v { N with F := F1 }) := StpA.of HT.out HI.out.m HSv.out (HI.out.l.feet F1) (by show N.hm ≤ _; omega) (by show N.wn ≤ _; omega)
    have HD : Hid (∀ q, StpA w N (v.drewN q) { N with F := F1 }) := fun q => StpA.of HT.out HI.out.m (HSv.out.then ((Turn.refl [] _).drewN _)) (HI.out.l.feet F1) (by show N.hm ≤ _; omega) (by show N.wn ≤ _; omega)
    by_cases hlow : n < 1
    · have q1 : decide (n < 1) = true := by simpa using hlow
      go_wp2_with fail
      go_quiet (fail)
      go_wp2_with fail
      refine (num_any _ _).mono ?_
      rintro e w2 ⟨rfl, rfl⟩
      go_wp2_with fail
      go_ret
      exact ⟨rfl, _, HD.out _⟩
    · have q1 : decide (n < 1) = false := by simpa using hlow
      have q2 : decide ((N.os.length : Int) < n) = true := by have := HB.out; simp; omega
      go_wp2_with fail
      go_quiet (fail)
      go_wp2_with fail
      refine (num_any _ _).mono ?_
      rintro e w2 ⟨rfl, rfl⟩
      go_wp2_with fail
      go_ret
      exact ⟨rfl, _, HD.out _⟩
end Go.Proofs.YtfbbidaoljfloaaDoor
