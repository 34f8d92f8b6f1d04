import Derived.Test.YtfbbidaoljfloaaDoorL10
namespace Go.Proofs.YtfbbidaoljfloaaDoor
open Go.RowKit

theorem Turn.one {b0 : Nat} {w w' : World} (h : Turn [b0] w w') : (∀ b o, b < w.heap.size → b ≠ b0 → w'.cell? ⟨b, o, none⟩ = w.cell? ⟨b, o, none⟩) ∧ (∀ b o, b < w.heap.size → b ≠ b0 → w'.frozen? ⟨b, o, none⟩ = w.frozen? ⟨b, o, none⟩) :=
  ⟨fun b o h1 h2 => h.cell (p := ⟨b, o, none⟩) h1 (by simpa using h2), fun b o h1 h2 => h.frozen (p := ⟨b, o, none⟩) h1 (by simpa using h2)⟩

theorem Stp.same {w w' : World} {N : NetM} (h : Inv w N) (t : Turn [] w w') : Stp w N w' N :=
  ⟨h.turn t (by simp) (by simp), t.mono (by simp), rfl, fun _ hk => .inl hk, fun _ hk => .inl hk, by omega, by omega⟩
theorem Stp.more {w v v' : World} {N : NetM} (s : Stp w N v N) (t : Stp v N v' N) : Stp w N v' N :=
  ⟨t.inv, s.turn.trans t.turn (fun _ hx => .inl hx), rfl, fun _ hk => .inl hk, fun _ hk => .inl hk, by omega, by omega⟩
theorem Stp.fresh {w v : World} {N : NetM} (h : Inv w N) (s : Stp w N v N) {B : Nat} (hB : w.heap.size ≤ B) (o : Nat) (u : Value) : Stp w N (v.setCell ⟨B, o, none⟩ u) N := by
  refine ⟨s.inv.turn ((Turn.refl [B] v).setCell (.inl (by simp)) _) (fun k hk hm => ?_) (fun k hk hm => ?_), s.turn.setCell (.inr hB) _, rfl, fun _ hk => .inl hk, fun _ hk => .inl hk, by omega, by omega⟩
  · simp at hm; have := h.lt k hk; omega
  · simp at hm; have := h.ro_lt k hk; omega
theorem Stp.alloc {w v : World} {N : NetM} (s : Stp w N v N) (o : Obj) : Stp w N (v.alloc o) N := s.more (Stp.same s.inv ((Turn.refl _ _).alloc _))
theorem Stp.draws {w v : World} {N : NetM} (s : Stp w N v N) (m : Nat) : Stp w N (v.drewN m) N := s.more (Stp.same s.inv ((Turn.refl _ _).drewN _))
theorem Stp.draw {w v : World} {N : NetM} (s : Stp w N v N) : Stp w N v.drew N := s.more (Stp.same s.inv ((Turn.refl _ _).drew))

set_option maxRecDepth 100000 in
set_option maxHeartbeats 2000000 in
theorem step_status_bad (N : NetM) (a n m nonce mask : Int) (s : ByteArray) (w : World) (h : Inv w N) (hbad : n < 1 ∨ (N.os.length : Int) < n) :
    Calls Tryd.prog 36 #[.pointer (some ⟨N.bn, 0, none⟩), opV 5 a n m nonce mask s] w fun e w' => e = .returned (.bool true) ∧ ∃ N', Stp w N w' N' := by
  have A := h.aps
  obtain ⟨W, hW⟩ : ∃ W, W = w.alloc (.cells (opCells 5 a n m nonce mask s) 89) := ⟨_, rfl⟩
  have t0 : Turn [] w W := by rw [hW]; exact (Turn.refl _ _).alloc _
  have hX : W.heap[w.heap.size]? = some (.cells (opCells 5 a n m nonce mask s) 89 (0, 0)) := by rw [hW]; exact heap_alloc_new _ _
  have hI0 : Inv W N := h.turn t0 (by simp) (by simp)
  have x2 : W.cell? ⟨w.heap.size, 2, none⟩ = some (.int .i64 n) := by rw [cell_of_row _ _ _ _ _ _ hX]; rfl
  have zW : w.heap.size < W.heap.size := lt_of_heap hX
  have sblt : N.bs < w.heap.size := lt_of_heap h.snd
  have hXb : w.heap.size ∉ N.blocks := fun hm => by have := h.lt _ hm; omega
  have OK : ∀ v, Stp W N v N → v.cell? ⟨N.bn, 0, none⟩ = some (.pointer (some ⟨N.bs, 0, none⟩)) ∧ v.cell? ⟨w.heap.size, 2, none⟩ = some (.int .i64 n) ∧ Stp W N v N :=
    fun v st => ⟨st.inv.netCell.1, (st.turn.cell (p := ⟨w.heap.size, 2, none⟩) zW hXb).trans x2, st⟩
  have HOK := hide OK
  have HW : Hid (W = w.alloc (.cells (opCells 5 a n m nonce mask s) 89)) := hW
  have HB := hide hbad
  have wbs : W.heap.size ≠ N.bs := by omega
  clear hW hbad OK
  unfold opV
  go_enter Tryd.func36, Tryd.ntmps36
  go_wp2_with fail
  rw [show w.alloc (.cells #[.int .i64 5, .int .i64 a, .int .i64 n, .int .i64 m, .int .u64 nonce, .int .u32 mask, .string s] 89) = W from HW.out.symm]
  go_region_held3 (fun v => v.cell? ⟨N.bn, 0, none⟩ = some (.pointer (some ⟨N.bs, 0, none⟩)) ∧ v.cell? ⟨w.heap.size, 2, none⟩ = some (.int .i64 n) ∧ Stp W N v N)
    (first | exact unhide HOK _ (Stp.same hI0 ((Turn.refl _ _).drew)) | exact unhide HOK _ ST1 | exact unhide HOK _ (ST1.alloc _) | exact unhide HOK _ (Stp.fresh hI0 (Stp.fresh hI0 ST1 (Nat.le_refl _) _ _) (Nat.le_refl _) _ _) | exact unhide HOK _ ((Stp.same hI0 ((Turn.refl _ _).alloc _)).draw))
    (first | (go_at_call 22; go_split_ands; refine (status_bad N.bs N.blk N.bud N.psl N.os.length N.pcap N.en n _ (Inv.snd (Stp.inv (by assumption))) (unhide HB)).mono ?_; rintro e w1 ⟨rfl, T1, S1⟩; obtain ⟨hcc, hff⟩ := T1.one; have ST1 : Stp W N w1 N := Stp.more (by assumption) (Inv.asked (Stp.inv (by assumption)) T1 S1)))
  all_goals
    rename_i hH
    obtain ⟨_, _, ST⟩ := hH
    have e4 : w1.cell? ⟨N.bn, 4, none⟩ = some (.slice N.rsl N.os.length N.rcap) := ST1.inv.netCell.2.2.2.1
    have e2 : w1.cell? ⟨w.heap.size, 2, none⟩ = some (.int .i64 n) := ((unhide HOK) _ ST1).2.1
    have l1 : N.bn < w1.heap.size := World.block_lt_of_cell? _ _ e4
    have l2 : w.heap.size < w1.heap.size := World.block_lt_of_cell? _ _ e2
    have l3 : N.bn < w.heap.size := lt_of_heap h.hold.net
    have l4 : N.bn ≠ W.heap.size := by omega
    have l5 : w.heap.size ≠ W.heap.size := by omega
    have hST := hide ST
    clear ST
    by_cases hlow : n < 1
    · have q1 : decide (n < 1) = true := by simpa using hlow
      go_wp2_with fail
      go_quiet (fail)
      go_wp2_with fail
      refine (num_any _ _).mono ?_
      rintro e w2 ⟨rfl, rfl⟩
      go_wp2
      go_ret
      exact ⟨rfl, N, ((unhide hST).draws _).pre t0⟩
    · have q1 : decide (n < 1) = false := by simpa using hlow
      have q2 : decide ((N.os.length : Int) < n) = true := by have := unhide HB; simp; omega
      go_wp2_with fail
      go_quiet (fail)
      go_wp2_with fail
      refine (num_any _ _).mono ?_
      rintro e w2 ⟨rfl, rfl⟩
      go_wp2
      go_ret
      exact ⟨rfl, N, ((unhide hST).draws _).pre t0⟩

end Go.Proofs.YtfbbidaoljfloaaDoor
