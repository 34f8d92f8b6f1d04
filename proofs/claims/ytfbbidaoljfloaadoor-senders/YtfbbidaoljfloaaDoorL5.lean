import Derived.Test.YtfbbidaoljfloaaDoorL4
namespace Go.Proofs.YtfbbidaoljfloaaDoor
open Go.RowKit

structure Aps (bn bs : Nat) (p r y h : Option Nat) : Prop where
  ns : bn ≠ bs
  np : p ≠ some bn
  nr : r ≠ some bn
  ny : y ≠ some bn
  nh : h ≠ some bn
  sp : p ≠ some bs
  sr : r ≠ some bs
  sy : y ≠ some bs
  sh : h ≠ some bs
  pr : Ap p r
  py : Ap p y
  ph : Ap p h
  ry : Ap r y
  rh : Ap r h
  yh : Ap y h

theorem aps_iff (bn bs : Nat) (p r y h : Option Nat) : [some bn, some bs, p, r, y, h].Pairwise Ap ↔ Aps bn bs p r y h := by
  constructor
  · intro d
    simp only [List.pairwise_cons, List.mem_cons, List.not_mem_nil, or_false, forall_eq_or_imp, forall_eq, false_implies, implies_true, List.Pairwise.nil, and_true] at d
    obtain ⟨⟨d1, d2, d3, d4, d5⟩, ⟨d6, d7, d8, d9⟩, ⟨d10, d11, d12⟩, ⟨d13, d14⟩, d15⟩ := d
    exact ⟨fun e => d1 bn rfl (by rw [e]), d2 bn rfl, d3 bn rfl, d4 bn rfl, d5 bn rfl, d6 bs rfl, d7 bs rfl, d8 bs rfl, d9 bs rfl, d10, d11, d12, d13, d14, d15⟩
  · intro d
    simp only [List.pairwise_cons, List.mem_cons, List.not_mem_nil, or_false, forall_eq_or_imp, forall_eq, false_implies, implies_true, List.Pairwise.nil, and_true]
    refine ⟨⟨?_, ?_, ?_, ?_, ?_⟩, ⟨?_, ?_, ?_, ?_⟩, ⟨d.pr, d.py, d.ph⟩, ⟨d.ry, d.rh⟩, d.yh⟩
    · intro k hk e; simp at hk e; exact d.ns (by omega)
    · intro k hk; simp at hk; subst hk; exact d.np
    · intro k hk; simp at hk; subst hk; exact d.nr
    · intro k hk; simp at hk; subst hk; exact d.ny
    · intro k hk; simp at hk; subst hk; exact d.nh
    · intro k hk; simp at hk; subst hk; exact d.sp
    · intro k hk; simp at hk; subst hk; exact d.sr
    · intro k hk; simp at hk; subst hk; exact d.sy
    · intro k hk; simp at hk; subst hk; exact d.sh

theorem Inv.aps {w : World} {N : NetM} (h : Inv w N) : Aps N.bn N.bs N.pv.ownBlock N.rv.ownBlock N.wv.ownBlock N.hv.ownBlock := (aps_iff _ _ _ _ _ _).1 h.dist

theorem not_mem_toList {o : Option Nat} {k : Nat} (h : o ≠ some k) : k ∉ o.toList := by simpa using h

/-- The sender was asked, and is as it was. -/
theorem Inv.asked {w w' : World} {N : NetM} (h : Inv w N) (ht : Turn [N.bs] w w') (hs : SenderAt w' N.bs N.blk N.bud N.pv N.en) : Stp w N w' N := by
  have A := h.aps
  have m : ∀ {o : Option Nat}, o ≠ some N.bs → ∀ k, o = some k → k ∉ [N.bs] := fun ho k hk hm => by simp at hm; subst hm; exact ho hk
  refine ⟨⟨h.hold.turn ht (by simpa using A.ns) (m A.sh), h.way.turn ht (m A.sy), hs, h.pth.turn ht (m A.sp), h.rth.turn ht (m A.sr), fun i hi => (h.lists i hi).turn ht (fun k hk hm => ?_), h.ro, h.dist, h.shape, h.blk1, h.blk2, h.bud1, h.bud2, h.four⟩,
    ht.mono (fun x hx => by simp at hx; subst hx; rw [N.mem_blocks]; simp [NetM.own]), rfl, fun k hk => .inl hk, fun k hk => .inl hk, by omega, by omega⟩
  simp at hm
  subst hm
  exact h.ro _ (List.mem_filterMap.2 ⟨_, List.getElem_mem hi, hk⟩) ((N.mem_blocks _).2 (by simp [NetM.own]))

def opV (k a n m nonce mask : Int) (s : ByteArray) : Value := .agg #[.int .i64 k, .int .i64 a, .int .i64 n, .int .i64 m, .int .u64 nonce, .int .u32 mask, .string s]
def opCells (k a n m nonce mask : Int) (s : ByteArray) : Array Value := #[.int .i64 k, .int .i64 a, .int .i64 n, .int .i64 m, .int .u64 nonce, .int .u32 mask, .string s]

theorem Inv.netCell {w : World} {N : NetM} (h : Inv w N) : w.cell? ⟨N.bn, 0, none⟩ = some (.pointer (some ⟨N.bs, 0, none⟩)) ∧ w.cell? ⟨N.bn, 2, none⟩ = some (.int .i64 N.blk) ∧ w.cell? ⟨N.bn, 3, none⟩ = some (.int .i64 N.bud) ∧ w.cell? ⟨N.bn, 4, none⟩ = some N.rv ∧ w.cell? ⟨N.bn, 10, none⟩ = some N.wv ∧ N.bn < w.heap.size :=
  ⟨by rw [cell_of_row _ _ _ _ _ _ h.hold.net]; rfl, by rw [cell_of_row _ _ _ _ _ _ h.hold.net]; rfl, by rw [cell_of_row _ _ _ _ _ _ h.hold.net]; rfl, by rw [cell_of_row _ _ _ _ _ _ h.hold.net]; rfl, by rw [cell_of_row _ _ _ _ _ _ h.hold.net]; rfl, lt_of_heap h.hold.net⟩

set_option maxHeartbeats 1000000 in
theorem lawSubmit_no (N : NetM) (k a n m nonce mask : Int) (s : ByteArray) (w : World) (h : Inv w N) (hno : 32 * (N.blk : Int) < (s.size : Int) ∨ N.os.length = 500 ∨ 8 ≤ cntSt N.os 1) :
    Calls Tryd.prog 60 #[.pointer (some ⟨N.bn, 0, none⟩), opV k a n m nonce mask s] w fun e w' => e = .returned (.bool true) ∧ ∃ N', Stp w N w' N' := by
  have A := h.aps
  have hl5 := h.shape.n500
  have hb1 := h.blk1
  have hb2 := h.blk2
  have hce := h.shape.counts
  have hcd := h.shape.drops
  have hc8 := h.shape.cnt
  obtain ⟨n0, n2, n3, n4, n10, nlt⟩ := h.netCell
  obtain ⟨W, hW⟩ : ∃ W, W = w.alloc (.cells (opCells k a n m nonce mask s) 89) := ⟨_, rfl⟩
  have t0 : Turn [] w W := by rw [hW]; exact (Turn.refl _ _).alloc _
  have hX : W.heap[w.heap.size]? = some (.cells (opCells k a n m nonce mask s) 89 (0, 0)) := by rw [hW]; exact heap_alloc_new _ _
  have x6 : W.cell? ⟨w.heap.size, 6, none⟩ = some (.string s) := by rw [cell_of_row _ _ _ _ _ _ hX]; rfl
  have x4 : W.cell? ⟨w.heap.size, 4, none⟩ = some (.int .u64 nonce) := by rw [cell_of_row _ _ _ _ _ _ hX]; rfl
  have y0 : W.cell? ⟨N.bn, 0, none⟩ = some (.pointer (some ⟨N.bs, 0, none⟩)) := (t0.cell (p := ⟨N.bn, 0, none⟩) nlt (by simp)).trans n0
  have hI0 : Inv W N := h.turn t0 (by simp) (by simp)
  have HW : Hid (W = w.alloc (.cells (opCells k a n m nonce mask s) 89)) := hW
  unfold opV
  go_enter Tryd.func60, Tryd.ntmps60
  go_wp2_with fail
  rw [show w.alloc (.cells #[.int .i64 k, .int .i64 a, .int .i64 n, .int .i64 m, .int .u64 nonce, .int .u32 mask, .string s] 89) = W from HW.out.symm]
  have zW : w.heap.size < W.heap.size := lt_of_heap hX
  have sblt : N.bs < w.heap.size := lt_of_heap h.snd
  have hnoP : 32 * (N.blk : Int) < (s.size : Int) ∨ N.os.length = 500 ∨ 8 ≤ cntSt (N.ps.drop N.en) 1 := by rw [hcd, ← hce]; exact hno
  have HNO : Hid _ := hno
  have HNOP : Hid _ := hnoP
  have HC8 : Hid (cntSt (N.ps.drop N.en) 1 ≤ 8) := by rw [Hid, hcd]; exact hc8
  clear hW hno hnoP hce hcd hc8
  go_region_held3 (fun v => v.cell? ⟨N.bn, 0, none⟩ = some (.pointer (some ⟨N.bs, 0, none⟩)) ∧ v.cell? ⟨w.heap.size, 6, none⟩ = some (.string s) ∧ v.cell? ⟨w.heap.size, 4, none⟩ = some (.int .u64 nonce))
    (first | exact ⟨y0, x6, x4⟩ | exact ⟨(T1.cell (p := ⟨N.bn, 0, none⟩) (World.block_lt_of_cell? _ _ y0) (by simpa using A.ns)).trans y0, (T1.cell (p := ⟨w.heap.size, 6, none⟩) zW (by simp; omega)).trans x6, (T1.cell (p := ⟨w.heap.size, 4, none⟩) zW (by simp; omega)).trans x4⟩)
    (first | (go_at_call 17; refine (submit_no N.bs N.blk N.bud s nonce N.psl N.os.length N.pcap N.en N.ps _ (by exact hI0.snd) (by exact ⟨hI0.pth.owns, hI0.pth.len⟩) A.sp (by omega) (by omega) hl5 h.shape.le HC8.out HNOP.out).mono ?_; rintro e w1 ⟨rfl, T1, S1⟩))
  rename_i hH
  obtain ⟨z0, z6, z4⟩ := hH
  have St1 := hI0.asked (((Turn.refl _ W).drew).trans T1 (by simp)) S1
  have hI1 := St1.inv
  obtain ⟨m0, m2, m3, m4, m10, mlt⟩ := hI1.netCell
  go_wp2_with fail
  go_region_held3 (fun v => v.cell? ⟨w.heap.size, 6, none⟩ = some (.string s) ∧ v.cell? ⟨w.heap.size, 4, none⟩ = some (.int .u64 nonce))
    (first | exact ⟨z6, z4⟩ | assumption)
    (first | (go_at_call 87; refine (refSubmit_no N.bn N.blk s nonce N.rsl N.os.length N.rcap N.os _ (by exact m2) (by exact m4) (by exact ⟨hI1.rth.owns, hI1.rth.len⟩) hl5 (by omega) (by omega) HNO.out).mono ?_; rintro e w2 ⟨rfl, hw2⟩; subst hw2))
  go_wp2_with fail
  refine (num_any _ _).mono ?_
  rintro e w3 ⟨rfl, rfl⟩
  go_wp2
  go_ret
  refine ⟨rfl, N, ?_⟩
  have TT : Turn [N.bs] w w1 := ((t0.mono (by simp)).drew).trans T1 (by simp)
  exact h.asked TT.drew S1

end Go.Proofs.YtfbbidaoljfloaaDoor
