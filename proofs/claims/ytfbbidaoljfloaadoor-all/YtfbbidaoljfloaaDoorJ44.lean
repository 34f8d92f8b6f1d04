import Derived.Test.YtfbbidaoljfloaaDoorJ43
namespace Go.Proofs.YtfbbidaoljfloaaDoor
open Go.RowKit Go.MuLone

set_option maxRecDepth 100000 in
set_option maxHeartbeats 2000000 in
theorem framesA_arrive (N : NetA) (a n m nonce mask : Int) (s : ByteArray) (w : World) (h : InvA w N) (h0 : 0 < N.wn) (hwn : N.wn ≤ 2199023255552) (hn1 : -9223372036854775808 ≤ n) (hn2 : n ≤ 9223372036854775807) (hbig : N.hm + 4 ≤ 8796093022208) (hm0 : 0 ≤ mask) (hev : mask % 2 = 1) :
    Calls Tryd.prog 67 #[.pointer (some ⟨N.bn, 0, none⟩), opV 6 a n m nonce mask s] w fun e w' => e = .returned (.bool true) ∧ ∃ N', StpA w N w' N' := by
  have hrem : (mask.tmod 2 == 0) = false := by rw [beq_eq_false_iff_ne, Int.tmod_eq_emod_of_nonneg hm0]; omega
  obtain ⟨gy, hgy, hcapn⟩ := h.m.wayAt h0
  have hX := OpAt.mk' h.m 6 a n m nonce mask s
  have HT : Hid _ := hX.turn
  have HI : Hid _ := h
  have HS0 : Hid _ := (h.m.turn hX.turn).stp
  have OK : ∀ (v : World), StpM (w.alloc (.cells (opCells 6 a n m nonce mask s) 89)) N v N → v.cell? ⟨N.bn, 10, none⟩ = some (.slice (some ⟨gy, 0, none⟩) N.wn N.wcap) ∧ v.cell? ⟨w.heap.size, 2, none⟩ = some (.int .i64 n) ∧ v.cell? ⟨w.heap.size, 0, none⟩ = some (.int .i64 6) ∧ v.cell? ⟨w.heap.size, 5, none⟩ = some (.int .u32 mask) ∧ v.cell? ⟨w.heap.size, 3, none⟩ = some (.int .i64 m) := fun v st => by
    have q : v.cell? ⟨N.bn, 10, none⟩ = some (.slice N.wsl N.wn N.wcap) := by rw [cell_of_row _ _ _ _ _ _ st.m.hold.net]; rfl
    rw [hgy] at q
    exact ⟨q, (hX.cell st 2).trans rfl, (hX.cell st 0).trans rfl, (hX.cell st 5).trans rfl, (hX.cell st 3).trans rfl⟩
  have HOK : Hid _ := OK
  have HXC : Hid _ := fun (v : World) (M : NetA) (st : StpM (w.alloc (.cells (opCells 6 a n m nonce mask s) 89)) N v M) (j : Nat) => (hX.cell st j)
  have hb0 : ((N.wn : Int) == 0) = false := by simp; omega
  have c10 : w.cell? ⟨N.bn, 10, none⟩ = some (.slice (some ⟨gy, 0, none⟩) N.wn N.wcap) := by
    rw [cell_of_row _ _ _ _ _ _ h.m.hold.net]
    show some N.wv = _
    rw [NetA.wv, hgy]
  have nlt : N.bn < w.heap.size := lt_of_heap h.m.hold.net
  clear hX h OK
  unfold opV
  go_enter Tryd.func67, Tryd.ntmps67
  go_wp2_with fail
  rw [show w.alloc (.cells #[.int .i64 6, .int .i64 a, .int .i64 n, .int .i64 m, .int .u64 nonce, .int .u32 mask, .string s] 89) = w.alloc (.cells (opCells 6 a n m nonce mask s) 89) from rfl]
  clear c10
  generalize w.alloc (.cells (opCells 6 a n m nonce mask s) 89) = W at *
  generalize hXX : w.heap.size = X at *
  obtain ⟨y10, y2, y0, y5, y3⟩ := HOK.out _ HS0.out
  go_region_held3 (fun u => u.cell? ⟨N.bn, 10, none⟩ = some (.slice (some ⟨gy, 0, none⟩) N.wn N.wcap) ∧ u.cell? ⟨X, 2, none⟩ = some (.int .i64 n))
    (first | exact ⟨y10, y2⟩ | assumption)
    (first | (go_at_call 35; refine (pick_any n N.wn _ hn1 hn2 h0 (by omega)).mono ?_; rintro e w1 ⟨i, hi1, rfl, hw1⟩; subst hw1))
  rename_i hHH
  clear hHH y10 y2 y0 y5 y3
  have HS1 : Hid _ := HS0.out.then ((Turn.refl [] W).drew)
  generalize W.drew = V at *
  obtain ⟨y10, y2, y0, y5, y3⟩ := HOK.out _ HS1.out
  obtain ⟨tb, ts, tn, td, p0, p1, p2, p3, hpo⟩ := HI.out.l.posts i hi1
  have hyo : (Value.slice N.wsl N.wn N.wcap).ownBlock = some gy := by rw [hgy]; rfl
  have r0 := owns_cell HS1.out.m.way.owns hyo p0
  have r1 := owns_cell HS1.out.m.way.owns hyo p1
  have r2 := owns_cell HS1.out.m.way.owns hyo p2
  have r3 := owns_cell HS1.out.m.way.owns hyo p3
  have hi0 : (0 : Int) ≤ (i : Int) := by omega
  have hi2 : (i : Int) < (N.wn : Int) := by omega
  have HPO : Hid (PostOk N tb ts tn td) := hpo
  clear p0 p1 p2 p3 hpo
  go_upto_region 5 with fail
  have T4 : Turn [] V (V.alloc (.cells #[.bool tb, .string ts, .int .i64 tn, .int .i64 td] 156)) := (Turn.refl [] V).alloc _
  have HS4 : Hid _ := HS1.out.then T4
  have HP4 : Hid _ := heap_alloc_new V (.cells #[.bool tb, .string ts, .int .i64 tn, .int .i64 td] 156)
  have hPB : V.heap.size ∉ N.blocks := fun hm => by
    rcases List.mem_append.1 hm with q | q
    · have := HS1.out.m.lt _ q; omega
    · have := HS1.out.m.net.lt _ q; omega
  clear T4 r0 r1 r2 r3 y10 y2 y0 y5 y3
  generalize V.alloc (.cells #[.bool tb, .string ts, .int .i64 tn, .int .i64 td] 156) = V1 at *
  generalize V.heap.size = P at *
  have HC : Hid (∀ (v : World) (M : NetA), StpM V1 N v M → v.cell? ⟨P, 0, none⟩ = some (.bool tb) ∧ v.cell? ⟨P, 1, none⟩ = some (.string ts) ∧ v.cell? ⟨P, 2, none⟩ = some (.int .i64 tn) ∧ v.cell? ⟨P, 3, none⟩ = some (.int .i64 td) ∧ v.cell? ⟨X, 0, none⟩ = some (.int .i64 6) ∧ v.cell? ⟨X, 3, none⟩ = some (.int .i64 m) ∧ v.cell? ⟨X, 5, none⟩ = some (.int .u32 mask)) := fun v M st => by
    have zp := st.turn.cells HP4.out hPB
    have zx := HXC.out _ _ (HS4.out.trans st)
    exact ⟨by rw [cell_of_row _ _ _ _ _ _ zp]; rfl, by rw [cell_of_row _ _ _ _ _ _ zp]; rfl, by rw [cell_of_row _ _ _ _ _ _ zp]; rfl, by rw [cell_of_row _ _ _ _ _ _ zp]; rfl, (zx 0).trans rfl, (zx 3).trans rfl, (zx 5).trans rfl⟩
  obtain ⟨z0, z1, z2, z3, x0, x3, x5⟩ := HC.out _ _ HS4.out.m.stp
  go_wp2_with fail
  refine (arrive_any N tb ts tn td _ ⟨HS4.out.m, HI.out.l⟩ HPO.out hbig hwn).mono ?_
  rintro e w5 ⟨rfl, N5, st⟩
  have HS7 : Hid _ := st
  clear st z0 z1 z2 z3 x0 x3 x5
  go_wp2_with fail
  go_ret
  exact ⟨rfl, N5, StpA.of HT.out HI.out.m (HS4.out.trans HS7.out.m) HS7.out.inv.l HS7.out.hm HS7.out.wn⟩

set_option maxRecDepth 100000 in
set_option maxHeartbeats 2000000 in
theorem framesA_cross (N : NetA) (a n m nonce mask : Int) (s : ByteArray) (w : World) (h : InvA w N) (h0 : 0 < N.wn) (hwn : N.wn ≤ 2199023255552) (hn1 : -9223372036854775808 ≤ n) (hn2 : n ≤ 9223372036854775807) :
    Calls Tryd.prog 67 #[.pointer (some ⟨N.bn, 0, none⟩), opV 9 a n m nonce mask s] w fun e w' => e = .returned (.bool true) ∧ ∃ N', StpA w N w' N' := by
  obtain ⟨gy, hgy, hcapn⟩ := h.m.wayAt h0
  have hX := OpAt.mk' h.m 9 a n m nonce mask s
  have HT : Hid _ := hX.turn
  have HI : Hid _ := h
  have HS0 : Hid _ := (h.m.turn hX.turn).stp
  have OK : ∀ (v : World), StpM (w.alloc (.cells (opCells 9 a n m nonce mask s) 89)) N v N → v.cell? ⟨N.bn, 10, none⟩ = some (.slice (some ⟨gy, 0, none⟩) N.wn N.wcap) ∧ v.cell? ⟨w.heap.size, 2, none⟩ = some (.int .i64 n) ∧ v.cell? ⟨w.heap.size, 0, none⟩ = some (.int .i64 9) ∧ v.cell? ⟨w.heap.size, 5, none⟩ = some (.int .u32 mask) ∧ v.cell? ⟨w.heap.size, 3, none⟩ = some (.int .i64 m) := fun v st => by
    have q : v.cell? ⟨N.bn, 10, none⟩ = some (.slice N.wsl N.wn N.wcap) := by rw [cell_of_row _ _ _ _ _ _ st.m.hold.net]; rfl
    rw [hgy] at q
    exact ⟨q, (hX.cell st 2).trans rfl, (hX.cell st 0).trans rfl, (hX.cell st 5).trans rfl, (hX.cell st 3).trans rfl⟩
  have HOK : Hid _ := OK
  have HXC : Hid _ := fun (v : World) (M : NetA) (st : StpM (w.alloc (.cells (opCells 9 a n m nonce mask s) 89)) N v M) (j : Nat) => (hX.cell st j)
  have hb0 : ((N.wn : Int) == 0) = false := by simp; omega
  have c10 : w.cell? ⟨N.bn, 10, none⟩ = some (.slice (some ⟨gy, 0, none⟩) N.wn N.wcap) := by
    rw [cell_of_row _ _ _ _ _ _ h.m.hold.net]
    show some N.wv = _
    rw [NetA.wv, hgy]
  have nlt : N.bn < w.heap.size := lt_of_heap h.m.hold.net
  clear hX h OK
  unfold opV
  go_enter Tryd.func67, Tryd.ntmps67
  go_wp2_with fail
  rw [show w.alloc (.cells #[.int .i64 9, .int .i64 a, .int .i64 n, .int .i64 m, .int .u64 nonce, .int .u32 mask, .string s] 89) = w.alloc (.cells (opCells 9 a n m nonce mask s) 89) from rfl]
  clear c10
  generalize w.alloc (.cells (opCells 9 a n m nonce mask s) 89) = W at *
  generalize hXX : w.heap.size = X at *
  obtain ⟨y10, y2, y0, y5, y3⟩ := HOK.out _ HS0.out
  go_region_held3 (fun u => u.cell? ⟨N.bn, 10, none⟩ = some (.slice (some ⟨gy, 0, none⟩) N.wn N.wcap) ∧ u.cell? ⟨X, 2, none⟩ = some (.int .i64 n))
    (first | exact ⟨y10, y2⟩ | assumption)
    (first | (go_at_call 35; refine (pick_any n N.wn _ hn1 hn2 h0 (by omega)).mono ?_; rintro e w1 ⟨i, hi1, rfl, hw1⟩; subst hw1))
  rename_i hHH
  clear hHH y10 y2 y0 y5 y3
  have HS1 : Hid _ := HS0.out.then ((Turn.refl [] W).drew)
  generalize W.drew = V at *
  obtain ⟨y10, y2, y0, y5, y3⟩ := HOK.out _ HS1.out
  obtain ⟨tb, ts, tn, td, p0, p1, p2, p3, hpo⟩ := HI.out.l.posts i hi1
  have hyo : (Value.slice N.wsl N.wn N.wcap).ownBlock = some gy := by rw [hgy]; rfl
  have r0 := owns_cell HS1.out.m.way.owns hyo p0
  have r1 := owns_cell HS1.out.m.way.owns hyo p1
  have r2 := owns_cell HS1.out.m.way.owns hyo p2
  have r3 := owns_cell HS1.out.m.way.owns hyo p3
  have hi0 : (0 : Int) ≤ (i : Int) := by omega
  have hi2 : (i : Int) < (N.wn : Int) := by omega
  have HPO : Hid (PostOk N tb ts tn td) := hpo
  clear p0 p1 p2 p3 hpo
  go_upto_region 5 with fail
  have T4 : Turn [] V (V.alloc (.cells #[.bool tb, .string ts, .int .i64 tn, .int .i64 td] 156)) := (Turn.refl [] V).alloc _
  have HS4 : Hid _ := HS1.out.then T4
  have HP4 : Hid _ := heap_alloc_new V (.cells #[.bool tb, .string ts, .int .i64 tn, .int .i64 td] 156)
  have hPB : V.heap.size ∉ N.blocks := fun hm => by
    rcases List.mem_append.1 hm with q | q
    · have := HS1.out.m.lt _ q; omega
    · have := HS1.out.m.net.lt _ q; omega
  clear T4 r0 r1 r2 r3 y10 y2 y0 y5 y3
  generalize V.alloc (.cells #[.bool tb, .string ts, .int .i64 tn, .int .i64 td] 156) = V1 at *
  generalize V.heap.size = P at *
  have HC : Hid (∀ (v : World) (M : NetA), StpM V1 N v M → v.cell? ⟨P, 0, none⟩ = some (.bool tb) ∧ v.cell? ⟨P, 1, none⟩ = some (.string ts) ∧ v.cell? ⟨P, 2, none⟩ = some (.int .i64 tn) ∧ v.cell? ⟨P, 3, none⟩ = some (.int .i64 td) ∧ v.cell? ⟨X, 0, none⟩ = some (.int .i64 9) ∧ v.cell? ⟨X, 3, none⟩ = some (.int .i64 m) ∧ v.cell? ⟨X, 5, none⟩ = some (.int .u32 mask)) := fun v M st => by
    have zp := st.turn.cells HP4.out hPB
    have zx := HXC.out _ _ (HS4.out.trans st)
    exact ⟨by rw [cell_of_row _ _ _ _ _ _ zp]; rfl, by rw [cell_of_row _ _ _ _ _ _ zp]; rfl, by rw [cell_of_row _ _ _ _ _ _ zp]; rfl, by rw [cell_of_row _ _ _ _ _ _ zp]; rfl, (zx 0).trans rfl, (zx 3).trans rfl, (zx 5).trans rfl⟩
  obtain ⟨z0, z1, z2, z3, x0, x3, x5⟩ := HC.out _ _ HS4.out.m.stp
  have HN : Hid (Calls Tryd.prog 66 #[.pointer (some ⟨N.bn, 0, none⟩), .bool (!tb), .string ts] V1 fun e w' => e = .returned (.bool true) ∧ ∃ N', StpA V1 N w' N') := by
    obtain ⟨k, _, hup, hdn⟩ := HPO.out
    cases tb
    · obtain ⟨j, o, _, _, _, e⟩ := hdn rfl
      exact nothing_up N ts V1 ⟨HS4.out.m, HI.out.l⟩ (by rw [e]; exact cross_up HI.out.l.blk1)
    · obtain ⟨_, _, e⟩ := hup rfl
      have hv := HI.out.l.get.eblk
      refine nothing_down N ts V1 ⟨HS4.out.m, HI.out.l⟩ ?_ (by rw [e, ← hv]; exact cross_down HI.out.m.net.rok)
      have := congrArg List.length e
      rw [doneB_len, bytesOf_len] at this
      omega
  go_wp2_with fail
  refine HN.out.mono ?_
  rintro e w5 ⟨rfl, N5, st⟩
  have HS7 : Hid _ := st
  clear st z0 z1 z2 z3 x0 x3 x5
  go_wp2_with fail
  go_ret
  exact ⟨rfl, N5, StpA.of HT.out HI.out.m (HS4.out.trans HS7.out.m) HS7.out.inv.l HS7.out.hm HS7.out.wn⟩

set_option maxRecDepth 100000 in
set_option maxHeartbeats 2000000 in
theorem framesA_spoil (N : NetA) (a n m nonce mask : Int) (s : ByteArray) (w : World) (h : InvA w N) (h0 : 0 < N.wn) (hwn : N.wn ≤ 2199023255552) (hn1 : -9223372036854775808 ≤ n) (hn2 : n ≤ 9223372036854775807) (hq1 : -9223372036854775808 ≤ m) (hq2 : m ≤ 9223372036854775807) (hm0 : 0 ≤ mask) (hm1 : mask ≤ 4294967295) :
    Calls Tryd.prog 67 #[.pointer (some ⟨N.bn, 0, none⟩), opV 8 a n m nonce mask s] w fun e w' => e = .returned (.bool true) ∧ ∃ N', StpA w N w' N' := by
  obtain ⟨gy, hgy, hcapn⟩ := h.m.wayAt h0
  have hX := OpAt.mk' h.m 8 a n m nonce mask s
  have HT : Hid _ := hX.turn
  have HI : Hid _ := h
  have HS0 : Hid _ := (h.m.turn hX.turn).stp
  have OK : ∀ (v : World), StpM (w.alloc (.cells (opCells 8 a n m nonce mask s) 89)) N v N → v.cell? ⟨N.bn, 10, none⟩ = some (.slice (some ⟨gy, 0, none⟩) N.wn N.wcap) ∧ v.cell? ⟨w.heap.size, 2, none⟩ = some (.int .i64 n) ∧ v.cell? ⟨w.heap.size, 0, none⟩ = some (.int .i64 8) ∧ v.cell? ⟨w.heap.size, 5, none⟩ = some (.int .u32 mask) ∧ v.cell? ⟨w.heap.size, 3, none⟩ = some (.int .i64 m) := fun v st => by
    have q : v.cell? ⟨N.bn, 10, none⟩ = some (.slice N.wsl N.wn N.wcap) := by rw [cell_of_row _ _ _ _ _ _ st.m.hold.net]; rfl
    rw [hgy] at q
    exact ⟨q, (hX.cell st 2).trans rfl, (hX.cell st 0).trans rfl, (hX.cell st 5).trans rfl, (hX.cell st 3).trans rfl⟩
  have HOK : Hid _ := OK
  have HXC : Hid _ := fun (v : World) (M : NetA) (st : StpM (w.alloc (.cells (opCells 8 a n m nonce mask s) 89)) N v M) (j : Nat) => (hX.cell st j)
  have hb0 : ((N.wn : Int) == 0) = false := by simp; omega
  have c10 : w.cell? ⟨N.bn, 10, none⟩ = some (.slice (some ⟨gy, 0, none⟩) N.wn N.wcap) := by
    rw [cell_of_row _ _ _ _ _ _ h.m.hold.net]
    show some N.wv = _
    rw [NetA.wv, hgy]
  have nlt : N.bn < w.heap.size := lt_of_heap h.m.hold.net
  clear hX h OK
  unfold opV
  go_enter Tryd.func67, Tryd.ntmps67
  go_wp2_with fail
  rw [show w.alloc (.cells #[.int .i64 8, .int .i64 a, .int .i64 n, .int .i64 m, .int .u64 nonce, .int .u32 mask, .string s] 89) = w.alloc (.cells (opCells 8 a n m nonce mask s) 89) from rfl]
  clear c10
  generalize w.alloc (.cells (opCells 8 a n m nonce mask s) 89) = W at *
  generalize hXX : w.heap.size = X at *
  obtain ⟨y10, y2, y0, y5, y3⟩ := HOK.out _ HS0.out
  go_region_held3 (fun u => u.cell? ⟨N.bn, 10, none⟩ = some (.slice (some ⟨gy, 0, none⟩) N.wn N.wcap) ∧ u.cell? ⟨X, 2, none⟩ = some (.int .i64 n))
    (first | exact ⟨y10, y2⟩ | assumption)
    (first | (go_at_call 35; refine (pick_any n N.wn _ hn1 hn2 h0 (by omega)).mono ?_; rintro e w1 ⟨i, hi1, rfl, hw1⟩; subst hw1))
  rename_i hHH
  clear hHH y10 y2 y0 y5 y3
  have HS1 : Hid _ := HS0.out.then ((Turn.refl [] W).drew)
  generalize W.drew = V at *
  obtain ⟨y10, y2, y0, y5, y3⟩ := HOK.out _ HS1.out
  obtain ⟨tb, ts, tn, td, p0, p1, p2, p3, hpo⟩ := HI.out.l.posts i hi1
  have hyo : (Value.slice N.wsl N.wn N.wcap).ownBlock = some gy := by rw [hgy]; rfl
  have r0 := owns_cell HS1.out.m.way.owns hyo p0
  have r1 := owns_cell HS1.out.m.way.owns hyo p1
  have r2 := owns_cell HS1.out.m.way.owns hyo p2
  have r3 := owns_cell HS1.out.m.way.owns hyo p3
  have hi0 : (0 : Int) ≤ (i : Int) := by omega
  have hi2 : (i : Int) < (N.wn : Int) := by omega
  have HPO : Hid (PostOk N tb ts tn td) := hpo
  clear p0 p1 p2 p3 hpo
  go_upto_region 5 with fail
  have T4 : Turn [] V (V.alloc (.cells #[.bool tb, .string ts, .int .i64 tn, .int .i64 td] 156)) := (Turn.refl [] V).alloc _
  have HS4 : Hid _ := HS1.out.then T4
  have HP4 : Hid _ := heap_alloc_new V (.cells #[.bool tb, .string ts, .int .i64 tn, .int .i64 td] 156)
  have hPB : V.heap.size ∉ N.blocks := fun hm => by
    rcases List.mem_append.1 hm with q | q
    · have := HS1.out.m.lt _ q; omega
    · have := HS1.out.m.net.lt _ q; omega
  clear T4 r0 r1 r2 r3 y10 y2 y0 y5 y3
  generalize V.alloc (.cells #[.bool tb, .string ts, .int .i64 tn, .int .i64 td] 156) = V1 at *
  generalize V.heap.size = P at *
  have HC : Hid (∀ (v : World) (M : NetA), StpM V1 N v M → v.cell? ⟨P, 0, none⟩ = some (.bool tb) ∧ v.cell? ⟨P, 1, none⟩ = some (.string ts) ∧ v.cell? ⟨P, 2, none⟩ = some (.int .i64 tn) ∧ v.cell? ⟨P, 3, none⟩ = some (.int .i64 td) ∧ v.cell? ⟨X, 0, none⟩ = some (.int .i64 8) ∧ v.cell? ⟨X, 3, none⟩ = some (.int .i64 m) ∧ v.cell? ⟨X, 5, none⟩ = some (.int .u32 mask)) := fun v M st => by
    have zp := st.turn.cells HP4.out hPB
    have zx := HXC.out _ _ (HS4.out.trans st)
    exact ⟨by rw [cell_of_row _ _ _ _ _ _ zp]; rfl, by rw [cell_of_row _ _ _ _ _ _ zp]; rfl, by rw [cell_of_row _ _ _ _ _ _ zp]; rfl, by rw [cell_of_row _ _ _ _ _ _ zp]; rfl, (zx 0).trans rfl, (zx 3).trans rfl, (zx 5).trans rfl⟩
  obtain ⟨z0, z1, z2, z3, x0, x3, x5⟩ := HC.out _ _ HS4.out.m.stp
  have hsz : 0 < ts.size ∧ ts.size ≤ 100 := by
    obtain ⟨k, _, hup, hdn⟩ := HPO.out
    cases tb
    · obtain ⟨j, o, _, _, _, e⟩ := hdn rfl
      have := congrArg List.length e
      rw [fText, sumText_len, sumRow_len, bytesOf_len] at this
      have := HI.out.l.blk2
      omega
    · obtain ⟨_, _, e⟩ := hup rfl
      have := congrArg List.length e
      rw [doneB_len, bytesOf_len] at this
      omega
  have HSP : Hid (∀ v, Calls Tryd.prog 30 #[.string ts, .int .i64 m, .int .u32 mask] v fun e w' => ∃ (t' : List Nat) (from_ m i : Nat), e = .returned (.string (strOf t')) ∧ Spoil (bytesOf ts) t' from_ m i ∧ 0 < i ∧ i ≤ 32 ∧ from_ < 8 * ts.size ∧ Below v.heap.size v w') := fun v => by
    have := spoiled_any ts m mask.toNat v hq1 hq2 (by omega) hsz.1 hsz.2
    rw [Int.toNat_of_nonneg hm0] at this
    exact this
  have HN : Hid (∀ v t' fr q i, Turn [] V1 v → Spoil (bytesOf ts) t' fr q i → 0 < i → i ≤ 32 → fr < 8 * ts.size → Calls Tryd.prog 66 #[.pointer (some ⟨N.bn, 0, none⟩), .bool tb, .string (strOf t')] v fun e w' => e = .returned (.bool true) ∧ ∃ N', StpA v N w' N') := fun v t' fr q i T hsp h1 h2 h3 => by
    obtain ⟨k, _, hup, hdn⟩ := HPO.out
    have hI : InvA v N := ⟨HS4.out.m.turn T, HI.out.l⟩
    have hl2 : t'.length = ts.size := by rw [hsp.len, bytesOf_len]
    cases tb
    · obtain ⟨j, o, _, _, _, e⟩ := hdn rfl
      have hv := HI.out.l.get.eblk
      refine nothing_down N (strOf t') v hI (by rw [strOf_size]; omega) ?_
      rw [bytesOf_strOf _ hsp.lt]
      have hlt := bytesOf_lt ts
      have hln := bytesOf_len ts
      rw [e, ← hv] at hsp hlt hln
      exact spoil_down hsp h1 h2 (by omega) hlt
    · obtain ⟨_, _, e⟩ := hup rfl
      refine nothing_up N (strOf t') v hI ?_
      rw [bytesOf_strOf _ hsp.lt]
      have hln := bytesOf_len ts
      rw [e] at hsp hln
      rw [doneB_len] at hln
      exact spoil_up hsp h1 h2 (by omega)
  go_wp2_with fail
  go_region_held3 (fun v => v.cell? ⟨P, 0, none⟩ = some (.bool tb) ∧ v.cell? ⟨P, 1, none⟩ = some (.string ts) ∧ v.cell? ⟨X, 3, none⟩ = some (.int .i64 m) ∧ v.cell? ⟨X, 5, none⟩ = some (.int .u32 mask))
    (first | exact ⟨z0, z1, x3, x5⟩ | exact ⟨a0, a1, a3, a5⟩ | exact ⟨b0, b1, b3, b5⟩)
    (first
      | (go_at_call 30; refine (HSP.out _).mono ?_; rintro e1 w5 ⟨t', fr, q, i', rfl, hsp, hi0', hi32, hfr, hbe⟩; have hT5 : Turn [] V1 w5 := turn_drew_below hbe; obtain ⟨a0, a1, _, _, _, a3, a5⟩ := HC.out _ _ (StpM.of_turn HS4.out.m hT5))
      | (go_at_call 66; refine (HN.out _ t' fr q i' hT5 hsp hi0' hi32 hfr).mono ?_; rintro e1 w6 ⟨rfl, N6, st⟩; obtain ⟨b0, b1, _, _, _, b3, b5⟩ := HC.out _ _ ((StpM.of_turn HS4.out.m hT5).trans st.m)))
  have HS7 : Hid _ := st
  have HT5 : Hid _ := hT5
  clear st z0 z1 z2 z3 x0 x3 x5 a0 a1 a3 a5 b0 b1 b3 b5 hsp hbe hT5
  go_wp2_with fail
  go_ret
  exact ⟨rfl, N6, StpA.of HT.out HI.out.m ((HS4.out.then HT5.out).trans HS7.out.m) HS7.out.inv.l HS7.out.hm HS7.out.wn⟩

end Go.Proofs.YtfbbidaoljfloaaDoor


namespace Go.Proofs.YtfbbidaoljfloaaDoor
open Go.RowKit Go.MuLone

theorem hide {p : Prop} (h : p) : Hid p := h
theorem unhide {p : Prop} (h : Hid p) : p := h

theorem framesA_any (N : NetA) (k a n m nonce mask : Int) (s : ByteArray) (w : World) (h : InvA w N) (hbig : N.hm + 4 ≤ 8796093022208) (hwn : N.wn ≤ 2199023255552) (hn1 : -9223372036854775808 ≤ n) (hn2 : n ≤ 9223372036854775807) (hq1 : -9223372036854775808 ≤ m) (hq2 : m ≤ 9223372036854775807) (hm0 : 0 ≤ mask) (hm1 : mask ≤ 4294967295) (hk : k = 6 ∨ k = 7 ∨ k = 8 ∨ k = 9) :
    Calls Tryd.prog 67 #[.pointer (some ⟨N.bn, 0, none⟩), opV k a n m nonce mask s] w fun e w' => e = .returned (.bool true) ∧ ∃ N', StpA w N w' N' := by
  by_cases h0 : N.wn = 0
  · exact framesA_none N k a n m nonce mask s w h h0
  · have h1 : 0 < N.wn := by omega
    rcases hk with rfl | rfl | rfl | rfl
    · by_cases hev : mask % 2 = 0
      · exact framesA_cut N a n m nonce mask s w h h1 hwn hn1 hn2 hbig hm0 hm1 hev
      · exact framesA_arrive N a n m nonce mask s w h h1 hwn hn1 hn2 hbig hm0 (by omega)
    · exact framesA_lose N a n m nonce mask s w h h1 hwn hn1 hn2
    · exact framesA_spoil N a n m nonce mask s w h h1 hwn hn1 hn2 hq1 hq2 hm0 hm1
    · exact framesA_cross N a n m nonce mask s w h h1 hwn hn1 hn2

set_option maxRecDepth 100000 in
set_option maxHeartbeats 2000000 in
theorem stepA_frames (N : NetA) (k a n m nonce mask : Int) (s : ByteArray) (w : World) (h : InvA w N) (hbig : N.hm + 4 ≤ 8796093022208) (hwn : N.wn ≤ 2199023255552) (hn1 : -9223372036854775808 ≤ n) (hn2 : n ≤ 9223372036854775807) (hq1 : -9223372036854775808 ≤ m) (hq2 : m ≤ 9223372036854775807) (hm0 : 0 ≤ mask) (hm1 : mask ≤ 4294967295) (hk : k = 6 ∨ k = 7 ∨ k = 8 ∨ k = 9) :
    Calls Tryd.prog 36 #[.pointer (some ⟨N.bn, 0, none⟩), opV k a n m nonce mask s] w fun e w' => e = .returned (.bool true) ∧ ∃ N', StpA w N w' N' := by
  have hX := OpAt.mk' h.m k a n m nonce mask s
  have HI0 : Hid (InvA (w.alloc (.cells (opCells k a n m nonce mask s) 89)) N) := ⟨h.m.turn hX.turn, h.l⟩
  have HT : Hid _ := hX.turn
  have HC := hide (framesA_any N k a n m nonce mask s _ HI0.out hbig hwn hn1 hn2 hq1 hq2 hm0 hm1 hk)
  have e3 : (k == 3) = false := by simp; omega
  have e4 : (k == 4) = false := by simp; omega
  have e5 : (k == 5) = false := by simp; omega
  have e10 : (k == 10) = false := by simp; omega
  have e11 : (k == 11) = false := by simp; omega
  have e12 : (k == 12) = false := by simp; omega
  clear hX h HI0 hk
  unfold opV
  go_enter Tryd.func36, Tryd.ntmps36
  go_wp2_with fail
  refine (unhide HC).mono ?_
  rintro e w1 ⟨rfl, N', st⟩
  have HS : Hid _ := st
  clear st
  go_wp2_with fail
  go_ret
  exact ⟨rfl, N', HS.out.pre HT.out⟩

theorem stepA_any (N : NetA) (k a n m nonce mask : Int) (s : ByteArray) (w : World) (h : InvA w N) (hbig : N.hm + 4 ≤ 8796093022208) (hwn : N.wn ≤ 2199023255552) (hn1 : -9223372036854775808 ≤ n) (hn2 : n ≤ 9223372036854775807) (hq1 : -9223372036854775808 ≤ m) (hq2 : m ≤ 9223372036854775807) (hm0 : 0 ≤ mask) (hm1 : mask ≤ 4294967295) (hk1 : 3 ≤ k) (hk2 : k ≤ 12) :
    Calls Tryd.prog 36 #[.pointer (some ⟨N.bn, 0, none⟩), opV k a n m nonce mask s] w fun e w' => e = .returned (.bool true) ∧ ∃ N', StpA w N w' N' := by
  have hk : k = 3 ∨ k = 4 ∨ k = 5 ∨ (k = 6 ∨ k = 7 ∨ k = 8 ∨ k = 9) ∨ k = 10 ∨ k = 11 ∨ k = 12 := by omega
  rcases hk with rfl | rfl | rfl | hf | rfl | rfl | rfl
  · exact stepA_submit N a n m nonce mask s w h
  · exact stepA_tick N a n m nonce mask s w h hbig hwn
  · exact stepA_status N a n m nonce mask s w h
  · exact stepA_frames N k a n m nonce mask s w h hbig hwn hn1 hn2 hq1 hq2 hm0 hm1 hf
  · exact stepA_bytes N a n m nonce mask s w h
  · exact stepA_take N a n m nonce mask s w h
  · exact stepA_rank N a n m nonce mask s w h hbig
end Go.Proofs.YtfbbidaoljfloaaDoor
