import Derived.Test.YtafipndlfkklfaaDoorJ39
namespace Go.Proofs.YtafipndlfkklfaaDoor
open Go.RowKit Go.MuLone

set_option maxRecDepth 100000 in
set_option maxHeartbeats 2000000 in
theorem framesA_none (N : NetA) (k a n m nonce mask : Int) (s : ByteArray) (w : World) (h : InvA w N) (h0 : N.wn = 0) :
    Calls Tryd.prog 67 #[.pointer (some ⟨N.bn, 0, none⟩), opV k a n m nonce mask s] w fun e w' => e = .returned (.bool true) ∧ ∃ N', StpA w N w' N' := by
  have c10 : w.cell? ⟨N.bn, 10, none⟩ = some (.slice N.wsl 0 N.wcap) := by
    rw [cell_of_row _ _ _ _ _ _ h.m.hold.net]
    show some N.wv = _
    rw [NetA.wv, h0]
  have nlt : N.bn < w.heap.size := lt_of_heap h.m.hold.net
  have HI : Hid _ := h
  clear h
  unfold opV
  go_enter Tryd.func67, Tryd.ntmps67
  go_wp2_with fail
  go_ret
  exact ⟨rfl, N, StpA.still HI.out ((Turn.refl _ _).alloc _)⟩

/-- Where a list lies that is not empty. -/
theorem InvM.wayAt {w : World} {N : NetA} (h : InvM w N) (h0 : 0 < N.wn) : ∃ gy, N.wsl = some ⟨gy, 0, none⟩ ∧ N.wn ≤ N.wcap ∧ N.wcap ≤ 9223372036854775807 := by
  rcases h.way.owns.2 with ⟨_, q⟩ | ⟨g, cap, cur, hv, _, _, q1, q2, _⟩
  · omega
  · unfold maxLen at q2
    injection hv with e1 e2 e3
    exact ⟨g, e1, by omega, by omega⟩

set_option maxRecDepth 100000 in
set_option maxHeartbeats 2000000 in
theorem framesA_lose (N : NetA) (a n m nonce mask : Int) (s : ByteArray) (w : World) (h : InvA w N) (h0 : 0 < N.wn) (hwn : N.wn ≤ 2199023255552) (hn1 : -9223372036854775808 ≤ n) (hn2 : n ≤ 9223372036854775807) :
    Calls Tryd.prog 67 #[.pointer (some ⟨N.bn, 0, none⟩), opV 7 a n m nonce mask s] w fun e w' => e = .returned (.bool true) ∧ ∃ N', StpA w N w' N' := by
  obtain ⟨i0, hi, hz0, hz1, hz2⟩ := info_parts infoPost
  obtain ⟨gy, hgy, hcapn⟩ := h.m.wayAt h0
  have hX := OpAt.mk' h.m 7 a n m nonce mask s
  have HT : Hid _ := hX.turn
  have HI : Hid _ := h
  have HS0 : Hid _ := (h.m.turn hX.turn).stp
  have OK : ∀ (v : World), StpM (w.alloc (.cells (opCells 7 a n m nonce mask s) 89)) N v N → v.cell? ⟨N.bn, 10, none⟩ = some (.slice (some ⟨gy, 0, none⟩) N.wn N.wcap) ∧ v.cell? ⟨w.heap.size, 2, none⟩ = some (.int .i64 n) ∧ v.cell? ⟨w.heap.size, 0, none⟩ = some (.int .i64 7) ∧ v.cell? ⟨w.heap.size, 5, none⟩ = some (.int .u32 mask) ∧ v.cell? ⟨w.heap.size, 3, none⟩ = some (.int .i64 m) := fun v st => by
    have q : v.cell? ⟨N.bn, 10, none⟩ = some (.slice N.wsl N.wn N.wcap) := by rw [cell_of_row _ _ _ _ _ _ st.m.hold.net]; rfl
    rw [hgy] at q
    exact ⟨q, (hX.cell st 2).trans rfl, (hX.cell st 0).trans rfl, (hX.cell st 5).trans rfl, (hX.cell st 3).trans rfl⟩
  have HOK : Hid _ := OK
  have HXC : Hid _ := fun (v : World) (M : NetA) (st : StpM (w.alloc (.cells (opCells 7 a n m nonce mask s) 89)) N v M) => (hX.cell st 0)
  have hb0 : ((N.wn : Int) == 0) = false := by simp; omega
  have c10 : w.cell? ⟨N.bn, 10, none⟩ = some (.slice (some ⟨gy, 0, none⟩) N.wn N.wcap) := by
    rw [cell_of_row _ _ _ _ _ _ h.m.hold.net]
    show some N.wv = _
    rw [NetA.wv, hgy]
  have nlt : N.bn < w.heap.size := lt_of_heap h.m.hold.net
  clear hX h OK
  unfold opV
  go_enter Tryd.func67, Tryd.ntmps67
  go_wp2_with fail
  rw [show w.alloc (.cells #[.int .i64 7, .int .i64 a, .int .i64 n, .int .i64 m, .int .u64 nonce, .int .u32 mask, .string s] 89) = w.alloc (.cells (opCells 7 a n m nonce mask s) 89) from rfl]
  clear c10
  generalize w.alloc (.cells (opCells 7 a n m nonce mask s) 89) = W at *
  generalize hXX : w.heap.size = X at *
  obtain ⟨y10, y2, y0, y5, y3⟩ := HOK.out _ HS0.out
  go_region_held3 (fun u => u.cell? ⟨N.bn, 10, none⟩ = some (.slice (some ⟨gy, 0, none⟩) N.wn N.wcap) ∧ u.cell? ⟨X, 2, none⟩ = some (.int .i64 n))
    (first | exact ⟨y10, y2⟩ | assumption)
    (first | (go_at_call 35; refine (pick_any n N.wn _ hn1 hn2 h0 (by omega)).mono ?_; rintro e w1 ⟨i, hi1, rfl, hw1⟩; subst hw1))
  rename_i hHH
  clear hHH y10 y2 y0 y5 y3
  have HS1 : Hid _ := HS0.out.then ((Turn.refl [] W).drew)
  generalize W.drew = V at *
  obtain ⟨y10, y2, y0, y5, y3⟩ := HOK.out _ HS1.out
  obtain ⟨tb, ts, tn, td, p0, p1, p2, p3, hpo⟩ := HI.out.l.posts i hi1
  have hyo : (Value.slice N.wsl N.wn N.wcap).ownBlock = some gy := by rw [hgy]; rfl
  have r0 := owns_cell HS1.out.m.way.owns hyo p0
  have r1 := owns_cell HS1.out.m.way.owns hyo p1
  have r2 := owns_cell HS1.out.m.way.owns hyo p2
  have r3 := owns_cell HS1.out.m.way.owns hyo p3
  have hi0 : (0 : Int) ≤ (i : Int) := by omega
  have hi2 : (i : Int) < (N.wn : Int) := by omega
  have HPO : Hid (PostOk N tb ts tn td) := hpo
  clear p0 p1 p2 p3 hpo
  go_upto_region 5 with fail
  have T4 : Turn [] V (V.alloc (.cells #[.bool tb, .string ts, .int .i64 tn, .int .i64 td] 156)) := (Turn.refl [] V).alloc _
  have HS4 : Hid _ := HS1.out.then T4
  have HP4 : Hid _ := heap_alloc_new V (.cells #[.bool tb, .string ts, .int .i64 tn, .int .i64 td] 156)
  have hPn : N.bn ≠ V.heap.size := by have := HS1.out.lt; have := lt_of_heap HS0.out.m.hold.net; omega
  clear T4 r0 r1 r2 r3 y10 y2 y0 y5 y3
  generalize V.alloc (.cells #[.bool tb, .string ts, .int .i64 tn, .int .i64 td] 156) = V1 at *
  generalize V.heap.size = P at *
  obtain ⟨y10, y2, y0, y5, y3⟩ := HOK.out _ HS4.out
  have f10 := HS4.out.m.hold.froz 10
  have hi3 : (i : Int) ≤ (N.wcap : Int) := by omega
  have hi4 : (N.wn : Int) ≤ (N.wcap : Int) := by omega
  have hi5 : (i : Int) + 1 ≤ (N.wn : Int) := by omega
  have hlen := HS4.out.m.way.owns.1
  have nV : N.bn < V1.heap.size := World.block_lt_of_cell? _ _ y10
  have xV : X < V1.heap.size := World.block_lt_of_cell? _ _ y0
  have yV : gy < V1.heap.size := owns_lt HS4.out.m.way.owns hyo
  have hXn : X ≠ N.bn := by omega
  go_upto_region 8 with (at_builtin; refine wpList_append_gen _ rfl _ _ 149 rfl 156 i0 _ 4 40 Tryd.underlying149 hi hz0 hz1 hz2 rfl (by decide) (.slice none 0 0) 0 [] rfl (World.ownsRow_nil _ _ _ _) ⟨gy, 0, none⟩ i N.wcap (N.wx.take (i * 4)) rfl (by rw [List.length_take]; omega) (fun j u hu => HS4.out.m.way.owns.cells hyo j u (by rw [List.getElem?_take] at hu; split at hu; exact hu; cases hu)) (fun u hu => HI.out.m.way.one u (List.mem_of_mem_take hu)) (by unfold maxLen; omega) (by omega) ?_; intro sl1 cap1 w2 ho1 hg1 ha1)
  simp only [Nat.zero_add, List.nil_append] at ho1 ha1
  have ha1' : (Value.slice sl1 i cap1).ownBlock = none ∨ ∃ k, (Value.slice sl1 i cap1).ownBlock = some k ∧ V1.heap.size ≤ k := by
    rcases ha1 with r | ⟨k, r1, r2⟩
    · exact .inl r
    · exact .inr ⟨k, r1, r2⟩
  clear ha1
  have T2 : Turn [] V1 w2 := (Turn.refl _ V1).grown hg1 (fun k hk => by simp [Value.ownBlock] at hk)
  have HS5 : Hid _ := HS4.out.then T2
  have zT2 := T2.size
  clear hg1 y10 y2 y0 y5 y3 f10
  obtain ⟨u10, u2, u0, u5, u3⟩ := HOK.out _ HS5.out
  have uf := HS5.out.m.hold.froz 10
  have n2lt : N.bn < w2.heap.size := by omega
  have x2lt : X < w2.heap.size := by omega
  have hsb : ∀ b, b < V1.heap.size → (Value.slice sl1 i cap1).ownBlock ≠ some b := fun b hb => by
    rcases ha1' with r | ⟨k, r1, r2⟩
    · rw [r]; simp
    · rw [r1]; simp; omega
  have HFIN : Hid (∀ sl2 cap2 w3, w3.ownsRow 0 156 4 (.slice sl2 (i + (N.wn - (i + 1))) cap2) (i + (N.wn - (i + 1))) (N.wx.take (i * 4) ++ N.wx.drop ((i + 1) * 4)) → w2.grownBy w3 (Value.slice sl1 i cap1).ownBlock → ((Value.slice sl2 (i + (N.wn - (i + 1))) cap2).ownBlock = (Value.slice sl1 i cap1).ownBlock ∨ ∃ k, (Value.slice sl2 (i + (N.wn - (i + 1))) cap2).ownBlock = some k ∧ w2.heap.size ≤ k) →
      (w3.cell? ⟨N.bn, 10, none⟩ = some (.slice (some ⟨gy, 0, none⟩) N.wn N.wcap) ∧ w3.frozen? ⟨N.bn, 10, none⟩ = false ∧ w3.cell? ⟨X, 0, none⟩ = some (.int .i64 7)) ∧
      StpM W N (w3.setCell ⟨N.bn, 10, none⟩ (.slice sl2 (i + (N.wn - (i + 1))) cap2)) { N with wsl := sl2, wn := i + (N.wn - (i + 1)), wcap := cap2, wx := N.wx.take (i * 4) ++ N.wx.drop ((i + 1) * 4) } ∧ InvL { N with wsl := sl2, wn := i + (N.wn - (i + 1)), wcap := cap2, wx := N.wx.take (i * 4) ++ N.wx.drop ((i + 1) * 4) } ∧
      (w3.setCell ⟨N.bn, 10, none⟩ (.slice sl2 (i + (N.wn - (i + 1))) cap2)).heap[P]? = some (.cells #[.bool tb, .string ts, .int .i64 tn, .int .i64 td] 156 (0, 0))) := fun sl2 cap2 w3 ho2 hg2 ha2 => by
    have T3 : Turn [] V1 w3 := T2.grown hg2 (fun k hk => .inr (by
      rcases ha1' with r | ⟨j, r1, r2⟩
      · rw [r] at hk; cases hk
      · rw [r1] at hk; simp at hk; omega))
    obtain ⟨k1, k2⟩ := InvA.cut ⟨HS4.out.m, HI.out.l⟩ hi1 T3 ho2 (by
      rcases ha2 with r | ⟨j, r1, r2⟩
      · rw [r]; exact ha1'
      · exact .inr ⟨j, r1, by omega⟩)
    refine ⟨⟨(T3.cell (p := ⟨N.bn, 10, none⟩) nV (by simp)).trans (HOK.out _ HS4.out).1, (T3.frozen (p := ⟨N.bn, 10, none⟩) nV (by simp)).trans (HS4.out.m.hold.froz 10), (T3.cell (p := ⟨X, 0, none⟩) xV (by simp)).trans (HOK.out _ HS4.out).2.2.1⟩, HS4.out.trans k1, k2, ?_⟩
    have T4 : Turn [N.bn] V1 (w3.setCell ⟨N.bn, 10, none⟩ (.slice sl2 (i + (N.wn - (i + 1))) cap2)) := (T3.mono (by simp)).setCell (.inl (by simp)) _
    exact T4.cells HP4.out (by simp; exact fun e => hPn e.symm)
  clear T2 u2 u5 u3
  by_cases hce : N.wcap = i + 1
  · have hce' : (N.wcap : Int) = (i : Int) + 1 := by omega
    have HCE : Hid _ := hce
    go_upto_region 9 with (at_builtin; (refine wpList_append_gen _ rfl _ _ 149 rfl 156 i0 _ 4 40 Tryd.underlying149 hi hz0 hz1 hz2 rfl (by decide) (.slice sl1 i cap1) i (N.wx.take (i * 4)) rfl ho1 ⟨gy, 0, none⟩ (N.wn - (i + 1)) _ (N.wx.drop ((i + 1) * 4)) rfl (by rw [List.length_drop]; omega) (fun j u hu => by rw [List.drop_of_length_le (by omega)] at hu; simp at hu) (fun u hu => HI.out.m.way.one u (List.mem_of_mem_drop hu)) (by unfold maxLen; omega) (by omega) ?_); intro sl2 cap2 w3 ho2 hg2 ha2)
    obtain ⟨⟨c3, f3, k3⟩, hs4, hl4, hp4⟩ := HFIN.out sl2 cap2 w3 ho2 hg2 ha2
    have HS6 : Hid _ := hs4
    have HL6 : Hid _ := hl4
    have HP6 : Hid _ := hp4
    clear hs4 hl4 hp4 u10 u0 uf ho1 ho2 hg2 ha1' ha2 HFIN
    go_wp2_with fail
    go_ret
    exact ⟨rfl, _, StpA.of HT.out HI.out.m HS6.out HL6.out (by show N.hm ≤ _; omega) (by show i + (N.wn - (i + 1)) ≤ _; omega)⟩
  · have hi6 : (i : Int) + 1 ≤ (N.wcap : Int) := by omega
    go_upto_region 9 with (at_builtin; refine wpList_append_gen _ rfl _ _ 149 rfl 156 i0 _ 4 40 Tryd.underlying149 hi hz0 hz1 hz2 rfl (by decide) (.slice sl1 i cap1) i (N.wx.take (i * 4)) rfl ho1 ⟨gy, (i + 1) * 4, none⟩ (N.wn - (i + 1)) (N.wcap - (i + 1)) (N.wx.drop ((i + 1) * 4)) rfl (by rw [List.length_drop]; omega) (fun j u hu => by rw [show (⟨gy, (i + 1) * 4, none⟩ : Addr).add j = ⟨gy, (i + 1) * 4 + j, none⟩ from by unfold Addr.add; split <;> simp_all]; exact owns_cell HS5.out.m.way.owns hyo (by rw [List.getElem?_drop] at hu; exact hu)) (fun u hu => HI.out.m.way.one u (List.mem_of_mem_drop hu)) (by unfold maxLen; omega) (by omega) ?_; intro sl2 cap2 w3 ho2 hg2 ha2)
    obtain ⟨⟨c3, f3, k3⟩, hs4, hl4, hp4⟩ := HFIN.out sl2 cap2 w3 ho2 hg2 ha2
    have HS6 : Hid _ := hs4
    have HL6 : Hid _ := hl4
    have HP6 : Hid _ := hp4
    clear hs4 hl4 hp4 u10 u0 uf ho1 ho2 hg2 ha1' ha2 HFIN
    go_wp2_with fail
    go_ret
    exact ⟨rfl, _, StpA.of HT.out HI.out.m HS6.out HL6.out (by show N.hm ≤ _; omega) (by show i + (N.wn - (i + 1)) ≤ _; omega)⟩
end Go.Proofs.YtafipndlfkklfaaDoor


namespace Go.Proofs.YtafipndlfkklfaaDoor
open Go.RowKit Go.MuLone

theorem arrive_any (N : NetA) (b : Bool) (s : ByteArray) (n d : Int) (w : World) (h : InvA w N) (hp : PostOk N b s n d) (hbig : N.hm + 4 ≤ 8796093022208) (hwn : N.wn ≤ 2199023255552) :
    Calls Tryd.prog 92 #[.pointer (some ⟨N.bn, 0, none⟩), .agg #[.bool b, .string s, .int .i64 n, .int .i64 d]] w fun e w' => e = .returned (.bool true) ∧ ∃ N', StpA w N w' N' := by
  cases b
  · exact arrive_down N s n d w h hp hbig hwn
  · exact arrive_up N s n d w h hp

set_option maxRecDepth 100000 in
set_option maxHeartbeats 2000000 in
theorem framesA_cut (N : NetA) (a n m nonce mask : Int) (s : ByteArray) (w : World) (h : InvA w N) (h0 : 0 < N.wn) (hwn : N.wn ≤ 2199023255552) (hn1 : -9223372036854775808 ≤ n) (hn2 : n ≤ 9223372036854775807) (hbig : N.hm + 4 ≤ 8796093022208) (hm0 : 0 ≤ mask) (hm1 : mask ≤ 4294967295) (hev : mask % 2 = 0) :
    Calls Tryd.prog 67 #[.pointer (some ⟨N.bn, 0, none⟩), opV 6 a n m nonce mask s] w fun e w' => e = .returned (.bool true) ∧ ∃ N', StpA w N w' N' := by
  have hrem : (mask.tmod 2 == 0) = true := by rw [beq_iff_eq, Int.tmod_eq_emod_of_nonneg hm0]; exact hev
  obtain ⟨i0, hi, hz0, hz1, hz2⟩ := info_parts infoPost
  obtain ⟨gy, hgy, hcapn⟩ := h.m.wayAt h0
  have hX := OpAt.mk' h.m 6 a n m nonce mask s
  have HT : Hid _ := hX.turn
  have HI : Hid _ := h
  have HS0 : Hid _ := (h.m.turn hX.turn).stp
  have OK : ∀ (v : World), StpM (w.alloc (.cells (opCells 6 a n m nonce mask s) 89)) N v N → v.cell? ⟨N.bn, 10, none⟩ = some (.slice (some ⟨gy, 0, none⟩) N.wn N.wcap) ∧ v.cell? ⟨w.heap.size, 2, none⟩ = some (.int .i64 n) ∧ v.cell? ⟨w.heap.size, 0, none⟩ = some (.int .i64 6) ∧ v.cell? ⟨w.heap.size, 5, none⟩ = some (.int .u32 mask) ∧ v.cell? ⟨w.heap.size, 3, none⟩ = some (.int .i64 m) := fun v st => by
    have q : v.cell? ⟨N.bn, 10, none⟩ = some (.slice N.wsl N.wn N.wcap) := by rw [cell_of_row _ _ _ _ _ _ st.m.hold.net]; rfl
    rw [hgy] at q
    exact ⟨q, (hX.cell st 2).trans rfl, (hX.cell st 0).trans rfl, (hX.cell st 5).trans rfl, (hX.cell st 3).trans rfl⟩
  have HOK : Hid _ := OK
  have HXC : Hid _ := fun (v : World) (M : NetA) (st : StpM (w.alloc (.cells (opCells 6 a n m nonce mask s) 89)) N v M) => (hX.cell st 0)
  have hb0 : ((N.wn : Int) == 0) = false := by simp; omega
  have c10 : w.cell? ⟨N.bn, 10, none⟩ = some (.slice (some ⟨gy, 0, none⟩) N.wn N.wcap) := by
    rw [cell_of_row _ _ _ _ _ _ h.m.hold.net]
    show some N.wv = _
    rw [NetA.wv, hgy]
  have nlt : N.bn < w.heap.size := lt_of_heap h.m.hold.net
  clear hX h OK
  unfold opV
  go_enter Tryd.func67, Tryd.ntmps67
  go_wp2_with fail
  rw [show w.alloc (.cells #[.int .i64 6, .int .i64 a, .int .i64 n, .int .i64 m, .int .u64 nonce, .int .u32 mask, .string s] 89) = w.alloc (.cells (opCells 6 a n m nonce mask s) 89) from rfl]
  clear c10
  generalize w.alloc (.cells (opCells 6 a n m nonce mask s) 89) = W at *
  generalize hXX : w.heap.size = X at *
  obtain ⟨y10, y2, y0, y5, y3⟩ := HOK.out _ HS0.out
  go_region_held3 (fun u => u.cell? ⟨N.bn, 10, none⟩ = some (.slice (some ⟨gy, 0, none⟩) N.wn N.wcap) ∧ u.cell? ⟨X, 2, none⟩ = some (.int .i64 n))
    (first | exact ⟨y10, y2⟩ | assumption)
    (first | (go_at_call 35; refine (pick_any n N.wn _ hn1 hn2 h0 (by omega)).mono ?_; rintro e w1 ⟨i, hi1, rfl, hw1⟩; subst hw1))
  rename_i hHH
  clear hHH y10 y2 y0 y5 y3
  have HS1 : Hid _ := HS0.out.then ((Turn.refl [] W).drew)
  generalize W.drew = V at *
  obtain ⟨y10, y2, y0, y5, y3⟩ := HOK.out _ HS1.out
  obtain ⟨tb, ts, tn, td, p0, p1, p2, p3, hpo⟩ := HI.out.l.posts i hi1
  have hyo : (Value.slice N.wsl N.wn N.wcap).ownBlock = some gy := by rw [hgy]; rfl
  have r0 := owns_cell HS1.out.m.way.owns hyo p0
  have r1 := owns_cell HS1.out.m.way.owns hyo p1
  have r2 := owns_cell HS1.out.m.way.owns hyo p2
  have r3 := owns_cell HS1.out.m.way.owns hyo p3
  have hi0 : (0 : Int) ≤ (i : Int) := by omega
  have hi2 : (i : Int) < (N.wn : Int) := by omega
  have HPO : Hid (PostOk N tb ts tn td) := hpo
  clear p0 p1 p2 p3 hpo
  go_upto_region 5 with fail
  have T4 : Turn [] V (V.alloc (.cells #[.bool tb, .string ts, .int .i64 tn, .int .i64 td] 156)) := (Turn.refl [] V).alloc _
  have HS4 : Hid _ := HS1.out.then T4
  have HP4 : Hid _ := heap_alloc_new V (.cells #[.bool tb, .string ts, .int .i64 tn, .int .i64 td] 156)
  have hPn : N.bn ≠ V.heap.size := by have := HS1.out.lt; have := lt_of_heap HS0.out.m.hold.net; omega
  clear T4 r0 r1 r2 r3 y10 y2 y0 y5 y3
  generalize V.alloc (.cells #[.bool tb, .string ts, .int .i64 tn, .int .i64 td] 156) = V1 at *
  generalize V.heap.size = P at *
  obtain ⟨y10, y2, y0, y5, y3⟩ := HOK.out _ HS4.out
  have f10 := HS4.out.m.hold.froz 10
  have hi3 : (i : Int) ≤ (N.wcap : Int) := by omega
  have hi4 : (N.wn : Int) ≤ (N.wcap : Int) := by omega
  have hi5 : (i : Int) + 1 ≤ (N.wn : Int) := by omega
  have hlen := HS4.out.m.way.owns.1
  have nV : N.bn < V1.heap.size := World.block_lt_of_cell? _ _ y10
  have xV : X < V1.heap.size := World.block_lt_of_cell? _ _ y0
  have yV : gy < V1.heap.size := owns_lt HS4.out.m.way.owns hyo
  have hXn : X ≠ N.bn := by omega
  go_upto_region 8 with (at_builtin; refine wpList_append_gen _ rfl _ _ 149 rfl 156 i0 _ 4 40 Tryd.underlying149 hi hz0 hz1 hz2 rfl (by decide) (.slice none 0 0) 0 [] rfl (World.ownsRow_nil _ _ _ _) ⟨gy, 0, none⟩ i N.wcap (N.wx.take (i * 4)) rfl (by rw [List.length_take]; omega) (fun j u hu => HS4.out.m.way.owns.cells hyo j u (by rw [List.getElem?_take] at hu; split at hu; exact hu; cases hu)) (fun u hu => HI.out.m.way.one u (List.mem_of_mem_take hu)) (by unfold maxLen; omega) (by omega) ?_; intro sl1 cap1 w2 ho1 hg1 ha1)
  simp only [Nat.zero_add, List.nil_append] at ho1 ha1
  have ha1' : (Value.slice sl1 i cap1).ownBlock = none ∨ ∃ k, (Value.slice sl1 i cap1).ownBlock = some k ∧ V1.heap.size ≤ k := by
    rcases ha1 with r | ⟨k, r1, r2⟩
    · exact .inl r
    · exact .inr ⟨k, r1, r2⟩
  clear ha1
  have T2 : Turn [] V1 w2 := (Turn.refl _ V1).grown hg1 (fun k hk => by simp [Value.ownBlock] at hk)
  have HS5 : Hid _ := HS4.out.then T2
  have zT2 := T2.size
  clear hg1 y10 y2 y0 y5 y3 f10
  obtain ⟨u10, u2, u0, u5, u3⟩ := HOK.out _ HS5.out
  have uf := HS5.out.m.hold.froz 10
  have n2lt : N.bn < w2.heap.size := by omega
  have x2lt : X < w2.heap.size := by omega
  have hsb : ∀ b, b < V1.heap.size → (Value.slice sl1 i cap1).ownBlock ≠ some b := fun b hb => by
    rcases ha1' with r | ⟨k, r1, r2⟩
    · rw [r]; simp
    · rw [r1]; simp; omega
  have HFIN : Hid (∀ sl2 cap2 w3, w3.ownsRow 0 156 4 (.slice sl2 (i + (N.wn - (i + 1))) cap2) (i + (N.wn - (i + 1))) (N.wx.take (i * 4) ++ N.wx.drop ((i + 1) * 4)) → w2.grownBy w3 (Value.slice sl1 i cap1).ownBlock → ((Value.slice sl2 (i + (N.wn - (i + 1))) cap2).ownBlock = (Value.slice sl1 i cap1).ownBlock ∨ ∃ k, (Value.slice sl2 (i + (N.wn - (i + 1))) cap2).ownBlock = some k ∧ w2.heap.size ≤ k) →
      (w3.cell? ⟨N.bn, 10, none⟩ = some (.slice (some ⟨gy, 0, none⟩) N.wn N.wcap) ∧ w3.frozen? ⟨N.bn, 10, none⟩ = false ∧ w3.cell? ⟨X, 0, none⟩ = some (.int .i64 6)) ∧
      StpM W N (w3.setCell ⟨N.bn, 10, none⟩ (.slice sl2 (i + (N.wn - (i + 1))) cap2)) { N with wsl := sl2, wn := i + (N.wn - (i + 1)), wcap := cap2, wx := N.wx.take (i * 4) ++ N.wx.drop ((i + 1) * 4) } ∧ InvL { N with wsl := sl2, wn := i + (N.wn - (i + 1)), wcap := cap2, wx := N.wx.take (i * 4) ++ N.wx.drop ((i + 1) * 4) } ∧
      (w3.setCell ⟨N.bn, 10, none⟩ (.slice sl2 (i + (N.wn - (i + 1))) cap2)).heap[P]? = some (.cells #[.bool tb, .string ts, .int .i64 tn, .int .i64 td] 156 (0, 0))) := fun sl2 cap2 w3 ho2 hg2 ha2 => by
    have T3 : Turn [] V1 w3 := T2.grown hg2 (fun k hk => .inr (by
      rcases ha1' with r | ⟨j, r1, r2⟩
      · rw [r] at hk; cases hk
      · rw [r1] at hk; simp at hk; omega))
    obtain ⟨k1, k2⟩ := InvA.cut ⟨HS4.out.m, HI.out.l⟩ hi1 T3 ho2 (by
      rcases ha2 with r | ⟨j, r1, r2⟩
      · rw [r]; exact ha1'
      · exact .inr ⟨j, r1, by omega⟩)
    refine ⟨⟨(T3.cell (p := ⟨N.bn, 10, none⟩) nV (by simp)).trans (HOK.out _ HS4.out).1, (T3.frozen (p := ⟨N.bn, 10, none⟩) nV (by simp)).trans (HS4.out.m.hold.froz 10), (T3.cell (p := ⟨X, 0, none⟩) xV (by simp)).trans (HOK.out _ HS4.out).2.2.1⟩, HS4.out.trans k1, k2, ?_⟩
    have T4 : Turn [N.bn] V1 (w3.setCell ⟨N.bn, 10, none⟩ (.slice sl2 (i + (N.wn - (i + 1))) cap2)) := (T3.mono (by simp)).setCell (.inl (by simp)) _
    exact T4.cells HP4.out (by simp; exact fun e => hPn e.symm)
  clear T2 u2 u5 u3
  by_cases hce : N.wcap = i + 1
  · have hce' : (N.wcap : Int) = (i : Int) + 1 := by omega
    have HCE : Hid _ := hce
    go_upto_region 9 with (at_builtin; (refine wpList_append_gen _ rfl _ _ 149 rfl 156 i0 _ 4 40 Tryd.underlying149 hi hz0 hz1 hz2 rfl (by decide) (.slice sl1 i cap1) i (N.wx.take (i * 4)) rfl ho1 ⟨gy, 0, none⟩ (N.wn - (i + 1)) _ (N.wx.drop ((i + 1) * 4)) rfl (by rw [List.length_drop]; omega) (fun j u hu => by rw [List.drop_of_length_le (by omega)] at hu; simp at hu) (fun u hu => HI.out.m.way.one u (List.mem_of_mem_drop hu)) (by unfold maxLen; omega) (by omega) ?_); intro sl2 cap2 w3 ho2 hg2 ha2)
    obtain ⟨⟨c3, f3, k3⟩, hs4, hl4, hp4⟩ := HFIN.out sl2 cap2 w3 ho2 hg2 ha2
    have HS6 : Hid _ := hs4
    have HL6 : Hid _ := hl4
    have HP6 : Hid _ := hp4
    clear hs4 hl4 hp4 u10 u0 uf ho1 ho2 hg2 ha1' ha2 HFIN
    have HPC : Hid _ := fun j => cell_of_row _ P j _ _ _ HP6.out
    have z0 := HPC.out 0
    have z1 := HPC.out 1
    have z2 := HPC.out 2
    have z3 := HPC.out 3
    go_wp2_with fail
    refine (arrive_any _ tb ts tn td _ ⟨HS6.out.m, HL6.out⟩ HPO.out hbig (by show i + (N.wn - (i + 1)) ≤ _; omega)).mono ?_
    rintro e w5 ⟨rfl, N5, st⟩
    have HS7 : Hid _ := st
    have hh : N5.hm ≤ N.hm + 4 := st.hm
    have hw : N5.wn ≤ i + (N.wn - (i + 1)) + 1 := st.wn
    clear st z0 z1 z2 z3
    go_wp2_with fail
    go_ret
    exact ⟨rfl, N5, StpA.of HT.out HI.out.m (HS6.out.trans HS7.out.m) HS7.out.inv.l hh (by omega)⟩
  · have hi6 : (i : Int) + 1 ≤ (N.wcap : Int) := by omega
    go_upto_region 9 with (at_builtin; refine wpList_append_gen _ rfl _ _ 149 rfl 156 i0 _ 4 40 Tryd.underlying149 hi hz0 hz1 hz2 rfl (by decide) (.slice sl1 i cap1) i (N.wx.take (i * 4)) rfl ho1 ⟨gy, (i + 1) * 4, none⟩ (N.wn - (i + 1)) (N.wcap - (i + 1)) (N.wx.drop ((i + 1) * 4)) rfl (by rw [List.length_drop]; omega) (fun j u hu => by rw [show (⟨gy, (i + 1) * 4, none⟩ : Addr).add j = ⟨gy, (i + 1) * 4 + j, none⟩ from by unfold Addr.add; split <;> simp_all]; exact owns_cell HS5.out.m.way.owns hyo (by rw [List.getElem?_drop] at hu; exact hu)) (fun u hu => HI.out.m.way.one u (List.mem_of_mem_drop hu)) (by unfold maxLen; omega) (by omega) ?_; intro sl2 cap2 w3 ho2 hg2 ha2)
    obtain ⟨⟨c3, f3, k3⟩, hs4, hl4, hp4⟩ := HFIN.out sl2 cap2 w3 ho2 hg2 ha2
    have HS6 : Hid _ := hs4
    have HL6 : Hid _ := hl4
    have HP6 : Hid _ := hp4
    clear hs4 hl4 hp4 u10 u0 uf ho1 ho2 hg2 ha1' ha2 HFIN
    have HPC : Hid _ := fun j => cell_of_row _ P j _ _ _ HP6.out
    have z0 := HPC.out 0
    have z1 := HPC.out 1
    have z2 := HPC.out 2
    have z3 := HPC.out 3
    go_wp2_with fail
    refine (arrive_any _ tb ts tn td _ ⟨HS6.out.m, HL6.out⟩ HPO.out hbig (by show i + (N.wn - (i + 1)) ≤ _; omega)).mono ?_
    rintro e w5 ⟨rfl, N5, st⟩
    have HS7 : Hid _ := st
    have hh : N5.hm ≤ N.hm + 4 := st.hm
    have hw : N5.wn ≤ i + (N.wn - (i + 1)) + 1 := st.wn
    clear st z0 z1 z2 z3
    go_wp2_with fail
    go_ret
    exact ⟨rfl, N5, StpA.of HT.out HI.out.m (HS6.out.trans HS7.out.m) HS7.out.inv.l hh (by omega)⟩
end Go.Proofs.YtafipndlfkklfaaDoor


namespace Go.Proofs.YtafipndlfkklfaaDoor
open Go.RowKit Go.MuLone

set_option maxRecDepth 100000 in
set_option maxHeartbeats 2000000 in
theorem framesA_arrive (N : NetA) (a n m nonce mask : Int) (s : ByteArray) (w : World) (h : InvA w N) (h0 : 0 < N.wn) (hwn : N.wn ≤ 2199023255552) (hn1 : -9223372036854775808 ≤ n) (hn2 : n ≤ 9223372036854775807) (hbig : N.hm + 4 ≤ 8796093022208) (hm0 : 0 ≤ mask) (hev : mask % 2 = 1) :
    Calls Tryd.prog 67 #[.pointer (some ⟨N.bn, 0, none⟩), opV 6 a n m nonce mask s] w fun e w' => e = .returned (.bool true) ∧ ∃ N', StpA w N w' N' := by
  have hrem : (mask.tmod 2 == 0) = false := by rw [beq_eq_false_iff_ne, Int.tmod_eq_emod_of_nonneg hm0]; omega
  obtain ⟨gy, hgy, hcapn⟩ := h.m.wayAt h0
  have hX := OpAt.mk' h.m 6 a n m nonce mask s
  have HT : Hid _ := hX.turn
  have HI : Hid _ := h
  have HS0 : Hid _ := (h.m.turn hX.turn).stp
  have OK : ∀ (v : World), StpM (w.alloc (.cells (opCells 6 a n m nonce mask s) 89)) N v N → v.cell? ⟨N.bn, 10, none⟩ = some (.slice (some ⟨gy, 0, none⟩) N.wn N.wcap) ∧ v.cell? ⟨w.heap.size, 2, none⟩ = some (.int .i64 n) ∧ v.cell? ⟨w.heap.size, 0, none⟩ = some (.int .i64 6) ∧ v.cell? ⟨w.heap.size, 5, none⟩ = some (.int .u32 mask) ∧ v.cell? ⟨w.heap.size, 3, none⟩ = some (.int .i64 m) := fun v st => by
    have q : v.cell? ⟨N.bn, 10, none⟩ = some (.slice N.wsl N.wn N.wcap) := by rw [cell_of_row _ _ _ _ _ _ st.m.hold.net]; rfl
    rw [hgy] at q
    exact ⟨q, (hX.cell st 2).trans rfl, (hX.cell st 0).trans rfl, (hX.cell st 5).trans rfl, (hX.cell st 3).trans rfl⟩
  have HOK : Hid _ := OK
  have HXC : Hid _ := fun (v : World) (M : NetA) (st : StpM (w.alloc (.cells (opCells 6 a n m nonce mask s) 89)) N v M) (j : Nat) => (hX.cell st j)
  have hb0 : ((N.wn : Int) == 0) = false := by simp; omega
  have c10 : w.cell? ⟨N.bn, 10, none⟩ = some (.slice (some ⟨gy, 0, none⟩) N.wn N.wcap) := by
    rw [cell_of_row _ _ _ _ _ _ h.m.hold.net]
    show some N.wv = _
    rw [NetA.wv, hgy]
  have nlt : N.bn < w.heap.size := lt_of_heap h.m.hold.net
  clear hX h OK
  unfold opV
  go_enter Tryd.func67, Tryd.ntmps67
  go_wp2_with fail
  rw [show w.alloc (.cells #[.int .i64 6, .int .i64 a, .int .i64 n, .int .i64 m, .int .u64 nonce, .int .u32 mask, .string s] 89) = w.alloc (.cells (opCells 6 a n m nonce mask s) 89) from rfl]
  clear c10
  generalize w.alloc (.cells (opCells 6 a n m nonce mask s) 89) = W at *
  generalize hXX : w.heap.size = X at *
  obtain ⟨y10, y2, y0, y5, y3⟩ := HOK.out _ HS0.out
  go_region_held3 (fun u => u.cell? ⟨N.bn, 10, none⟩ = some (.slice (some ⟨gy, 0, none⟩) N.wn N.wcap) ∧ u.cell? ⟨X, 2, none⟩ = some (.int .i64 n))
    (first | exact ⟨y10, y2⟩ | assumption)
    (first | (go_at_call 35; refine (pick_any n N.wn _ hn1 hn2 h0 (by omega)).mono ?_; rintro e w1 ⟨i, hi1, rfl, hw1⟩; subst hw1))
  rename_i hHH
  clear hHH y10 y2 y0 y5 y3
  have HS1 : Hid _ := HS0.out.then ((Turn.refl [] W).drew)
  generalize W.drew = V at *
  obtain ⟨y10, y2, y0, y5, y3⟩ := HOK.out _ HS1.out
  obtain ⟨tb, ts, tn, td, p0, p1, p2, p3, hpo⟩ := HI.out.l.posts i hi1
  have hyo : (Value.slice N.wsl N.wn N.wcap).ownBlock = some gy := by rw [hgy]; rfl
  have r0 := owns_cell HS1.out.m.way.owns hyo p0
  have r1 := owns_cell HS1.out.m.way.owns hyo p1
  have r2 := owns_cell HS1.out.m.way.owns hyo p2
  have r3 := owns_cell HS1.out.m.way.owns hyo p3
  have hi0 : (0 : Int) ≤ (i : Int) := by omega
  have hi2 : (i : Int) < (N.wn : Int) := by omega
  have HPO : Hid (PostOk N tb ts tn td) := hpo
  clear p0 p1 p2 p3 hpo
  go_upto_region 5 with fail
  have T4 : Turn [] V (V.alloc (.cells #[.bool tb, .string ts, .int .i64 tn, .int .i64 td] 156)) := (Turn.refl [] V).alloc _
  have HS4 : Hid _ := HS1.out.then T4
  have HP4 : Hid _ := heap_alloc_new V (.cells #[.bool tb, .string ts, .int .i64 tn, .int .i64 td] 156)
  have hPB : V.heap.size ∉ N.blocks := fun hm => by
    rcases List.mem_append.1 hm with q | q
    · have := HS1.out.m.lt _ q; omega
    · have := HS1.out.m.net.lt _ q; omega
  clear T4 r0 r1 r2 r3 y10 y2 y0 y5 y3
  generalize V.alloc (.cells #[.bool tb, .string ts, .int .i64 tn, .int .i64 td] 156) = V1 at *
  generalize V.heap.size = P at *
  have HC : Hid (∀ (v : World) (M : NetA), StpM V1 N v M → v.cell? ⟨P, 0, none⟩ = some (.bool tb) ∧ v.cell? ⟨P, 1, none⟩ = some (.string ts) ∧ v.cell? ⟨P, 2, none⟩ = some (.int .i64 tn) ∧ v.cell? ⟨P, 3, none⟩ = some (.int .i64 td) ∧ v.cell? ⟨X, 0, none⟩ = some (.int .i64 6) ∧ v.cell? ⟨X, 3, none⟩ = some (.int .i64 m) ∧ v.cell? ⟨X, 5, none⟩ = some (.int .u32 mask)) := fun v M st => by
    have zp := st.turn.cells HP4.out hPB
    have zx := HXC.out _ _ (HS4.out.trans st)
    exact ⟨by rw [cell_of_row _ _ _ _ _ _ zp]; rfl, by rw [cell_of_row _ _ _ _ _ _ zp]; rfl, by rw [cell_of_row _ _ _ _ _ _ zp]; rfl, by rw [cell_of_row _ _ _ _ _ _ zp]; rfl, (zx 0).trans rfl, (zx 3).trans rfl, (zx 5).trans rfl⟩
  obtain ⟨z0, z1, z2, z3, x0, x3, x5⟩ := HC.out _ _ HS4.out.m.stp
  go_wp2_with fail
  refine (arrive_any N tb ts tn td _ ⟨HS4.out.m, HI.out.l⟩ HPO.out hbig hwn).mono ?_
  rintro e w5 ⟨rfl, N5, st⟩
  have HS7 : Hid _ := st
  clear st z0 z1 z2 z3 x0 x3 x5
  go_wp2_with fail
  go_ret
  exact ⟨rfl, N5, StpA.of HT.out HI.out.m (HS4.out.trans HS7.out.m) HS7.out.inv.l HS7.out.hm HS7.out.wn⟩

set_option maxRecDepth 100000 in
set_option maxHeartbeats 2000000 in
theorem framesA_cross (N : NetA) (a n m nonce mask : Int) (s : ByteArray) (w : World) (h : InvA w N) (h0 : 0 < N.wn) (hwn : N.wn ≤ 2199023255552) (hn1 : -9223372036854775808 ≤ n) (hn2 : n ≤ 9223372036854775807) :
    Calls Tryd.prog 67 #[.pointer (some ⟨N.bn, 0, none⟩), opV 9 a n m nonce mask s] w fun e w' => e = .returned (.bool true) ∧ ∃ N', StpA w N w' N' := by
  obtain ⟨gy, hgy, hcapn⟩ := h.m.wayAt h0
  have hX := OpAt.mk' h.m 9 a n m nonce mask s
  have HT : Hid _ := hX.turn
  have HI : Hid _ := h
  have HS0 : Hid _ := (h.m.turn hX.turn).stp
  have OK : ∀ (v : World), StpM (w.alloc (.cells (opCells 9 a n m nonce mask s) 89)) N v N → v.cell? ⟨N.bn, 10, none⟩ = some (.slice (some ⟨gy, 0, none⟩) N.wn N.wcap) ∧ v.cell? ⟨w.heap.size, 2, none⟩ = some (.int .i64 n) ∧ v.cell? ⟨w.heap.size, 0, none⟩ = some (.int .i64 9) ∧ v.cell? ⟨w.heap.size, 5, none⟩ = some (.int .u32 mask) ∧ v.cell? ⟨w.heap.size, 3, none⟩ = some (.int .i64 m) := fun v st => by
    have q : v.cell? ⟨N.bn, 10, none⟩ = some (.slice N.wsl N.wn N.wcap) := by rw [cell_of_row _ _ _ _ _ _ st.m.hold.net]; rfl
    rw [hgy] at q
    exact ⟨q, (hX.cell st 2).trans rfl, (hX.cell st 0).trans rfl, (hX.cell st 5).trans rfl, (hX.cell st 3).trans rfl⟩
  have HOK : Hid _ := OK
  have HXC : Hid _ := fun (v : World) (M : NetA) (st : StpM (w.alloc (.cells (opCells 9 a n m nonce mask s) 89)) N v M) (j : Nat) => (hX.cell st j)
  have hb0 : ((N.wn : Int) == 0) = false := by simp; omega
  have c10 : w.cell? ⟨N.bn, 10, none⟩ = some (.slice (some ⟨gy, 0, none⟩) N.wn N.wcap) := by
    rw [cell_of_row _ _ _ _ _ _ h.m.hold.net]
    show some N.wv = _
    rw [NetA.wv, hgy]
  have nlt : N.bn < w.heap.size := lt_of_heap h.m.hold.net
  clear hX h OK
  unfold opV
  go_enter Tryd.func67, Tryd.ntmps67
  go_wp2_with fail
  rw [show w.alloc (.cells #[.int .i64 9, .int .i64 a, .int .i64 n, .int .i64 m, .int .u64 nonce, .int .u32 mask, .string s] 89) = w.alloc (.cells (opCells 9 a n m nonce mask s) 89) from rfl]
  clear c10
  generalize w.alloc (.cells (opCells 9 a n m nonce mask s) 89) = W at *
  generalize hXX : w.heap.size = X at *
  obtain ⟨y10, y2, y0, y5, y3⟩ := HOK.out _ HS0.out
  go_region_held3 (fun u => u.cell? ⟨N.bn, 10, none⟩ = some (.slice (some ⟨gy, 0, none⟩) N.wn N.wcap) ∧ u.cell? ⟨X, 2, none⟩ = some (.int .i64 n))
    (first | exact ⟨y10, y2⟩ | assumption)
    (first | (go_at_call 35; refine (pick_any n N.wn _ hn1 hn2 h0 (by omega)).mono ?_; rintro e w1 ⟨i, hi1, rfl, hw1⟩; subst hw1))
  rename_i hHH
  clear hHH y10 y2 y0 y5 y3
  have HS1 : Hid _ := HS0.out.then ((Turn.refl [] W).drew)
  generalize W.drew = V at *
  obtain ⟨y10, y2, y0, y5, y3⟩ := HOK.out _ HS1.out
  obtain ⟨tb, ts, tn, td, p0, p1, p2, p3, hpo⟩ := HI.out.l.posts i hi1
  have hyo : (Value.slice N.wsl N.wn N.wcap).ownBlock = some gy := by rw [hgy]; rfl
  have r0 := owns_cell HS1.out.m.way.owns hyo p0
  have r1 := owns_cell HS1.out.m.way.owns hyo p1
  have r2 := owns_cell HS1.out.m.way.owns hyo p2
  have r3 := owns_cell HS1.out.m.way.owns hyo p3
  have hi0 : (0 : Int) ≤ (i : Int) := by omega
  have hi2 : (i : Int) < (N.wn : Int) := by omega
  have HPO : Hid (PostOk N tb ts tn td) := hpo
  clear p0 p1 p2 p3 hpo
  go_upto_region 5 with fail
  have T4 : Turn [] V (V.alloc (.cells #[.bool tb, .string ts, .int .i64 tn, .int .i64 td] 156)) := (Turn.refl [] V).alloc _
  have HS4 : Hid _ := HS1.out.then T4
  have HP4 : Hid _ := heap_alloc_new V (.cells #[.bool tb, .string ts, .int .i64 tn, .int .i64 td] 156)
  have hPB : V.heap.size ∉ N.blocks := fun hm => by
    rcases List.mem_append.1 hm with q | q
    · have := HS1.out.m.lt _ q; omega
    · have := HS1.out.m.net.lt _ q; omega
  clear T4 r0 r1 r2 r3 y10 y2 y0 y5 y3
  generalize V.alloc (.cells #[.bool tb, .string ts, .int .i64 tn, .int .i64 td] 156) = V1 at *
  generalize V.heap.size = P at *
  have HC : Hid (∀ (v : World) (M : NetA), StpM V1 N v M → v.cell? ⟨P, 0, none⟩ = some (.bool tb) ∧ v.cell? ⟨P, 1, none⟩ = some (.string ts) ∧ v.cell? ⟨P, 2, none⟩ = some (.int .i64 tn) ∧ v.cell? ⟨P, 3, none⟩ = some (.int .i64 td) ∧ v.cell? ⟨X, 0, none⟩ = some (.int .i64 9) ∧ v.cell? ⟨X, 3, none⟩ = some (.int .i64 m) ∧ v.cell? ⟨X, 5, none⟩ = some (.int .u32 mask)) := fun v M st => by
    have zp := st.turn.cells HP4.out hPB
    have zx := HXC.out _ _ (HS4.out.trans st)
    exact ⟨by rw [cell_of_row _ _ _ _ _ _ zp]; rfl, by rw [cell_of_row _ _ _ _ _ _ zp]; rfl, by rw [cell_of_row _ _ _ _ _ _ zp]; rfl, by rw [cell_of_row _ _ _ _ _ _ zp]; rfl, (zx 0).trans rfl, (zx 3).trans rfl, (zx 5).trans rfl⟩
  obtain ⟨z0, z1, z2, z3, x0, x3, x5⟩ := HC.out _ _ HS4.out.m.stp
  have HN : Hid (Calls Tryd.prog 66 #[.pointer (some ⟨N.bn, 0, none⟩), .bool (!tb), .string ts] V1 fun e w' => e = .returned (.bool true) ∧ ∃ N', StpA V1 N w' N') := by
    obtain ⟨k, _, hup, hdn⟩ := HPO.out
    cases tb
    · obtain ⟨j, o, _, _, _, e⟩ := hdn rfl
      exact nothing_up N ts V1 ⟨HS4.out.m, HI.out.l⟩ (by rw [e]; exact cross_up HI.out.l.blk1)
    · obtain ⟨_, _, e⟩ := hup rfl
      have hv := HI.out.l.get.eblk
      refine nothing_down N ts V1 ⟨HS4.out.m, HI.out.l⟩ ?_ (by rw [e, ← hv]; exact cross_down HI.out.m.net.rok)
      have := congrArg List.length e
      rw [doneB_len, bytesOf_len] at this
      omega
  go_wp2_with fail
  refine HN.out.mono ?_
  rintro e w5 ⟨rfl, N5, st⟩
  have HS7 : Hid _ := st
  clear st z0 z1 z2 z3 x0 x3 x5
  go_wp2_with fail
  go_ret
  exact ⟨rfl, N5, StpA.of HT.out HI.out.m (HS4.out.trans HS7.out.m) HS7.out.inv.l HS7.out.hm HS7.out.wn⟩

set_option maxRecDepth 100000 in
set_option maxHeartbeats 2000000 in
theorem framesA_spoil (N : NetA) (a n m nonce mask : Int) (s : ByteArray) (w : World) (h : InvA w N) (h0 : 0 < N.wn) (hwn : N.wn ≤ 2199023255552) (hn1 : -9223372036854775808 ≤ n) (hn2 : n ≤ 9223372036854775807) (hq1 : -9223372036854775808 ≤ m) (hq2 : m ≤ 9223372036854775807) (hm0 : 0 ≤ mask) (hm1 : mask ≤ 4294967295) :
    Calls Tryd.prog 67 #[.pointer (some ⟨N.bn, 0, none⟩), opV 8 a n m nonce mask s] w fun e w' => e = .returned (.bool true) ∧ ∃ N', StpA w N w' N' := by
  obtain ⟨gy, hgy, hcapn⟩ := h.m.wayAt h0
  have hX := OpAt.mk' h.m 8 a n m nonce mask s
  have HT : Hid _ := hX.turn
  have HI : Hid _ := h
  have HS0 : Hid _ := (h.m.turn hX.turn).stp
  have OK : ∀ (v : World), StpM (w.alloc (.cells (opCells 8 a n m nonce mask s) 89)) N v N → v.cell? ⟨N.bn, 10, none⟩ = some (.slice (some ⟨gy, 0, none⟩) N.wn N.wcap) ∧ v.cell? ⟨w.heap.size, 2, none⟩ = some (.int .i64 n) ∧ v.cell? ⟨w.heap.size, 0, none⟩ = some (.int .i64 8) ∧ v.cell? ⟨w.heap.size, 5, none⟩ = some (.int .u32 mask) ∧ v.cell? ⟨w.heap.size, 3, none⟩ = some (.int .i64 m) := fun v st => by
    have q : v.cell? ⟨N.bn, 10, none⟩ = some (.slice N.wsl N.wn N.wcap) := by rw [cell_of_row _ _ _ _ _ _ st.m.hold.net]; rfl
    rw [hgy] at q
    exact ⟨q, (hX.cell st 2).trans rfl, (hX.cell st 0).trans rfl, (hX.cell st 5).trans rfl, (hX.cell st 3).trans rfl⟩
  have HOK : Hid _ := OK
  have HXC : Hid _ := fun (v : World) (M : NetA) (st : StpM (w.alloc (.cells (opCells 8 a n m nonce mask s) 89)) N v M) (j : Nat) => (hX.cell st j)
  have hb0 : ((N.wn : Int) == 0) = false := by simp; omega
  have c10 : w.cell? ⟨N.bn, 10, none⟩ = some (.slice (some ⟨gy, 0, none⟩) N.wn N.wcap) := by
    rw [cell_of_row _ _ _ _ _ _ h.m.hold.net]
    show some N.wv = _
    rw [NetA.wv, hgy]
  have nlt : N.bn < w.heap.size := lt_of_heap h.m.hold.net
  clear hX h OK
  unfold opV
  go_enter Tryd.func67, Tryd.ntmps67
  go_wp2_with fail
  rw [show w.alloc (.cells #[.int .i64 8, .int .i64 a, .int .i64 n, .int .i64 m, .int .u64 nonce, .int .u32 mask, .string s] 89) = w.alloc (.cells (opCells 8 a n m nonce mask s) 89) from rfl]
  clear c10
  generalize w.alloc (.cells (opCells 8 a n m nonce mask s) 89) = W at *
  generalize hXX : w.heap.size = X at *
  obtain ⟨y10, y2, y0, y5, y3⟩ := HOK.out _ HS0.out
  go_region_held3 (fun u => u.cell? ⟨N.bn, 10, none⟩ = some (.slice (some ⟨gy, 0, none⟩) N.wn N.wcap) ∧ u.cell? ⟨X, 2, none⟩ = some (.int .i64 n))
    (first | exact ⟨y10, y2⟩ | assumption)
    (first | (go_at_call 35; refine (pick_any n N.wn _ hn1 hn2 h0 (by omega)).mono ?_; rintro e w1 ⟨i, hi1, rfl, hw1⟩; subst hw1))
  rename_i hHH
  clear hHH y10 y2 y0 y5 y3
  have HS1 : Hid _ := HS0.out.then ((Turn.refl [] W).drew)
  generalize W.drew = V at *
  obtain ⟨y10, y2, y0, y5, y3⟩ := HOK.out _ HS1.out
  obtain ⟨tb, ts, tn, td, p0, p1, p2, p3, hpo⟩ := HI.out.l.posts i hi1
  have hyo : (Value.slice N.wsl N.wn N.wcap).ownBlock = some gy := by rw [hgy]; rfl
  have r0 := owns_cell HS1.out.m.way.owns hyo p0
  have r1 := owns_cell HS1.out.m.way.owns hyo p1
  have r2 := owns_cell HS1.out.m.way.owns hyo p2
  have r3 := owns_cell HS1.out.m.way.owns hyo p3
  have hi0 : (0 : Int) ≤ (i : Int) := by omega
  have hi2 : (i : Int) < (N.wn : Int) := by omega
  have HPO : Hid (PostOk N tb ts tn td) := hpo
  clear p0 p1 p2 p3 hpo
  go_upto_region 5 with fail
  have T4 : Turn [] V (V.alloc (.cells #[.bool tb, .string ts, .int .i64 tn, .int .i64 td] 156)) := (Turn.refl [] V).alloc _
  have HS4 : Hid _ := HS1.out.then T4
  have HP4 : Hid _ := heap_alloc_new V (.cells #[.bool tb, .string ts, .int .i64 tn, .int .i64 td] 156)
  have hPB : V.heap.size ∉ N.blocks := fun hm => by
    rcases List.mem_append.1 hm with q | q
    · have := HS1.out.m.lt _ q; omega
    · have := HS1.out.m.net.lt _ q; omega
  clear T4 r0 r1 r2 r3 y10 y2 y0 y5 y3
  generalize V.alloc (.cells #[.bool tb, .string ts, .int .i64 tn, .int .i64 td] 156) = V1 at *
  generalize V.heap.size = P at *
  have HC : Hid (∀ (v : World) (M : NetA), StpM V1 N v M → v.cell? ⟨P, 0, none⟩ = some (.bool tb) ∧ v.cell? ⟨P, 1, none⟩ = some (.string ts) ∧ v.cell? ⟨P, 2, none⟩ = some (.int .i64 tn) ∧ v.cell? ⟨P, 3, none⟩ = some (.int .i64 td) ∧ v.cell? ⟨X, 0, none⟩ = some (.int .i64 8) ∧ v.cell? ⟨X, 3, none⟩ = some (.int .i64 m) ∧ v.cell? ⟨X, 5, none⟩ = some (.int .u32 mask)) := fun v M st => by
    have zp := st.turn.cells HP4.out hPB
    have zx := HXC.out _ _ (HS4.out.trans st)
    exact ⟨by rw [cell_of_row _ _ _ _ _ _ zp]; rfl, by rw [cell_of_row _ _ _ _ _ _ zp]; rfl, by rw [cell_of_row _ _ _ _ _ _ zp]; rfl, by rw [cell_of_row _ _ _ _ _ _ zp]; rfl, (zx 0).trans rfl, (zx 3).trans rfl, (zx 5).trans rfl⟩
  obtain ⟨z0, z1, z2, z3, x0, x3, x5⟩ := HC.out _ _ HS4.out.m.stp
  have hsz : 0 < ts.size ∧ ts.size ≤ 100 := by
    obtain ⟨k, _, hup, hdn⟩ := HPO.out
    cases tb
    · obtain ⟨j, o, _, _, _, e⟩ := hdn rfl
      have := congrArg List.length e
      rw [fText, sumText_len, sumRow_len, bytesOf_len] at this
      have := HI.out.l.blk2
      omega
    · obtain ⟨_, _, e⟩ := hup rfl
      have := congrArg List.length e
      rw [doneB_len, bytesOf_len] at this
      omega
  have HSP : Hid (∀ v, Calls Tryd.prog 30 #[.string ts, .int .i64 m, .int .u32 mask] v fun e w' => ∃ (t' : List Nat) (from_ m i : Nat), e = .returned (.string (strOf t')) ∧ Spoil (bytesOf ts) t' from_ m i ∧ 0 < i ∧ i ≤ 32 ∧ from_ < 8 * ts.size ∧ Below v.heap.size v w') := fun v => by
    have := spoiled_any ts m mask.toNat v hq1 hq2 (by omega) hsz.1 hsz.2
    rw [Int.toNat_of_nonneg hm0] at this
    exact this
  have HN : Hid (∀ v t' fr q i, Turn [] V1 v → Spoil (bytesOf ts) t' fr q i → 0 < i → i ≤ 32 → fr < 8 * ts.size → Calls Tryd.prog 66 #[.pointer (some ⟨N.bn, 0, none⟩), .bool tb, .string (strOf t')] v fun e w' => e = .returned (.bool true) ∧ ∃ N', StpA v N w' N') := fun v t' fr q i T hsp h1 h2 h3 => by
    obtain ⟨k, _, hup, hdn⟩ := HPO.out
    have hI : InvA v N := ⟨HS4.out.m.turn T, HI.out.l⟩
    have hl2 : t'.length = ts.size := by rw [hsp.len, bytesOf_len]
    cases tb
    · obtain ⟨j, o, _, _, _, e⟩ := hdn rfl
      have hv := HI.out.l.get.eblk
      refine nothing_down N (strOf t') v hI (by rw [strOf_size]; omega) ?_
      rw [bytesOf_strOf _ hsp.lt]
      have hlt := bytesOf_lt ts
      have hln := bytesOf_len ts
      rw [e, ← hv] at hsp hlt hln
      exact spoil_down hsp h1 h2 (by omega) hlt
    · obtain ⟨_, _, e⟩ := hup rfl
      refine nothing_up N (strOf t') v hI ?_
      rw [bytesOf_strOf _ hsp.lt]
      have hln := bytesOf_len ts
      rw [e] at hsp hln
      rw [doneB_len] at hln
      exact spoil_up hsp h1 h2 (by omega)
  go_wp2_with fail
  go_region_held3 (fun v => v.cell? ⟨P, 0, none⟩ = some (.bool tb) ∧ v.cell? ⟨P, 1, none⟩ = some (.string ts) ∧ v.cell? ⟨X, 3, none⟩ = some (.int .i64 m) ∧ v.cell? ⟨X, 5, none⟩ = some (.int .u32 mask))
    (first | exact ⟨z0, z1, x3, x5⟩ | exact ⟨a0, a1, a3, a5⟩ | exact ⟨b0, b1, b3, b5⟩)
    (first
      | (go_at_call 30; refine (HSP.out _).mono ?_; rintro e1 w5 ⟨t', fr, q, i', rfl, hsp, hi0', hi32, hfr, hbe⟩; have hT5 : Turn [] V1 w5 := turn_drew_below hbe; obtain ⟨a0, a1, _, _, _, a3, a5⟩ := HC.out _ _ (StpM.of_turn HS4.out.m hT5))
      | (go_at_call 66; refine (HN.out _ t' fr q i' hT5 hsp hi0' hi32 hfr).mono ?_; rintro e1 w6 ⟨rfl, N6, st⟩; obtain ⟨b0, b1, _, _, _, b3, b5⟩ := HC.out _ _ ((StpM.of_turn HS4.out.m hT5).trans st.m)))
  have HS7 : Hid _ := st
  have HT5 : Hid _ := hT5
  clear st z0 z1 z2 z3 x0 x3 x5 a0 a1 a3 a5 b0 b1 b3 b5 hsp hbe hT5
  go_wp2_with fail
  go_ret
  exact ⟨rfl, N6, StpA.of HT.out HI.out.m ((HS4.out.then HT5.out).trans HS7.out.m) HS7.out.inv.l HS7.out.hm HS7.out.wn⟩

end Go.Proofs.YtafipndlfkklfaaDoor
