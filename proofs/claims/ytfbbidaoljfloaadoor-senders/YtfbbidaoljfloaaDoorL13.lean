import Derived.Test.YtfbbidaoljfloaaDoorL12
namespace Go.Proofs.YtfbbidaoljfloaaDoor
open Go.RowKit

section
variable {P : Program} (w : World)
/-- append onto an owned row, of whatever number of elements. -/
theorem run_append_gen (t ty : TypeId) (e : TypeId) (i : TypeInfo) (z : Value) (size bytes : Nat) (ht : P.underlying t = some (.slice e)) (hi : P.info? e = some i) (hz : i.zero = some z)
    (hsize : i.size = size) (hby : i.bytes = bytes) (hzs : z.cells.size = size) (hsz : 0 < size)
    (v : Value) (n : Nat) (xs : List Value) (hown : w.ownsRow 0 e size v n xs)
    (ad : Addr) (m c : Nat) (news : List Value) (hl : news.length = m * size) (hnews : ∀ j u, news[j]? = some u → w.cell? (ad.add j) = some u) (h1 : ∀ u ∈ news, u.oneCell' = true)
    (h63 : n + m ≤ maxLen) (hbytes : ((n + m) + (n + m) / 4 + 192) * bytes ≤ 281474976710656) :
    ∃ sl cap w', (Builtin.append_ #[t, t] ty #[v, .slice (some ad) m c]).run P w = .ok (.slice sl (n + m) cap) w' ∧
      w'.ownsRow 0 e size (.slice sl (n + m) cap) (n + m) (xs ++ news) ∧ w.grownBy w' v.ownBlock ∧ ((Value.slice sl (n + m) cap).ownBlock = v.ownBlock ∨ ∃ k, (Value.slice sl (n + m) cap).ownBlock = some k ∧ w.heap.size ≤ k) := by
  by_cases hm : 0 < m
  · obtain ⟨g, cap, w', h2, h3, h4, h5, _⟩ := run_append_far (P := P) w t ty e i z size bytes ht hi hz hsize hby hzs hsz v n xs hown ad m c news hl hnews h1 hm h63 hbytes
    refine ⟨_, _, w', h2, h3, h4, ?_⟩
    rcases h5 with q | q
    · exact .inl (by rw [q]; rfl)
    · exact .inr ⟨g, rfl, by omega⟩
  · obtain rfl : m = 0 := by omega
    rcases hown.2 with ⟨rfl, rfl⟩ | ⟨g, cap, cur, rfl, hbg, hg, hnc, hcm, hcs, htake⟩
    · obtain ⟨v', w', h2, h3, h4, h5⟩ := run_append_own_wide (P := P) w 0 t ty e i z size bytes ht hi hz hsize hby hzs hsz _ 0 xs hown ad 0 c news hl hnews h1 h63 hbytes (Nat.zero_le _)
      obtain rfl := h5.2 ⟨rfl, rfl⟩
      exact ⟨none, 0, w', h2, h3, h4, .inl rfl⟩
    · obtain ⟨w', h2, h3, h4⟩ := run_append_own_spare (P := P) w 0 t ty e i size ht hi hsize g n cap xs hown ad 0 c news hl hnews h1 (by omega)
      exact ⟨some ⟨g, 0, none⟩, cap, w', h2, h3, h4, .inl rfl⟩

theorem wpList_append_gen {ops : Array Oper} {rest : List Oper} {o : Oper} {a : Act} {Q : Exit → Act → World → Prop} (hgd : o.guard = none) (s x : Operand) (t : TypeId)
    (ho : o.op = .call { callee := .builtin .append, args := #[s, x], argTypes := #[t, t] })
    (e : TypeId) (i : TypeInfo) (z : Value) (size bytes : Nat) (ht : P.underlying t = some (.slice e)) (hi : P.info? e = some i) (hz : i.zero = some z)
    (hsize : i.size = size) (hby : i.bytes = bytes) (hzs : z.cells.size = size) (hsz : 0 < size)
    (v : Value) (n : Nat) (xs : List Value) (hs : a.eval s = v) (hown : w.ownsRow 0 e size v n xs)
    (ad : Addr) (m c : Nat) (news : List Value) (hx : a.eval x = .slice (some ad) m c) (hl : news.length = m * size) (hnews : ∀ j u, news[j]? = some u → w.cell? (ad.add j) = some u) (h1 : ∀ u ∈ news, u.oneCell' = true)
    (h63 : n + m ≤ maxLen) (hbytes : ((n + m) + (n + m) / 4 + 192) * bytes ≤ 281474976710656)
    (h : ∀ sl cap w', w'.ownsRow 0 e size (.slice sl (n + m) cap) (n + m) (xs ++ news) → w.grownBy w' v.ownBlock → ((Value.slice sl (n + m) cap).ownBlock = v.ownBlock ∨ ∃ k, (Value.slice sl (n + m) cap).ownBlock = some k ∧ w.heap.size ≤ k) → wpList P ops Q rest (a.put o.dst (.slice sl (n + m) cap)) w') : wpList P ops Q (o :: rest) a w := by
  refine wpList_plain hgd fun _ hK => ?_
  obtain ⟨sl, cap, w', hr, h2, h3, h4⟩ := run_append_gen (P := P) w t o.type e i z size bytes ht hi hz hsize hby hzs hsz v n xs hown ad m c news hl hnews h1 h63 hbytes
  unfold Oper.wp execOp
  simp only [ho, resolve, invoke, builtin, Sem.run_bind, Sem.run_pure, Result.andThen_ok, List.map_toArray, List.map_cons, List.map_nil, hs, hx, hr]
  exact hK _ _ (h sl cap w' h2 h3 h4)
end

def NetM.lost (N : NetM) (wsl : Option Addr) (wn wcap : Nat) (wx : List Value) : NetM := { N with wsl := wsl, wn := wn, wcap := wcap, wx := wx }

theorem Inv.lost {w w3 : World} {N : NetM} (h : Inv w N) {sl : Option Addr} {M cap : Nat} {wx : List Value} (T : Turn [] w w3) (hY : w3.ownsRow 0 156 4 (.slice sl M cap) M wx)
    (ay : (Value.slice sl M cap).ownBlock = none ∨ ∃ k, (Value.slice sl M cap).ownBlock = some k ∧ w.heap.size ≤ k) (hone : ∀ u ∈ wx, u.oneCell' = true)
    (hty : ∀ i, i < M → ∃ b s n d, wx[i * 4]? = some (.bool b) ∧ wx[i * 4 + 1]? = some (.string s) ∧ wx[i * 4 + 2]? = some (.int .i64 n) ∧ wx[i * 4 + 3]? = some (.int .i64 d)) (hM : M ≤ N.wn + 1) :
    Stp w N (w3.setCell ⟨N.bn, 10, none⟩ (.slice sl M cap)) (N.lost sl M cap wx) := by
  have A := h.aps
  have nlt : N.bn < w.heap.size := lt_of_heap h.hold.net
  have mb : ∀ k, some k ∈ N.own → k < w.heap.size := fun k hk => h.lt k ((N.mem_blocks k).2 hk)
  have T1 : Turn [N.bn] w (w3.setCell ⟨N.bn, 10, none⟩ (.slice sl M cap)) := (T.mono (by simp)).setCell (.inl (by simp)) _
  have off : ∀ x : Option Nat, x ≠ some N.bn → ∀ k, x = some k → k ∉ [N.bn] := fun x hx k hk hm => by simp at hm; subst hm; exact hx hk
  have far : ∀ x : Option Nat, (∀ k, x = some k → k < w.heap.size) → Ap x (Value.slice sl M cap).ownBlock := by
    intro x hx k hk
    rcases ay with r | ⟨j, r1, r2⟩
    · rw [r]; simp
    · rw [r1]; have := hx k hk; simp; omega
  have one : ∀ b, b < w.heap.size → (Value.slice sl M cap).ownBlock ≠ some b := by
    intro b hb
    rcases ay with r | ⟨j, r1, r2⟩
    · rw [r]; simp
    · rw [r1]; simp; omega
  have eo : (N.lost sl M cap wx).own = [some N.bn, some N.bs, N.pv.ownBlock, N.rv.ownBlock, (Value.slice sl M cap).ownBlock, N.hv.ownBlock] := rfl
  have B : ∀ k ∈ (N.lost sl M cap wx).blocks, k ∈ N.blocks ∨ w.heap.size ≤ k := by
    intro k hk
    rw [NetM.mem_blocks, eo] at hk
    rw [N.mem_blocks]
    simp only [NetM.own, List.mem_cons, List.not_mem_nil, or_false, Option.some.injEq] at hk ⊢
    rcases hk with r | r | r | r | r | r
    · exact .inl (.inl r)
    · exact .inl (.inr (.inl r))
    · exact .inl (.inr (.inr (.inl r)))
    · exact .inl (.inr (.inr (.inr (.inl r))))
    · rcases ay with t | ⟨j, t1, t2⟩
      · rw [t] at r; cases r
      · right; rw [t1] at r; simp at r; omega
    · exact .inl (.inr (.inr (.inr (.inr (.inr r)))))
  refine ⟨⟨⟨?_, ?_, A.nh, h.hold.len⟩, ⟨?_, hone, one _ nlt, hty⟩, h.snd.turn T1 (by simpa using A.ns.symm), h.pth.turn T1 (off _ A.np), h.rth.turn T1 (off _ A.nr), fun i hi => ?_, ?_, ?_, h.shape, h.blk1, h.blk2, h.bud1, h.bud2, h.four⟩, T1.mono (fun x hx => ?_), rfl, B, fun k hk => .inl hk, ?_, hM⟩
  · exact heap_setCell_same _ _ _ _ _ _ (T.cells h.hold.net (by simp))
  · exact T1.owns h.hold.owns (off _ A.nh)
  · refine ((Turn.refl [N.bn] w3).setCell (.inl (by simp)) _).owns hY (fun k hk hm => ?_)
    simp at hm
    subst hm
    exact one _ nlt hk
  · exact (h.lists i hi).turn T1 (fun k hk hm => by simp at hm; subst hm; exact h.ro _ (List.mem_filterMap.2 ⟨_, List.getElem_mem hi, hk⟩) ((N.mem_blocks _).2 (by simp [NetM.own])))
  · intro k hk hm
    rcases B k hm with r | r
    · exact h.ro k hk r
    · have := h.ro_lt k hk; omega
  · rw [eo, aps_iff]
    exact ⟨A.ns, A.np, A.nr, one _ nlt, A.nh, A.sp, A.sr, one _ (mb _ (by simp [NetM.own])), A.sh, A.pr, far _ (fun k hk => mb k (by simp [NetM.own, hk])), A.ph, far _ (fun k hk => mb k (by simp [NetM.own, hk])), A.rh, (far _ (fun k hk => mb k (by simp [NetM.own, hk]))).symm⟩
  · simp at hx
    subst hx
    rw [N.mem_blocks]
    simp [NetM.own]
  · show N.hm ≤ N.hm + 4
    omega

theorem typed_cut {wx : List Value} {wn i : Nat} (hl : wx.length = wn * 4) (hi : i < wn) (h : ∀ i, i < wn → ∃ b s n d, wx[i * 4]? = some (.bool b) ∧ wx[i * 4 + 1]? = some (.string s) ∧ wx[i * 4 + 2]? = some (.int .i64 n) ∧ wx[i * 4 + 3]? = some (.int .i64 d)) :
    ∀ j, j < i + (wn - (i + 1)) → ∃ b s n d, (wx.take (i * 4) ++ wx.drop ((i + 1) * 4))[j * 4]? = some (.bool b) ∧ (wx.take (i * 4) ++ wx.drop ((i + 1) * 4))[j * 4 + 1]? = some (.string s) ∧
      (wx.take (i * 4) ++ wx.drop ((i + 1) * 4))[j * 4 + 2]? = some (.int .i64 n) ∧ (wx.take (i * 4) ++ wx.drop ((i + 1) * 4))[j * 4 + 3]? = some (.int .i64 d) := by
  intro j hj
  have ht : (wx.take (i * 4)).length = i * 4 := by rw [List.length_take]; omega
  by_cases hlt : j < i
  · obtain ⟨b, s, n, d, h0, h1, h2, h3⟩ := h j (by omega)
    have g : ∀ r, r < 4 → (wx.take (i * 4) ++ wx.drop ((i + 1) * 4))[j * 4 + r]? = wx[j * 4 + r]? := fun r hr => by
      rw [List.getElem?_append_left (by omega), List.getElem?_take_of_lt (by omega)]
    exact ⟨b, s, n, d, (g 0 (by omega)).trans h0, (g 1 (by omega)).trans h1, (g 2 (by omega)).trans h2, (g 3 (by omega)).trans h3⟩
  · obtain ⟨b, s, n, d, h0, h1, h2, h3⟩ := h (j + 1) (by omega)
    have g : ∀ r, (wx.take (i * 4) ++ wx.drop ((i + 1) * 4))[j * 4 + r]? = wx[(j + 1) * 4 + r]? := fun r => by
      rw [List.getElem?_append_right (by omega), List.getElem?_drop]
      congr 1
      omega
    exact ⟨b, s, n, d, (g 0).trans h0, (g 1).trans h1, (g 2).trans h2, (g 3).trans h3⟩

set_option maxRecDepth 100000 in
set_option maxHeartbeats 2000000 in
theorem frames_none (N : NetM) (a n m nonce mask : Int) (s : ByteArray) (w : World) (h : Inv w N) (h0 : N.wn = 0) :
    Calls Tryd.prog 67 #[.pointer (some ⟨N.bn, 0, none⟩), opV 7 a n m nonce mask s] w fun e w' => e = .returned (.bool true) ∧ ∃ N', Stp w N w' N' := by
  have c10 : w.cell? ⟨N.bn, 10, none⟩ = some (.slice N.wsl 0 N.wcap) := by rw [h.netCell.2.2.2.2.1, NetM.wv, h0]
  have nlt : N.bn < w.heap.size := lt_of_heap h.hold.net
  unfold opV
  go_enter Tryd.func67, Tryd.ntmps67
  go_wp2
  go_ret
  exact ⟨rfl, N, Stp.same h ((Turn.refl _ _).alloc _)⟩

set_option maxRecDepth 100000 in
set_option maxHeartbeats 2000000 in
theorem frames_some (N : NetM) (a n m nonce mask : Int) (s : ByteArray) (w : World) (h : Inv w N) (h0 : 0 < N.wn) (hwn : N.wn ≤ 2199023255552) (hn1 : -9223372036854775808 ≤ n) (hn2 : n ≤ 9223372036854775807) :
    Calls Tryd.prog 67 #[.pointer (some ⟨N.bn, 0, none⟩), opV 7 a n m nonce mask s] w fun e w' => e = .returned (.bool true) ∧ ∃ N', Stp w N w' N' := by
  have A := h.aps
  obtain ⟨i0, hi, hz0, hz1, hz2⟩ := info_parts infoPost
  obtain ⟨gy, hgy, hcapn⟩ : ∃ gy, N.wsl = some ⟨gy, 0, none⟩ ∧ N.wn ≤ N.wcap ∧ N.wcap ≤ 9223372036854775807 := by
    rcases h.way.owns.2 with ⟨_, q⟩ | ⟨g, cap, cur, hv, _, _, q1, q2, _⟩
    · omega
    · unfold maxLen at q2
      injection hv with e1 e2 e3
      exact ⟨g, e1, by omega, by omega⟩
  have c10 : w.cell? ⟨N.bn, 10, none⟩ = some (.slice (some ⟨gy, 0, none⟩) N.wn N.wcap) := by rw [h.netCell.2.2.2.2.1, NetM.wv, hgy]
  have nlt : N.bn < w.heap.size := lt_of_heap h.hold.net
  have f10 : w.frozen? ⟨N.bn, 10, none⟩ = false := h.hold.froz 10
  have hb0 : ((N.wn : Int) == 0) = false := by simp; omega
  obtain ⟨W, hW⟩ : ∃ W, W = w.alloc (.cells (opCells 7 a n m nonce mask s) 89) := ⟨_, rfl⟩
  have t0 : Turn [] w W := by rw [hW]; exact (Turn.refl _ _).alloc _
  have hX : W.heap[w.heap.size]? = some (.cells (opCells 7 a n m nonce mask s) 89 (0, 0)) := by rw [hW]; exact heap_alloc_new _ _
  have hI0 : Inv W N := h.turn t0 (by simp) (by simp)
  have x2 : W.cell? ⟨w.heap.size, 2, none⟩ = some (.int .i64 n) := by rw [cell_of_row _ _ _ _ _ _ hX]; rfl
  have x0 : W.cell? ⟨w.heap.size, 0, none⟩ = some (.int .i64 7) := by rw [cell_of_row _ _ _ _ _ _ hX]; rfl
  have y10 : W.cell? ⟨N.bn, 10, none⟩ = some (.slice (some ⟨gy, 0, none⟩) N.wn N.wcap) := (t0.cell (p := ⟨N.bn, 10, none⟩) nlt (by simp)).trans c10
  have HW : Hid (W = w.alloc (.cells (opCells 7 a n m nonce mask s) 89)) := hW
  clear hW
  unfold opV
  go_enter Tryd.func67, Tryd.ntmps67
  go_wp2_with fail
  rw [show w.alloc (.cells #[.int .i64 7, .int .i64 a, .int .i64 n, .int .i64 m, .int .u64 nonce, .int .u32 mask, .string s] 89) = W from HW.out.symm]
  go_region_held3 (fun u => u.cell? ⟨N.bn, 10, none⟩ = some (.slice (some ⟨gy, 0, none⟩) N.wn N.wcap) ∧ u.cell? ⟨w.heap.size, 2, none⟩ = some (.int .i64 n))
    (first | exact ⟨y10, x2⟩ | assumption)
    (first | (go_at_call 35; refine (pick_any n N.wn _ hn1 hn2 h0 (by omega)).mono ?_; rintro e w1 ⟨i, hi1, rfl, hw1⟩; subst hw1))
  rename_i hHH
  clear hHH
  have vt : Turn [] w W.drew := t0.drew
  have IV : Inv W.drew N := h.turn vt (by simp) (by simp)
  have v10 : W.drew.cell? ⟨N.bn, 10, none⟩ = some (.slice (some ⟨gy, 0, none⟩) N.wn N.wcap) := y10
  have v0 : W.drew.cell? ⟨w.heap.size, 0, none⟩ = some (.int .i64 7) := x0
  have vf : W.drew.frozen? ⟨N.bn, 10, none⟩ = false := IV.hold.froz 10
  clear t0 hX hI0 x2 x0 y10 HW c10 f10
  generalize W.drew = V at *
  obtain ⟨tb, ts, tn, td, p0, p1, p2, p3⟩ := h.way.typed i hi1
  have hyo : (Value.slice N.wsl N.wn N.wcap).ownBlock = some gy := by rw [hgy]; rfl
  have r0 := owns_cell IV.way.owns hyo p0
  have r1 := owns_cell IV.way.owns hyo p1
  have r2 := owns_cell IV.way.owns hyo p2
  have r3 := owns_cell IV.way.owns hyo p3
  have hi0 : (0 : Int) ≤ (i : Int) := by omega
  have hi2 : (i : Int) < (N.wn : Int) := by omega
  have hi3 : (i : Int) ≤ (N.wcap : Int) := by omega
  have hi4 : (N.wn : Int) ≤ (N.wcap : Int) := by omega
  have hi5 : (i : Int) + 1 ≤ (N.wn : Int) := by omega
  have nV : N.bn < V.heap.size := World.block_lt_of_cell? _ _ v10
  have xV : w.heap.size < V.heap.size := World.block_lt_of_cell? _ _ v0
  have yV : gy < V.heap.size := World.block_lt_of_cell? _ _ r0
  have hlen := IV.way.owns.1
  have HP := hide (And.intro p0 (And.intro p1 (And.intro p2 p3)))
  clear p0 p1 p2 p3
  go_upto_region 8 with (at_builtin; refine wpList_append_gen _ rfl _ _ 149 rfl 156 i0 _ 4 40 Tryd.underlying149 hi hz0 hz1 hz2 rfl (by decide) (.slice none 0 0) 0 [] rfl (World.ownsRow_nil _ _ _ _) ⟨gy, 0, none⟩ i N.wcap (N.wx.take (i * 4)) rfl (by rw [List.length_take]; omega) (fun j u hu => (IV.way.owns.alloc _).cells hyo j u (by rw [List.getElem?_take] at hu; split at hu; exact hu; cases hu)) (fun u hu => h.way.one u (List.mem_of_mem_take hu)) (by unfold maxLen; omega) (by omega) ?_; intro sl1 cap1 w2 ho1 hg1 ha1)
  simp only [Nat.zero_add, List.nil_append] at ho1 ha1
  have ha1' : (Value.slice sl1 i cap1).ownBlock = none ∨ ∃ k, (Value.slice sl1 i cap1).ownBlock = some k ∧ V.heap.size + 1 ≤ k := by
    rcases ha1 with r | ⟨k, r1, r2⟩
    · exact .inl r
    · exact .inr ⟨k, r1, by simpa using r2⟩
  clear ha1
  have ha1 := ha1'
  clear ha1'
  have T2 : Turn [] V w2 := ((Turn.refl _ V).alloc _).grown hg1 (fun k hk => by simp [Value.ownBlock] at hk)
  have IV2 : Inv w2 N := IV.turn T2 (by simp) (by simp)
  have u10 : w2.cell? ⟨N.bn, 10, none⟩ = some (.slice (some ⟨gy, 0, none⟩) N.wn N.wcap) := (T2.cell (p := ⟨N.bn, 10, none⟩) nV (by simp)).trans v10
  have u0 : w2.cell? ⟨w.heap.size, 0, none⟩ = some (.int .i64 7) := (T2.cell (p := ⟨w.heap.size, 0, none⟩) xV (by simp)).trans v0
  have uf : w2.frozen? ⟨N.bn, 10, none⟩ = false := (T2.frozen (p := ⟨N.bn, 10, none⟩) nV (by simp)).trans vf
  have n2lt : N.bn < w2.heap.size := World.block_lt_of_cell? _ _ u10
  have x2lt : w.heap.size < w2.heap.size := World.block_lt_of_cell? _ _ u0
  have hsb : (Value.slice sl1 i cap1).ownBlock ≠ some N.bn := by
    rcases ha1 with r | ⟨k, r1, r2⟩
    · rw [r]; simp
    · rw [r1]; simp; omega
  have hsx : (Value.slice sl1 i cap1).ownBlock ≠ some w.heap.size := by
    rcases ha1 with r | ⟨k, r1, r2⟩
    · rw [r]; simp
    · rw [r1]; simp; omega
  have zvt := vt.size
  have zT2 := T2.size
  clear hg1 v10 v0 vf r0 r1 r2 r3
  by_cases hce : N.wcap = i + 1
  · have hce' : (N.wcap : Int) = (i : Int) + 1 := by omega
    have HCE := hide hce
    go_upto_region 9 with (at_builtin; (refine wpList_append_gen _ rfl _ _ 149 rfl 156 i0 _ 4 40 Tryd.underlying149 hi hz0 hz1 hz2 rfl (by decide) (.slice sl1 i cap1) i (N.wx.take (i * 4)) rfl ho1 ⟨gy, 0, none⟩ (N.wn - (i + 1)) _ (N.wx.drop ((i + 1) * 4)) rfl (by rw [List.length_drop]; omega) (fun j u hu => by rw [List.drop_of_length_le (by omega)] at hu; simp at hu) (fun u hu => h.way.one u (List.mem_of_mem_drop hu)) (by unfold maxLen; omega) (by omega) ?_); intro sl2 cap2 w3 ho2 hg2 ha2)
    have T3 : Turn [] w w3 := (vt.trans T2 (by simp)).grown hg2 (fun k hk => .inr (by rcases ha1 with r | ⟨j, r1, r2⟩; rw [r] at hk; cases hk; rw [r1] at hk; simp at hk; omega))
    have c3 : w3.cell? ⟨N.bn, 10, none⟩ = some (.slice (some ⟨gy, 0, none⟩) N.wn N.wcap) := by rw [hg2.cell_far ⟨N.bn, 10, none⟩ n2lt (Ne.symm hsb)]; exact u10
    have f3 : w3.frozen? ⟨N.bn, 10, none⟩ = false := by rw [hg2.frozen_far ⟨N.bn, 10, none⟩ n2lt (Ne.symm hsb)]; exact uf
    have k3 : w3.cell? ⟨w.heap.size, 0, none⟩ = some (.int .i64 7) := by rw [hg2.cell_far ⟨w.heap.size, 0, none⟩ x2lt (Ne.symm hsx)]; exact u0
    have SS := h.lost T3 ho2 (by rcases ha2 with r | ⟨j, r1, r2⟩; rw [r]; rcases ha1 with q | ⟨j, q1, q2⟩; exact .inl q; exact .inr ⟨j, q1, by omega⟩; exact .inr ⟨j, r1, by omega⟩) (fun u hu => by rcases List.mem_append.1 hu with r | r; exact h.way.one u (List.mem_of_mem_take r); exact h.way.one u (List.mem_of_mem_drop r)) (typed_cut hlen hi1 h.way.typed) (by omega)
    have HSS := hide SS
    have x3 : w.heap.size ≠ N.bn := by omega
    clear SS u10 u0 uf ho1 ho2 hg2 ha1 ha2
    go_wp2
    go_ret
    exact ⟨rfl, _, unhide HSS⟩
  · have hi6 : (i : Int) + 1 ≤ (N.wcap : Int) := by omega
    go_upto_region 9 with (at_builtin; refine wpList_append_gen _ rfl _ _ 149 rfl 156 i0 _ 4 40 Tryd.underlying149 hi hz0 hz1 hz2 rfl (by decide) (.slice sl1 i cap1) i (N.wx.take (i * 4)) rfl ho1 ⟨gy, (i + 1) * 4, none⟩ (N.wn - (i + 1)) (N.wcap - (i + 1)) (N.wx.drop ((i + 1) * 4)) rfl (by rw [List.length_drop]; omega) (fun j u hu => by rw [show (⟨gy, (i + 1) * 4, none⟩ : Addr).add j = ⟨gy, (i + 1) * 4 + j, none⟩ from by unfold Addr.add; split <;> simp_all]; exact owns_cell IV2.way.owns hyo (by rw [List.getElem?_drop] at hu; exact hu)) (fun u hu => h.way.one u (List.mem_of_mem_drop hu)) (by unfold maxLen; omega) (by omega) ?_; intro sl2 cap2 w3 ho2 hg2 ha2)
    have T3 : Turn [] w w3 := (vt.trans T2 (by simp)).grown hg2 (fun k hk => .inr (by rcases ha1 with r | ⟨j, r1, r2⟩; rw [r] at hk; cases hk; rw [r1] at hk; simp at hk; omega))
    have c3 : w3.cell? ⟨N.bn, 10, none⟩ = some (.slice (some ⟨gy, 0, none⟩) N.wn N.wcap) := by rw [hg2.cell_far ⟨N.bn, 10, none⟩ n2lt (Ne.symm hsb)]; exact u10
    have f3 : w3.frozen? ⟨N.bn, 10, none⟩ = false := by rw [hg2.frozen_far ⟨N.bn, 10, none⟩ n2lt (Ne.symm hsb)]; exact uf
    have k3 : w3.cell? ⟨w.heap.size, 0, none⟩ = some (.int .i64 7) := by rw [hg2.cell_far ⟨w.heap.size, 0, none⟩ x2lt (Ne.symm hsx)]; exact u0
    have SS := h.lost T3 ho2 (by rcases ha2 with r | ⟨j, r1, r2⟩; rw [r]; rcases ha1 with q | ⟨j, q1, q2⟩; exact .inl q; exact .inr ⟨j, q1, by omega⟩; exact .inr ⟨j, r1, by omega⟩) (fun u hu => by rcases List.mem_append.1 hu with r | r; exact h.way.one u (List.mem_of_mem_take r); exact h.way.one u (List.mem_of_mem_drop r)) (typed_cut hlen hi1 h.way.typed) (by omega)
    have HSS := hide SS
    have x3 : w.heap.size ≠ N.bn := by omega
    clear SS u10 u0 uf ho1 ho2 hg2 ha1 ha2
    go_wp2
    go_ret
    exact ⟨rfl, _, unhide HSS⟩

end Go.Proofs.YtfbbidaoljfloaaDoor
