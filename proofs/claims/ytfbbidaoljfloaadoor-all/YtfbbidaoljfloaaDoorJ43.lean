import Derived.Test.YtfbbidaoljfloaaDoorV19
import Derived.Test.YtfbbidaoljfloaaDoorJ42
namespace Go.Proofs.YtfbbidaoljfloaaDoor
open Go.RowKit Go.MuLone

section
variable {P : Program} (w : World)
/-- append onto an owned row, of whatever number of elements. -/
theorem run_append_gen (t ty : TypeId) (e : TypeId) (i : TypeInfo) (z : Value) (size bytes : Nat) (ht : P.underlying t = some (.slice e)) (hi : P.info? e = some i) (hz : i.zero = some z)
    (hsize : i.size = size) (hby : i.bytes = bytes) (hzs : z.cells.size = size) (hsz : 0 < size)
    (v : Value) (n : Nat) (xs : List Value) (hown : w.ownsRow 0 e size v n xs)
    (ad : Addr) (m c : Nat) (news : List Value) (hl : news.length = m * size) (hnews : ∀ j u, news[j]? = some u → w.cell? (ad.add j) = some u) (h1 : ∀ u ∈ news, u.oneCell' = true)
    (h63 : n + m ≤ maxLen) (hbytes : ((n + m) + (n + m) / 4 + 192) * bytes ≤ 281474976710656) :
    ∃ sl cap w', (Builtin.append_ #[t, t] ty #[v, .slice (some ad) m c]).run P w = .ok (.slice sl (n + m) cap) w' ∧
      w'.ownsRow 0 e size (.slice sl (n + m) cap) (n + m) (xs ++ news) ∧ w.grownBy w' v.ownBlock ∧ ((Value.slice sl (n + m) cap).ownBlock = v.ownBlock ∨ ∃ k, (Value.slice sl (n + m) cap).ownBlock = some k ∧ w.heap.size ≤ k) := by
  by_cases hm : 0 < m
  · obtain ⟨g, cap, w', h2, h3, h4, h5, _⟩ := run_append_far (P := P) w t ty e i z size bytes ht hi hz hsize hby hzs hsz v n xs hown ad m c news hl hnews h1 hm h63 hbytes
    refine ⟨_, _, w', h2, h3, h4, ?_⟩
    rcases h5 with q | q
    · exact .inl (by rw [q]; rfl)
    · exact .inr ⟨g, rfl, by omega⟩
  · obtain rfl : m = 0 := by omega
    rcases hown.2 with ⟨rfl, rfl⟩ | ⟨g, cap, cur, rfl, hbg, hg, hnc, hcm, hcs, htake⟩
    · obtain ⟨v', w', h2, h3, h4, h5⟩ := run_append_own_wide (P := P) w 0 t ty e i z size bytes ht hi hz hsize hby hzs hsz _ 0 xs hown ad 0 c news hl hnews h1 h63 hbytes (Nat.zero_le _)
      obtain rfl := h5.2 ⟨rfl, rfl⟩
      exact ⟨none, 0, w', h2, h3, h4, .inl rfl⟩
    · obtain ⟨w', h2, h3, h4⟩ := run_append_own_spare (P := P) w 0 t ty e i size ht hi hsize g n cap xs hown ad 0 c news hl hnews h1 (by omega)
      exact ⟨some ⟨g, 0, none⟩, cap, w', h2, h3, h4, .inl rfl⟩

theorem wpList_append_gen {ops : Array Oper} {rest : List Oper} {o : Oper} {a : Act} {Q : Exit → Act → World → Prop} (hgd : o.guard = none) (s x : Operand) (t : TypeId)
    (ho : o.op = .call { callee := .builtin .append, args := #[s, x], argTypes := #[t, t] })
    (e : TypeId) (i : TypeInfo) (z : Value) (size bytes : Nat) (ht : P.underlying t = some (.slice e)) (hi : P.info? e = some i) (hz : i.zero = some z)
    (hsize : i.size = size) (hby : i.bytes = bytes) (hzs : z.cells.size = size) (hsz : 0 < size)
    (v : Value) (n : Nat) (xs : List Value) (hs : a.eval s = v) (hown : w.ownsRow 0 e size v n xs)
    (ad : Addr) (m c : Nat) (news : List Value) (hx : a.eval x = .slice (some ad) m c) (hl : news.length = m * size) (hnews : ∀ j u, news[j]? = some u → w.cell? (ad.add j) = some u) (h1 : ∀ u ∈ news, u.oneCell' = true)
    (h63 : n + m ≤ maxLen) (hbytes : ((n + m) + (n + m) / 4 + 192) * bytes ≤ 281474976710656)
    (h : ∀ sl cap w', w'.ownsRow 0 e size (.slice sl (n + m) cap) (n + m) (xs ++ news) → w.grownBy w' v.ownBlock → ((Value.slice sl (n + m) cap).ownBlock = v.ownBlock ∨ ∃ k, (Value.slice sl (n + m) cap).ownBlock = some k ∧ w.heap.size ≤ k) → wpList P ops Q rest (a.put o.dst (.slice sl (n + m) cap)) w') : wpList P ops Q (o :: rest) a w := by
  refine wpList_plain hgd fun _ hK => ?_
  obtain ⟨sl, cap, w', hr, h2, h3, h4⟩ := run_append_gen (P := P) w t o.type e i z size bytes ht hi hz hsize hby hzs hsz v n xs hown ad m c news hl hnews h1 h63 hbytes
  unfold Oper.wp execOp
  simp only [ho, resolve, invoke, builtin, Sem.run_bind, Sem.run_pure, Result.andThen_ok, List.map_toArray, List.map_cons, List.map_nil, hs, hx, hr]
  exact hK _ _ (h sl cap w' h2 h3 h4)
end


/-- A frame on its way is lost: the list is made anew. -/
theorem InvM.lost {w w3 : World} {N : NetA} (h : InvM w N) {sl : Option Addr} {M cap : Nat} {wx : List Value} (T : Turn [] w w3) (hY : w3.ownsRow 0 156 4 (.slice sl M cap) M wx)
    (ay : (Value.slice sl M cap).ownBlock = none ∨ ∃ k, (Value.slice sl M cap).ownBlock = some k ∧ w.heap.size ≤ k) (hone : ∀ u ∈ wx, u.oneCell' = true)
    (hty : ∀ i, i < M → ∃ b s n d, wx[i * 4]? = some (.bool b) ∧ wx[i * 4 + 1]? = some (.string s) ∧ wx[i * 4 + 2]? = some (.int .i64 n) ∧ wx[i * 4 + 3]? = some (.int .i64 d)) :
    StpM w N (w3.setCell ⟨N.bn, 10, none⟩ (.slice sl M cap)) { N with wsl := sl, wn := M, wcap := cap, wx := wx } := by
  have nlt : N.bn < w.heap.size := lt_of_heap h.hold.net
  have T1 : Turn [N.bn] w (w3.setCell ⟨N.bn, 10, none⟩ (.slice sl M cap)) := (T.mono (by simp)).setCell (.inl (by simp)) _
  obtain ⟨_, m2, m3, m4, m5, m6, m7⟩ := h.mid T1
  have one : ∀ b, b < w.heap.size → (Value.slice sl M cap).ownBlock ≠ some b := by
    intro b hb
    rcases ay with r | ⟨j, r1, r2⟩
    · rw [r]; simp
    · rw [r1]; simp; omega
  have hlow : ∀ k ∈ ({ N with wsl := sl, wn := M, wcap := cap, wx := wx } : NetA).lows, k ∈ N.lows ∨ w.heap.size ≤ k := fun k hk => by
    simp only [NetA.lows, List.mem_cons, List.mem_append, Option.mem_toList] at hk
    rcases hk with q | ((((q | q) | q) | q) | q)
    · exact .inl (mem_lows (.inl q))
    · exact .inl (mem_lows (.inr (.inl q)))
    · have q : (Value.slice sl M cap).ownBlock = some k := q
      rcases ay with r | ⟨j, r1, r2⟩
      · rw [r] at q; cases q
      · rw [r1] at q; simp at q; subst q; exact .inr r2
    · exact .inl (mem_lows (.inr (.inr (.inr (.inl q)))))
    · exact .inl (mem_lows (.inr (.inr (.inr (.inr (.inl q))))))
    · exact .inl (mem_lows (.inr (.inr (.inr (.inr (.inr q))))))
  refine ⟨⟨⟨?_, m7, h.hold.apart, h.hold.len⟩, ⟨?_, hone, one _ nlt, hty⟩, m2, m3, m4, h.r0, m5, m6, fun k hk hm => ?_, h.ro, fun hm => ?_⟩, T1.mono (fun x hx => ?_), rfl, fun k hk => ?_, fun k hk => .inl hk⟩
  · exact heap_setCell_same _ _ _ _ _ _ (T.cells h.hold.net (by simp))
  · refine ((Turn.refl [N.bn] w3).setCell (.inl (by simp)) _).owns hY (fun k hk hm => ?_)
    simp at hm
    subst hm
    exact one _ nlt hk
  · rcases hlow k hk with q | q
    · exact h.low k q hm
    · have := h.net.lt k hm; omega
  · rcases hlow 0 hm with q | q
    · exact h.pos q
    · have := h.net.pos; omega
  · simp at hx
    exact List.mem_append_left _ (mem_lows (.inl hx))
  · rcases List.mem_append.1 hk with q | q
    · rcases hlow k q with q | q
      · exact .inl (List.mem_append_left _ q)
      · exact .inr q
    · exact .inl (List.mem_append_right _ q)

theorem posts_cut {wx : List Value} {wn i : Nat} {P : Bool → ByteArray → Int → Int → Prop} (hl : wx.length = wn * 4) (hi : i < wn) (h : ∀ i, i < wn → ∃ b s n d, wx[i * 4]? = some (.bool b) ∧ wx[i * 4 + 1]? = some (.string s) ∧ wx[i * 4 + 2]? = some (.int .i64 n) ∧ wx[i * 4 + 3]? = some (.int .i64 d) ∧ P b s n d) :
    ∀ j, j < i + (wn - (i + 1)) → ∃ b s n d, (wx.take (i * 4) ++ wx.drop ((i + 1) * 4))[j * 4]? = some (.bool b) ∧ (wx.take (i * 4) ++ wx.drop ((i + 1) * 4))[j * 4 + 1]? = some (.string s) ∧
      (wx.take (i * 4) ++ wx.drop ((i + 1) * 4))[j * 4 + 2]? = some (.int .i64 n) ∧ (wx.take (i * 4) ++ wx.drop ((i + 1) * 4))[j * 4 + 3]? = some (.int .i64 d) ∧ P b s n d := by
  intro j hj
  have ht : (wx.take (i * 4)).length = i * 4 := by rw [List.length_take]; omega
  by_cases hlt : j < i
  · obtain ⟨b, s, n, d, h0, h1, h2, h3, h4⟩ := h j (by omega)
    have g : ∀ r, r < 4 → (wx.take (i * 4) ++ wx.drop ((i + 1) * 4))[j * 4 + r]? = wx[j * 4 + r]? := fun r hr => by
      rw [List.getElem?_append_left (by omega), List.getElem?_take_of_lt (by omega)]
    exact ⟨b, s, n, d, (g 0 (by omega)).trans h0, (g 1 (by omega)).trans h1, (g 2 (by omega)).trans h2, (g 3 (by omega)).trans h3, h4⟩
  · obtain ⟨b, s, n, d, h0, h1, h2, h3, h4⟩ := h (j + 1) (by omega)
    have g : ∀ r, (wx.take (i * 4) ++ wx.drop ((i + 1) * 4))[j * 4 + r]? = wx[(j + 1) * 4 + r]? := fun r => by
      rw [List.getElem?_append_right (by omega), List.getElem?_drop]
      congr 1
      omega
    exact ⟨b, s, n, d, (g 0).trans h0, (g 1).trans h1, (g 2).trans h2, (g 3).trans h3, h4⟩
theorem InvL.lost {N : NetA} (h : InvL N) (sl : Option Addr) (M cap : Nat) (wx : List Value) (hp : ∀ i, i < M → ∃ b s n d, wx[i * 4]? = some (.bool b) ∧ wx[i * 4 + 1]? = some (.string s) ∧ wx[i * 4 + 2]? = some (.int .i64 n) ∧ wx[i * 4 + 3]? = some (.int .i64 d) ∧ PostOk N b s n d) :
    InvL { N with wsl := sl, wn := M, wcap := cap, wx := wx } := ⟨h.sblk, h.sbud, h.shape, h.get, h.odat, h.tk, h.ready, hp, h.blk1, h.blk2, h.bud1, h.bud2, h.four, h.nrs⟩
/-- One frame of those on their way is gone. -/
theorem InvA.cut {w w3 : World} {N : NetA} (h : InvA w N) {sl : Option Addr} {cap i : Nat} (hi : i < N.wn) (T : Turn [] w w3) (hY : w3.ownsRow 0 156 4 (.slice sl (i + (N.wn - (i + 1))) cap) (i + (N.wn - (i + 1))) (N.wx.take (i * 4) ++ N.wx.drop ((i + 1) * 4)))
    (ay : (Value.slice sl (i + (N.wn - (i + 1))) cap).ownBlock = none ∨ ∃ k, (Value.slice sl (i + (N.wn - (i + 1))) cap).ownBlock = some k ∧ w.heap.size ≤ k) :
    StpM w N (w3.setCell ⟨N.bn, 10, none⟩ (.slice sl (i + (N.wn - (i + 1))) cap)) { N with wsl := sl, wn := i + (N.wn - (i + 1)), wcap := cap, wx := N.wx.take (i * 4) ++ N.wx.drop ((i + 1) * 4) } ∧
      InvL { N with wsl := sl, wn := i + (N.wn - (i + 1)), wcap := cap, wx := N.wx.take (i * 4) ++ N.wx.drop ((i + 1) * 4) } := by
  have hp := posts_cut (P := PostOk N) h.m.way.owns.1 hi h.l.posts
  refine ⟨h.m.lost T hY ay (fun u hu => ?_) (fun j hj => ?_), h.l.lost _ _ _ _ hp⟩
  · rcases List.mem_append.1 hu with r | r
    · exact h.m.way.one u (List.mem_of_mem_take r)
    · exact h.m.way.one u (List.mem_of_mem_drop r)
  · obtain ⟨b, s, n, d, h0, h1, h2, h3, _⟩ := hp j hj
    exact ⟨b, s, n, d, h0, h1, h2, h3⟩

theorem doneB_valid (num blk : Nat) : (doneB num blk).take 4 ++ leBytes 4 (crc ((doneB num blk).take 4)) = doneB num blk := by
  have ht : (doneB num blk).take 4 = doneBody num blk := by
    unfold doneB
    rw [show 4 = (doneBody num blk).length by simp [doneBody, leBytes_len]]
    exact List.take_left
  rw [ht]
  rfl
theorem spoil_up {S : SV} {t' : List Nat} {num blk fr m i : Nat} (h : Spoil (doneB num blk) t' fr m i) (hi : 0 < i) (hi2 : i ≤ 32) (hf : fr ≤ 64) : S.handle t' = S := by
  unfold SV.handle
  cases S.l[S.en]? with
  | none => rfl
  | some o =>
    simp only
    rw [if_neg]
    rintro ⟨_, e⟩
    have hm : m < 4294967296 := Nat.lt_of_lt_of_le h.small (Nat.le_trans (Nat.pow_le_pow_right (by decide) hi2) (by decide))
    have hm0 : m ≠ 0 := by have := h.odd hi; omega
    have h2 := doneB_valid (S.en + 1) S.blk
    rw [← e] at h2
    exact run_seen (doneB_lt _ _) h.lt h.len (doneB_valid num blk) h2 h.val hm hm0 rfl (by rw [doneB_len]; omega)
theorem spoil_down {V : RV} {t' : List Nat} {num row fr m i : Nat} {D : ByteArray} (h : Spoil (fText num V.blk row D) t' fr m i) (hi : 0 < i) (hi2 : i ≤ 32) (hf : fr ≤ 8 * (fText num V.blk row D).length) (hlt : ∀ b ∈ fText num V.blk row D, b < 256) : V.handle t' = (V, none) := by
  unfold RV.handle
  rw [h.deaf hi hi2 hlt hf (fText_valid num V.blk row D)]
end Go.Proofs.YtfbbidaoljfloaaDoor


namespace Go.Proofs.YtfbbidaoljfloaaDoor
open Go.RowKit Go.MuLone

set_option maxRecDepth 100000 in
set_option maxHeartbeats 2000000 in
theorem framesA_none (N : NetA) (k a n m nonce mask : Int) (s : ByteArray) (w : World) (h : InvA w N) (h0 : N.wn = 0) :
    Calls Tryd.prog 67 #[.pointer (some ⟨N.bn, 0, none⟩), opV k a n m nonce mask s] w fun e w' => e = .returned (.bool true) ∧ ∃ N', StpA w N w' N' := by
  have c10 : w.cell? ⟨N.bn, 10, none⟩ = some (.slice N.wsl 0 N.wcap) := by
    rw [cell_of_row _ _ _ _ _ _ h.m.hold.net]
    show some N.wv = _
    rw [NetA.wv, h0]
  have nlt : N.bn < w.heap.size := lt_of_heap h.m.hold.net
  have HI : Hid _ := h
  clear h
  unfold opV
  go_enter Tryd.func67, Tryd.ntmps67
  go_wp2_with fail
  go_ret
  exact ⟨rfl, N, StpA.still HI.out ((Turn.refl _ _).alloc _)⟩

/-- Where a list lies that is not empty. -/
theorem InvM.wayAt {w : World} {N : NetA} (h : InvM w N) (h0 : 0 < N.wn) : ∃ gy, N.wsl = some ⟨gy, 0, none⟩ ∧ N.wn ≤ N.wcap ∧ N.wcap ≤ 9223372036854775807 := by
  rcases h.way.owns.2 with ⟨_, q⟩ | ⟨g, cap, cur, hv, _, _, q1, q2, _⟩
  · omega
  · unfold maxLen at q2
    injection hv with e1 e2 e3
    exact ⟨g, e1, by omega, by omega⟩

set_option maxRecDepth 100000 in
set_option maxHeartbeats 2000000 in
theorem framesA_lose (N : NetA) (a n m nonce mask : Int) (s : ByteArray) (w : World) (h : InvA w N) (h0 : 0 < N.wn) (hwn : N.wn ≤ 2199023255552) (hn1 : -9223372036854775808 ≤ n) (hn2 : n ≤ 9223372036854775807) :
    Calls Tryd.prog 67 #[.pointer (some ⟨N.bn, 0, none⟩), opV 7 a n m nonce mask s] w fun e w' => e = .returned (.bool true) ∧ ∃ N', StpA w N w' N' := by
  obtain ⟨i0, hi, hz0, hz1, hz2⟩ := info_parts infoPost
  obtain ⟨gy, hgy, hcapn⟩ := h.m.wayAt h0
  have hX := OpAt.mk' h.m 7 a n m nonce mask s
  have HT : Hid _ := hX.turn
  have HI : Hid _ := h
  have HS0 : Hid _ := (h.m.turn hX.turn).stp
  have OK : ∀ (v : World), StpM (w.alloc (.cells (opCells 7 a n m nonce mask s) 89)) N v N → v.cell? ⟨N.bn, 10, none⟩ = some (.slice (some ⟨gy, 0, none⟩) N.wn N.wcap) ∧ v.cell? ⟨w.heap.size, 2, none⟩ = some (.int .i64 n) ∧ v.cell? ⟨w.heap.size, 0, none⟩ = some (.int .i64 7) ∧ v.cell? ⟨w.heap.size, 5, none⟩ = some (.int .u32 mask) ∧ v.cell? ⟨w.heap.size, 3, none⟩ = some (.int .i64 m) := fun v st => by
    have q : v.cell? ⟨N.bn, 10, none⟩ = some (.slice N.wsl N.wn N.wcap) := by rw [cell_of_row _ _ _ _ _ _ st.m.hold.net]; rfl
    rw [hgy] at q
    exact ⟨q, (hX.cell st 2).trans rfl, (hX.cell st 0).trans rfl, (hX.cell st 5).trans rfl, (hX.cell st 3).trans rfl⟩
  have HOK : Hid _ := OK
  have HXC : Hid _ := fun (v : World) (M : NetA) (st : StpM (w.alloc (.cells (opCells 7 a n m nonce mask s) 89)) N v M) => (hX.cell st 0)
  have hb0 : ((N.wn : Int) == 0) = false := by simp; omega
  have c10 : w.cell? ⟨N.bn, 10, none⟩ = some (.slice (some ⟨gy, 0, none⟩) N.wn N.wcap) := by
    rw [cell_of_row _ _ _ _ _ _ h.m.hold.net]
    show some N.wv = _
    rw [NetA.wv, hgy]
  have nlt : N.bn < w.heap.size := lt_of_heap h.m.hold.net
  clear hX h OK
  unfold opV
  go_enter Tryd.func67, Tryd.ntmps67
  go_wp2_with fail
  rw [show w.alloc (.cells #[.int .i64 7, .int .i64 a, .int .i64 n, .int .i64 m, .int .u64 nonce, .int .u32 mask, .string s] 89) = w.alloc (.cells (opCells 7 a n m nonce mask s) 89) from rfl]
  clear c10
  generalize w.alloc (.cells (opCells 7 a n m nonce mask s) 89) = W at *
  generalize hXX : w.heap.size = X at *
  obtain ⟨y10, y2, y0, y5, y3⟩ := HOK.out _ HS0.out
  go_region_held3 (fun u => u.cell? ⟨N.bn, 10, none⟩ = some (.slice (some ⟨gy, 0, none⟩) N.wn N.wcap) ∧ u.cell? ⟨X, 2, none⟩ = some (.int .i64 n))
    (first | exact ⟨y10, y2⟩ | assumption)
    (first | (go_at_call 35; refine (pick_any n N.wn _ hn1 hn2 h0 (by omega)).mono ?_; rintro e w1 ⟨i, hi1, rfl, hw1⟩; subst hw1))
  rename_i hHH
  clear hHH y10 y2 y0 y5 y3
  have HS1 : Hid _ := HS0.out.then ((Turn.refl [] W).drew)
  generalize W.drew = V at *
  obtain ⟨y10, y2, y0, y5, y3⟩ := HOK.out _ HS1.out
  obtain ⟨tb, ts, tn, td, p0, p1, p2, p3, hpo⟩ := HI.out.l.posts i hi1
  have hyo : (Value.slice N.wsl N.wn N.wcap).ownBlock = some gy := by rw [hgy]; rfl
  have r0 := owns_cell HS1.out.m.way.owns hyo p0
  have r1 := owns_cell HS1.out.m.way.owns hyo p1
  have r2 := owns_cell HS1.out.m.way.owns hyo p2
  have r3 := owns_cell HS1.out.m.way.owns hyo p3
  have hi0 : (0 : Int) ≤ (i : Int) := by omega
  have hi2 : (i : Int) < (N.wn : Int) := by omega
  have HPO : Hid (PostOk N tb ts tn td) := hpo
  clear p0 p1 p2 p3 hpo
  go_upto_region 5 with fail
  have T4 : Turn [] V (V.alloc (.cells #[.bool tb, .string ts, .int .i64 tn, .int .i64 td] 156)) := (Turn.refl [] V).alloc _
  have HS4 : Hid _ := HS1.out.then T4
  have HP4 : Hid _ := heap_alloc_new V (.cells #[.bool tb, .string ts, .int .i64 tn, .int .i64 td] 156)
  have hPn : N.bn ≠ V.heap.size := by have := HS1.out.lt; have := lt_of_heap HS0.out.m.hold.net; omega
  clear T4 r0 r1 r2 r3 y10 y2 y0 y5 y3
  generalize V.alloc (.cells #[.bool tb, .string ts, .int .i64 tn, .int .i64 td] 156) = V1 at *
  generalize V.heap.size = P at *
  obtain ⟨y10, y2, y0, y5, y3⟩ := HOK.out _ HS4.out
  have f10 := HS4.out.m.hold.froz 10
  have hi3 : (i : Int) ≤ (N.wcap : Int) := by omega
  have hi4 : (N.wn : Int) ≤ (N.wcap : Int) := by omega
  have hi5 : (i : Int) + 1 ≤ (N.wn : Int) := by omega
  have hlen := HS4.out.m.way.owns.1
  have nV : N.bn < V1.heap.size := World.block_lt_of_cell? _ _ y10
  have xV : X < V1.heap.size := World.block_lt_of_cell? _ _ y0
  have yV : gy < V1.heap.size := owns_lt HS4.out.m.way.owns hyo
  have hXn : X ≠ N.bn := by omega
  go_upto_region 8 with (at_builtin; refine wpList_append_gen _ rfl _ _ 149 rfl 156 i0 _ 4 40 Tryd.underlying149 hi hz0 hz1 hz2 rfl (by decide) (.slice none 0 0) 0 [] rfl (World.ownsRow_nil _ _ _ _) ⟨gy, 0, none⟩ i N.wcap (N.wx.take (i * 4)) rfl (by rw [List.length_take]; omega) (fun j u hu => HS4.out.m.way.owns.cells hyo j u (by rw [List.getElem?_take] at hu; split at hu; exact hu; cases hu)) (fun u hu => HI.out.m.way.one u (List.mem_of_mem_take hu)) (by unfold maxLen; omega) (by omega) ?_; intro sl1 cap1 w2 ho1 hg1 ha1)
  simp only [Nat.zero_add, List.nil_append] at ho1 ha1
  have ha1' : (Value.slice sl1 i cap1).ownBlock = none ∨ ∃ k, (Value.slice sl1 i cap1).ownBlock = some k ∧ V1.heap.size ≤ k := by
    rcases ha1 with r | ⟨k, r1, r2⟩
    · exact .inl r
    · exact .inr ⟨k, r1, r2⟩
  clear ha1
  have T2 : Turn [] V1 w2 := (Turn.refl _ V1).grown hg1 (fun k hk => by simp [Value.ownBlock] at hk)
  have HS5 : Hid _ := HS4.out.then T2
  have zT2 := T2.size
  clear hg1 y10 y2 y0 y5 y3 f10
  obtain ⟨u10, u2, u0, u5, u3⟩ := HOK.out _ HS5.out
  have uf := HS5.out.m.hold.froz 10
  have n2lt : N.bn < w2.heap.size := by omega
  have x2lt : X < w2.heap.size := by omega
  have hsb : ∀ b, b < V1.heap.size → (Value.slice sl1 i cap1).ownBlock ≠ some b := fun b hb => by
    rcases ha1' with r | ⟨k, r1, r2⟩
    · rw [r]; simp
    · rw [r1]; simp; omega
  have HFIN : Hid (∀ sl2 cap2 w3, w3.ownsRow 0 156 4 (.slice sl2 (i + (N.wn - (i + 1))) cap2) (i + (N.wn - (i + 1))) (N.wx.take (i * 4) ++ N.wx.drop ((i + 1) * 4)) → w2.grownBy w3 (Value.slice sl1 i cap1).ownBlock → ((Value.slice sl2 (i + (N.wn - (i + 1))) cap2).ownBlock = (Value.slice sl1 i cap1).ownBlock ∨ ∃ k, (Value.slice sl2 (i + (N.wn - (i + 1))) cap2).ownBlock = some k ∧ w2.heap.size ≤ k) →
      (w3.cell? ⟨N.bn, 10, none⟩ = some (.slice (some ⟨gy, 0, none⟩) N.wn N.wcap) ∧ w3.frozen? ⟨N.bn, 10, none⟩ = false ∧ w3.cell? ⟨X, 0, none⟩ = some (.int .i64 7)) ∧
      StpM W N (w3.setCell ⟨N.bn, 10, none⟩ (.slice sl2 (i + (N.wn - (i + 1))) cap2)) { N with wsl := sl2, wn := i + (N.wn - (i + 1)), wcap := cap2, wx := N.wx.take (i * 4) ++ N.wx.drop ((i + 1) * 4) } ∧ InvL { N with wsl := sl2, wn := i + (N.wn - (i + 1)), wcap := cap2, wx := N.wx.take (i * 4) ++ N.wx.drop ((i + 1) * 4) } ∧
      (w3.setCell ⟨N.bn, 10, none⟩ (.slice sl2 (i + (N.wn - (i + 1))) cap2)).heap[P]? = some (.cells #[.bool tb, .string ts, .int .i64 tn, .int .i64 td] 156 (0, 0))) := fun sl2 cap2 w3 ho2 hg2 ha2 => by
    have T3 : Turn [] V1 w3 := T2.grown hg2 (fun k hk => .inr (by
      rcases ha1' with r | ⟨j, r1, r2⟩
      · rw [r] at hk; cases hk
      · rw [r1] at hk; simp at hk; omega))
    obtain ⟨k1, k2⟩ := InvA.cut ⟨HS4.out.m, HI.out.l⟩ hi1 T3 ho2 (by
      rcases ha2 with r | ⟨j, r1, r2⟩
      · rw [r]; exact ha1'
      · exact .inr ⟨j, r1, by omega⟩)
    refine ⟨⟨(T3.cell (p := ⟨N.bn, 10, none⟩) nV (by simp)).trans (HOK.out _ HS4.out).1, (T3.frozen (p := ⟨N.bn, 10, none⟩) nV (by simp)).trans (HS4.out.m.hold.froz 10), (T3.cell (p := ⟨X, 0, none⟩) xV (by simp)).trans (HOK.out _ HS4.out).2.2.1⟩, HS4.out.trans k1, k2, ?_⟩
    have T4 : Turn [N.bn] V1 (w3.setCell ⟨N.bn, 10, none⟩ (.slice sl2 (i + (N.wn - (i + 1))) cap2)) := (T3.mono (by simp)).setCell (.inl (by simp)) _
    exact T4.cells HP4.out (by simp; exact fun e => hPn e.symm)
  clear T2 u2 u5 u3
  by_cases hce : N.wcap = i + 1
  · have hce' : (N.wcap : Int) = (i : Int) + 1 := by omega
    have HCE : Hid _ := hce
    go_upto_region 9 with (at_builtin; (refine wpList_append_gen _ rfl _ _ 149 rfl 156 i0 _ 4 40 Tryd.underlying149 hi hz0 hz1 hz2 rfl (by decide) (.slice sl1 i cap1) i (N.wx.take (i * 4)) rfl ho1 ⟨gy, 0, none⟩ (N.wn - (i + 1)) _ (N.wx.drop ((i + 1) * 4)) rfl (by rw [List.length_drop]; omega) (fun j u hu => by rw [List.drop_of_length_le (by omega)] at hu; simp at hu) (fun u hu => HI.out.m.way.one u (List.mem_of_mem_drop hu)) (by unfold maxLen; omega) (by omega) ?_); intro sl2 cap2 w3 ho2 hg2 ha2)
    obtain ⟨⟨c3, f3, k3⟩, hs4, hl4, hp4⟩ := HFIN.out sl2 cap2 w3 ho2 hg2 ha2
    have HS6 : Hid _ := hs4
    have HL6 : Hid _ := hl4
    have HP6 : Hid _ := hp4
    clear hs4 hl4 hp4 u10 u0 uf ho1 ho2 hg2 ha1' ha2 HFIN
    go_wp2_with fail
    go_ret
    exact ⟨rfl, _, StpA.of HT.out HI.out.m HS6.out HL6.out (by show N.hm ≤ _; omega) (by show i + (N.wn - (i + 1)) ≤ _; omega)⟩
  · have hi6 : (i : Int) + 1 ≤ (N.wcap : Int) := by omega
    go_upto_region 9 with (at_builtin; refine wpList_append_gen _ rfl _ _ 149 rfl 156 i0 _ 4 40 Tryd.underlying149 hi hz0 hz1 hz2 rfl (by decide) (.slice sl1 i cap1) i (N.wx.take (i * 4)) rfl ho1 ⟨gy, (i + 1) * 4, none⟩ (N.wn - (i + 1)) (N.wcap - (i + 1)) (N.wx.drop ((i + 1) * 4)) rfl (by rw [List.length_drop]; omega) (fun j u hu => by rw [show (⟨gy, (i + 1) * 4, none⟩ : Addr).add j = ⟨gy, (i + 1) * 4 + j, none⟩ from by unfold Addr.add; split <;> simp_all]; exact owns_cell HS5.out.m.way.owns hyo (by rw [List.getElem?_drop] at hu; exact hu)) (fun u hu => HI.out.m.way.one u (List.mem_of_mem_drop hu)) (by unfold maxLen; omega) (by omega) ?_; intro sl2 cap2 w3 ho2 hg2 ha2)
    obtain ⟨⟨c3, f3, k3⟩, hs4, hl4, hp4⟩ := HFIN.out sl2 cap2 w3 ho2 hg2 ha2
    have HS6 : Hid _ := hs4
    have HL6 : Hid _ := hl4
    have HP6 : Hid _ := hp4
    clear hs4 hl4 hp4 u10 u0 uf ho1 ho2 hg2 ha1' ha2 HFIN
    go_wp2_with fail
    go_ret
    exact ⟨rfl, _, StpA.of HT.out HI.out.m HS6.out HL6.out (by show N.hm ≤ _; omega) (by show i + (N.wn - (i + 1)) ≤ _; omega)⟩
end Go.Proofs.YtfbbidaoljfloaaDoor


namespace Go.Proofs.YtfbbidaoljfloaaDoor
open Go.RowKit Go.MuLone

theorem arrive_any (N : NetA) (b : Bool) (s : ByteArray) (n d : Int) (w : World) (h : InvA w N) (hp : PostOk N b s n d) (hbig : N.hm + 4 ≤ 8796093022208) (hwn : N.wn ≤ 2199023255552) :
    Calls Tryd.prog 92 #[.pointer (some ⟨N.bn, 0, none⟩), .agg #[.bool b, .string s, .int .i64 n, .int .i64 d]] w fun e w' => e = .returned (.bool true) ∧ ∃ N', StpA w N w' N' := by
  cases b
  · exact arrive_down N s n d w h hp hbig hwn
  · exact arrive_up N s n d w h hp

set_option maxRecDepth 100000 in
set_option maxHeartbeats 2000000 in
theorem framesA_cut (N : NetA) (a n m nonce mask : Int) (s : ByteArray) (w : World) (h : InvA w N) (h0 : 0 < N.wn) (hwn : N.wn ≤ 2199023255552) (hn1 : -9223372036854775808 ≤ n) (hn2 : n ≤ 9223372036854775807) (hbig : N.hm + 4 ≤ 8796093022208) (hm0 : 0 ≤ mask) (hm1 : mask ≤ 4294967295) (hev : mask % 2 = 0) :
    Calls Tryd.prog 67 #[.pointer (some ⟨N.bn, 0, none⟩), opV 6 a n m nonce mask s] w fun e w' => e = .returned (.bool true) ∧ ∃ N', StpA w N w' N' := by
  have hrem : (mask.tmod 2 == 0) = true := by rw [beq_iff_eq, Int.tmod_eq_emod_of_nonneg hm0]; exact hev
  obtain ⟨i0, hi, hz0, hz1, hz2⟩ := info_parts infoPost
  obtain ⟨gy, hgy, hcapn⟩ := h.m.wayAt h0
  have hX := OpAt.mk' h.m 6 a n m nonce mask s
  have HT : Hid _ := hX.turn
  have HI : Hid _ := h
  have HS0 : Hid _ := (h.m.turn hX.turn).stp
  have OK : ∀ (v : World), StpM (w.alloc (.cells (opCells 6 a n m nonce mask s) 89)) N v N → v.cell? ⟨N.bn, 10, none⟩ = some (.slice (some ⟨gy, 0, none⟩) N.wn N.wcap) ∧ v.cell? ⟨w.heap.size, 2, none⟩ = some (.int .i64 n) ∧ v.cell? ⟨w.heap.size, 0, none⟩ = some (.int .i64 6) ∧ v.cell? ⟨w.heap.size, 5, none⟩ = some (.int .u32 mask) ∧ v.cell? ⟨w.heap.size, 3, none⟩ = some (.int .i64 m) := fun v st => by
    have q : v.cell? ⟨N.bn, 10, none⟩ = some (.slice N.wsl N.wn N.wcap) := by rw [cell_of_row _ _ _ _ _ _ st.m.hold.net]; rfl
    rw [hgy] at q
    exact ⟨q, (hX.cell st 2).trans rfl, (hX.cell st 0).trans rfl, (hX.cell st 5).trans rfl, (hX.cell st 3).trans rfl⟩
  have HOK : Hid _ := OK
  have HXC : Hid _ := fun (v : World) (M : NetA) (st : StpM (w.alloc (.cells (opCells 6 a n m nonce mask s) 89)) N v M) => (hX.cell st 0)
  have hb0 : ((N.wn : Int) == 0) = false := by simp; omega
  have c10 : w.cell? ⟨N.bn, 10, none⟩ = some (.slice (some ⟨gy, 0, none⟩) N.wn N.wcap) := by
    rw [cell_of_row _ _ _ _ _ _ h.m.hold.net]
    show some N.wv = _
    rw [NetA.wv, hgy]
  have nlt : N.bn < w.heap.size := lt_of_heap h.m.hold.net
  clear hX h OK
  unfold opV
  go_enter Tryd.func67, Tryd.ntmps67
  go_wp2_with fail
  rw [show w.alloc (.cells #[.int .i64 6, .int .i64 a, .int .i64 n, .int .i64 m, .int .u64 nonce, .int .u32 mask, .string s] 89) = w.alloc (.cells (opCells 6 a n m nonce mask s) 89) from rfl]
  clear c10
  generalize w.alloc (.cells (opCells 6 a n m nonce mask s) 89) = W at *
  generalize hXX : w.heap.size = X at *
  obtain ⟨y10, y2, y0, y5, y3⟩ := HOK.out _ HS0.out
  go_region_held3 (fun u => u.cell? ⟨N.bn, 10, none⟩ = some (.slice (some ⟨gy, 0, none⟩) N.wn N.wcap) ∧ u.cell? ⟨X, 2, none⟩ = some (.int .i64 n))
    (first | exact ⟨y10, y2⟩ | assumption)
    (first | (go_at_call 35; refine (pick_any n N.wn _ hn1 hn2 h0 (by omega)).mono ?_; rintro e w1 ⟨i, hi1, rfl, hw1⟩; subst hw1))
  rename_i hHH
  clear hHH y10 y2 y0 y5 y3
  have HS1 : Hid _ := HS0.out.then ((Turn.refl [] W).drew)
  generalize W.drew = V at *
  obtain ⟨y10, y2, y0, y5, y3⟩ := HOK.out _ HS1.out
  obtain ⟨tb, ts, tn, td, p0, p1, p2, p3, hpo⟩ := HI.out.l.posts i hi1
  have hyo : (Value.slice N.wsl N.wn N.wcap).ownBlock = some gy := by rw [hgy]; rfl
  have r0 := owns_cell HS1.out.m.way.owns hyo p0
  have r1 := owns_cell HS1.out.m.way.owns hyo p1
  have r2 := owns_cell HS1.out.m.way.owns hyo p2
  have r3 := owns_cell HS1.out.m.way.owns hyo p3
  have hi0 : (0 : Int) ≤ (i : Int) := by omega
  have hi2 : (i : Int) < (N.wn : Int) := by omega
  have HPO : Hid (PostOk N tb ts tn td) := hpo
  clear p0 p1 p2 p3 hpo
  go_upto_region 5 with fail
  have T4 : Turn [] V (V.alloc (.cells #[.bool tb, .string ts, .int .i64 tn, .int .i64 td] 156)) := (Turn.refl [] V).alloc _
  have HS4 : Hid _ := HS1.out.then T4
  have HP4 : Hid _ := heap_alloc_new V (.cells #[.bool tb, .string ts, .int .i64 tn, .int .i64 td] 156)
  have hPn : N.bn ≠ V.heap.size := by have := HS1.out.lt; have := lt_of_heap HS0.out.m.hold.net; omega
  clear T4 r0 r1 r2 r3 y10 y2 y0 y5 y3
  generalize V.alloc (.cells #[.bool tb, .string ts, .int .i64 tn, .int .i64 td] 156) = V1 at *
  generalize V.heap.size = P at *
  obtain ⟨y10, y2, y0, y5, y3⟩ := HOK.out _ HS4.out
  have f10 := HS4.out.m.hold.froz 10
  have hi3 : (i : Int) ≤ (N.wcap : Int) := by omega
  have hi4 : (N.wn : Int) ≤ (N.wcap : Int) := by omega
  have hi5 : (i : Int) + 1 ≤ (N.wn : Int) := by omega
  have hlen := HS4.out.m.way.owns.1
  have nV : N.bn < V1.heap.size := World.block_lt_of_cell? _ _ y10
  have xV : X < V1.heap.size := World.block_lt_of_cell? _ _ y0
  have yV : gy < V1.heap.size := owns_lt HS4.out.m.way.owns hyo
  have hXn : X ≠ N.bn := by omega
  go_upto_region 8 with (at_builtin; refine wpList_append_gen _ rfl _ _ 149 rfl 156 i0 _ 4 40 Tryd.underlying149 hi hz0 hz1 hz2 rfl (by decide) (.slice none 0 0) 0 [] rfl (World.ownsRow_nil _ _ _ _) ⟨gy, 0, none⟩ i N.wcap (N.wx.take (i * 4)) rfl (by rw [List.length_take]; omega) (fun j u hu => HS4.out.m.way.owns.cells hyo j u (by rw [List.getElem?_take] at hu; split at hu; exact hu; cases hu)) (fun u hu => HI.out.m.way.one u (List.mem_of_mem_take hu)) (by unfold maxLen; omega) (by omega) ?_; intro sl1 cap1 w2 ho1 hg1 ha1)
  simp only [Nat.zero_add, List.nil_append] at ho1 ha1
  have ha1' : (Value.slice sl1 i cap1).ownBlock = none ∨ ∃ k, (Value.slice sl1 i cap1).ownBlock = some k ∧ V1.heap.size ≤ k := by
    rcases ha1 with r | ⟨k, r1, r2⟩
    · exact .inl r
    · exact .inr ⟨k, r1, r2⟩
  clear ha1
  have T2 : Turn [] V1 w2 := (Turn.refl _ V1).grown hg1 (fun k hk => by simp [Value.ownBlock] at hk)
  have HS5 : Hid _ := HS4.out.then T2
  have zT2 := T2.size
  clear hg1 y10 y2 y0 y5 y3 f10
  obtain ⟨u10, u2, u0, u5, u3⟩ := HOK.out _ HS5.out
  have uf := HS5.out.m.hold.froz 10
  have n2lt : N.bn < w2.heap.size := by omega
  have x2lt : X < w2.heap.size := by omega
  have hsb : ∀ b, b < V1.heap.size → (Value.slice sl1 i cap1).ownBlock ≠ some b := fun b hb => by
    rcases ha1' with r | ⟨k, r1, r2⟩
    · rw [r]; simp
    · rw [r1]; simp; omega
  have HFIN : Hid (∀ sl2 cap2 w3, w3.ownsRow 0 156 4 (.slice sl2 (i + (N.wn - (i + 1))) cap2) (i + (N.wn - (i + 1))) (N.wx.take (i * 4) ++ N.wx.drop ((i + 1) * 4)) → w2.grownBy w3 (Value.slice sl1 i cap1).ownBlock → ((Value.slice sl2 (i + (N.wn - (i + 1))) cap2).ownBlock = (Value.slice sl1 i cap1).ownBlock ∨ ∃ k, (Value.slice sl2 (i + (N.wn - (i + 1))) cap2).ownBlock = some k ∧ w2.heap.size ≤ k) →
      (w3.cell? ⟨N.bn, 10, none⟩ = some (.slice (some ⟨gy, 0, none⟩) N.wn N.wcap) ∧ w3.frozen? ⟨N.bn, 10, none⟩ = false ∧ w3.cell? ⟨X, 0, none⟩ = some (.int .i64 6)) ∧
      StpM W N (w3.setCell ⟨N.bn, 10, none⟩ (.slice sl2 (i + (N.wn - (i + 1))) cap2)) { N with wsl := sl2, wn := i + (N.wn - (i + 1)), wcap := cap2, wx := N.wx.take (i * 4) ++ N.wx.drop ((i + 1) * 4) } ∧ InvL { N with wsl := sl2, wn := i + (N.wn - (i + 1)), wcap := cap2, wx := N.wx.take (i * 4) ++ N.wx.drop ((i + 1) * 4) } ∧
      (w3.setCell ⟨N.bn, 10, none⟩ (.slice sl2 (i + (N.wn - (i + 1))) cap2)).heap[P]? = some (.cells #[.bool tb, .string ts, .int .i64 tn, .int .i64 td] 156 (0, 0))) := fun sl2 cap2 w3 ho2 hg2 ha2 => by
    have T3 : Turn [] V1 w3 := T2.grown hg2 (fun k hk => .inr (by
      rcases ha1' with r | ⟨j, r1, r2⟩
      · rw [r] at hk; cases hk
      · rw [r1] at hk; simp at hk; omega))
    obtain ⟨k1, k2⟩ := InvA.cut ⟨HS4.out.m, HI.out.l⟩ hi1 T3 ho2 (by
      rcases ha2 with r | ⟨j, r1, r2⟩
      · rw [r]; exact ha1'
      · exact .inr ⟨j, r1, by omega⟩)
    refine ⟨⟨(T3.cell (p := ⟨N.bn, 10, none⟩) nV (by simp)).trans (HOK.out _ HS4.out).1, (T3.frozen (p := ⟨N.bn, 10, none⟩) nV (by simp)).trans (HS4.out.m.hold.froz 10), (T3.cell (p := ⟨X, 0, none⟩) xV (by simp)).trans (HOK.out _ HS4.out).2.2.1⟩, HS4.out.trans k1, k2, ?_⟩
    have T4 : Turn [N.bn] V1 (w3.setCell ⟨N.bn, 10, none⟩ (.slice sl2 (i + (N.wn - (i + 1))) cap2)) := (T3.mono (by simp)).setCell (.inl (by simp)) _
    exact T4.cells HP4.out (by simp; exact fun e => hPn e.symm)
  clear T2 u2 u5 u3
  by_cases hce : N.wcap = i + 1
  · have hce' : (N.wcap : Int) = (i : Int) + 1 := by omega
    have HCE : Hid _ := hce
    go_upto_region 9 with (at_builtin; (refine wpList_append_gen _ rfl _ _ 149 rfl 156 i0 _ 4 40 Tryd.underlying149 hi hz0 hz1 hz2 rfl (by decide) (.slice sl1 i cap1) i (N.wx.take (i * 4)) rfl ho1 ⟨gy, 0, none⟩ (N.wn - (i + 1)) _ (N.wx.drop ((i + 1) * 4)) rfl (by rw [List.length_drop]; omega) (fun j u hu => by rw [List.drop_of_length_le (by omega)] at hu; simp at hu) (fun u hu => HI.out.m.way.one u (List.mem_of_mem_drop hu)) (by unfold maxLen; omega) (by omega) ?_); intro sl2 cap2 w3 ho2 hg2 ha2)
    obtain ⟨⟨c3, f3, k3⟩, hs4, hl4, hp4⟩ := HFIN.out sl2 cap2 w3 ho2 hg2 ha2
    have HS6 : Hid _ := hs4
    have HL6 : Hid _ := hl4
    have HP6 : Hid _ := hp4
    clear hs4 hl4 hp4 u10 u0 uf ho1 ho2 hg2 ha1' ha2 HFIN
    have HPC : Hid _ := fun j => cell_of_row _ P j _ _ _ HP6.out
    have z0 := HPC.out 0
    have z1 := HPC.out 1
    have z2 := HPC.out 2
    have z3 := HPC.out 3
    go_wp2_with fail
    refine (arrive_any _ tb ts tn td _ ⟨HS6.out.m, HL6.out⟩ HPO.out hbig (by show i + (N.wn - (i + 1)) ≤ _; omega)).mono ?_
    rintro e w5 ⟨rfl, N5, st⟩
    have HS7 : Hid _ := st
    have hh : N5.hm ≤ N.hm + 4 := st.hm
    have hw : N5.wn ≤ i + (N.wn - (i + 1)) + 1 := st.wn
    clear st z0 z1 z2 z3
    go_wp2_with fail
    go_ret
    exact ⟨rfl, N5, StpA.of HT.out HI.out.m (HS6.out.trans HS7.out.m) HS7.out.inv.l hh (by omega)⟩
  · have hi6 : (i : Int) + 1 ≤ (N.wcap : Int) := by omega
    go_upto_region 9 with (at_builtin; refine wpList_append_gen _ rfl _ _ 149 rfl 156 i0 _ 4 40 Tryd.underlying149 hi hz0 hz1 hz2 rfl (by decide) (.slice sl1 i cap1) i (N.wx.take (i * 4)) rfl ho1 ⟨gy, (i + 1) * 4, none⟩ (N.wn - (i + 1)) (N.wcap - (i + 1)) (N.wx.drop ((i + 1) * 4)) rfl (by rw [List.length_drop]; omega) (fun j u hu => by rw [show (⟨gy, (i + 1) * 4, none⟩ : Addr).add j = ⟨gy, (i + 1) * 4 + j, none⟩ from by unfold Addr.add; split <;> simp_all]; exact owns_cell HS5.out.m.way.owns hyo (by rw [List.getElem?_drop] at hu; exact hu)) (fun u hu => HI.out.m.way.one u (List.mem_of_mem_drop hu)) (by unfold maxLen; omega) (by omega) ?_; intro sl2 cap2 w3 ho2 hg2 ha2)
    obtain ⟨⟨c3, f3, k3⟩, hs4, hl4, hp4⟩ := HFIN.out sl2 cap2 w3 ho2 hg2 ha2
    have HS6 : Hid _ := hs4
    have HL6 : Hid _ := hl4
    have HP6 : Hid _ := hp4
    clear hs4 hl4 hp4 u10 u0 uf ho1 ho2 hg2 ha1' ha2 HFIN
    have HPC : Hid _ := fun j => cell_of_row _ P j _ _ _ HP6.out
    have z0 := HPC.out 0
    have z1 := HPC.out 1
    have z2 := HPC.out 2
    have z3 := HPC.out 3
    go_wp2_with fail
    refine (arrive_any _ tb ts tn td _ ⟨HS6.out.m, HL6.out⟩ HPO.out hbig (by show i + (N.wn - (i + 1)) ≤ _; omega)).mono ?_
    rintro e w5 ⟨rfl, N5, st⟩
    have HS7 : Hid _ := st
    have hh : N5.hm ≤ N.hm + 4 := st.hm
    have hw : N5.wn ≤ i + (N.wn - (i + 1)) + 1 := st.wn
    clear st z0 z1 z2 z3
    go_wp2_with fail
    go_ret
    exact ⟨rfl, N5, StpA.of HT.out HI.out.m (HS6.out.trans HS7.out.m) HS7.out.inv.l hh (by omega)⟩
end Go.Proofs.YtfbbidaoljfloaaDoor
