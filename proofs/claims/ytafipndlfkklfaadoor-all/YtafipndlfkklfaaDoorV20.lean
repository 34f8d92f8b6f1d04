import Derived.Test.YtafipndlfkklfaaDoorV19
import Derived.Test.YtafipndlfkklfaaDoorJ44
namespace Go.Proofs.YtafipndlfkklfaaDoor
open Go.RowKit Go.MuLone

section
variable {P : Program} (w : World)
/-- append onto an owned row, of whatever number of elements. -/
theorem run_append_gen (t ty : TypeId) (e : TypeId) (i : TypeInfo) (z : Value) (size bytes : Nat) (ht : P.underlying t = some (.slice e)) (hi : P.info? e = some i) (hz : i.zero = some z)
    (hsize : i.size = size) (hby : i.bytes = bytes) (hzs : z.cells.size = size) (hsz : 0 < size)
    (v : Value) (n : Nat) (xs : List Value) (hown : w.ownsRow 0 e size v n xs)
    (ad : Addr) (m c : Nat) (news : List Value) (hl : news.length = m * size) (hnews : ∀ j u, news[j]? = some u → w.cell? (ad.add j) = some u) (h1 : ∀ u ∈ news, u.oneCell' = true)
    (h63 : n + m ≤ maxLen) (hbytes : ((n + m) + (n + m) / 4 + 192) * bytes ≤ 281474976710656) :
    ∃ sl cap w', (Builtin.append_ #[t, t] ty #[v, .slice (some ad) m c]).run P w = .ok (.slice sl (n + m) cap) w' ∧
      w'.ownsRow 0 e size (.slice sl (n + m) cap) (n + m) (xs ++ news) ∧ w.grownBy w' v.ownBlock ∧ ((Value.slice sl (n + m) cap).ownBlock = v.ownBlock ∨ ∃ k, (Value.slice sl (n + m) cap).ownBlock = some k ∧ w.heap.size ≤ k) := by
  by_cases hm : 0 < m
  · obtain ⟨g, cap, w', h2, h3, h4, h5, _⟩ := run_append_far (P := P) w t ty e i z size bytes ht hi hz hsize hby hzs hsz v n xs hown ad m c news hl hnews h1 hm h63 hbytes
    refine ⟨_, _, w', h2, h3, h4, ?_⟩
    rcases h5 with q | q
    · exact .inl (by rw [q]; rfl)
    · exact .inr ⟨g, rfl, by omega⟩
  · obtain rfl : m = 0 := by omega
    rcases hown.2 with ⟨rfl, rfl⟩ | ⟨g, cap, cur, rfl, hbg, hg, hnc, hcm, hcs, htake⟩
    · obtain ⟨v', w', h2, h3, h4, h5⟩ := run_append_own_wide (P := P) w 0 t ty e i z size bytes ht hi hz hsize hby hzs hsz _ 0 xs hown ad 0 c news hl hnews h1 h63 hbytes (Nat.zero_le _)
      obtain rfl := h5.2 ⟨rfl, rfl⟩
      exact ⟨none, 0, w', h2, h3, h4, .inl rfl⟩
    · obtain ⟨w', h2, h3, h4⟩ := run_append_own_spare (P := P) w 0 t ty e i size ht hi hsize g n cap xs hown ad 0 c news hl hnews h1 (by omega)
      exact ⟨some ⟨g, 0, none⟩, cap, w', h2, h3, h4, .inl rfl⟩

theorem wpList_append_gen {ops : Array Oper} {rest : List Oper} {o : Oper} {a : Act} {Q : Exit → Act → World → Prop} (hgd : o.guard = none) (s x : Operand) (t : TypeId)
    (ho : o.op = .call { callee := .builtin .append, args := #[s, x], argTypes := #[t, t] })
    (e : TypeId) (i : TypeInfo) (z : Value) (size bytes : Nat) (ht : P.underlying t = some (.slice e)) (hi : P.info? e = some i) (hz : i.zero = some z)
    (hsize : i.size = size) (hby : i.bytes = bytes) (hzs : z.cells.size = size) (hsz : 0 < size)
    (v : Value) (n : Nat) (xs : List Value) (hs : a.eval s = v) (hown : w.ownsRow 0 e size v n xs)
    (ad : Addr) (m c : Nat) (news : List Value) (hx : a.eval x = .slice (some ad) m c) (hl : news.length = m * size) (hnews : ∀ j u, news[j]? = some u → w.cell? (ad.add j) = some u) (h1 : ∀ u ∈ news, u.oneCell' = true)
    (h63 : n + m ≤ maxLen) (hbytes : ((n + m) + (n + m) / 4 + 192) * bytes ≤ 281474976710656)
    (h : ∀ sl cap w', w'.ownsRow 0 e size (.slice sl (n + m) cap) (n + m) (xs ++ news) → w.grownBy w' v.ownBlock → ((Value.slice sl (n + m) cap).ownBlock = v.ownBlock ∨ ∃ k, (Value.slice sl (n + m) cap).ownBlock = some k ∧ w.heap.size ≤ k) → wpList P ops Q rest (a.put o.dst (.slice sl (n + m) cap)) w') : wpList P ops Q (o :: rest) a w := by
  refine wpList_plain hgd fun _ hK => ?_
  obtain ⟨sl, cap, w', hr, h2, h3, h4⟩ := run_append_gen (P := P) w t o.type e i z size bytes ht hi hz hsize hby hzs hsz v n xs hown ad m c news hl hnews h1 h63 hbytes
  unfold Oper.wp execOp
  simp only [ho, resolve, invoke, builtin, Sem.run_bind, Sem.run_pure, Result.andThen_ok, List.map_toArray, List.map_cons, List.map_nil, hs, hx, hr]
  exact hK _ _ (h sl cap w' h2 h3 h4)
end


/-- A frame on its way is lost: the list is made anew. -/
theorem InvM.lost {w w3 : World} {N : NetA} (h : InvM w N) {sl : Option Addr} {M cap : Nat} {wx : List Value} (T : Turn [] w w3) (hY : w3.ownsRow 0 156 4 (.slice sl M cap) M wx)
    (ay : (Value.slice sl M cap).ownBlock = none ∨ ∃ k, (Value.slice sl M cap).ownBlock = some k ∧ w.heap.size ≤ k) (hone : ∀ u ∈ wx, u.oneCell' = true)
    (hty : ∀ i, i < M → ∃ b s n d, wx[i * 4]? = some (.bool b) ∧ wx[i * 4 + 1]? = some (.string s) ∧ wx[i * 4 + 2]? = some (.int .i64 n) ∧ wx[i * 4 + 3]? = some (.int .i64 d)) :
    StpM w N (w3.setCell ⟨N.bn, 10, none⟩ (.slice sl M cap)) { N with wsl := sl, wn := M, wcap := cap, wx := wx } := by
  have nlt : N.bn < w.heap.size := lt_of_heap h.hold.net
  have T1 : Turn [N.bn] w (w3.setCell ⟨N.bn, 10, none⟩ (.slice sl M cap)) := (T.mono (by simp)).setCell (.inl (by simp)) _
  obtain ⟨_, m2, m3, m4, m5, m6, m7⟩ := h.mid T1
  have one : ∀ b, b < w.heap.size → (Value.slice sl M cap).ownBlock ≠ some b := by
    intro b hb
    rcases ay with r | ⟨j, r1, r2⟩
    · rw [r]; simp
    · rw [r1]; simp; omega
  have hlow : ∀ k ∈ ({ N with wsl := sl, wn := M, wcap := cap, wx := wx } : NetA).lows, k ∈ N.lows ∨ w.heap.size ≤ k := fun k hk => by
    simp only [NetA.lows, List.mem_cons, List.mem_append, Option.mem_toList] at hk
    rcases hk with q | ((((q | q) | q) | q) | q)
    · exact .inl (mem_lows (.inl q))
    · exact .inl (mem_lows (.inr (.inl q)))
    · have q : (Value.slice sl M cap).ownBlock = some k := q
      rcases ay with r | ⟨j, r1, r2⟩
      · rw [r] at q; cases q
      · rw [r1] at q; simp at q; subst q; exact .inr r2
    · exact .inl (mem_lows (.inr (.inr (.inr (.inl q)))))
    · exact .inl (mem_lows (.inr (.inr (.inr (.inr (.inl q))))))
    · exact .inl (mem_lows (.inr (.inr (.inr (.inr (.inr q))))))
  refine ⟨⟨⟨?_, m7, h.hold.apart, h.hold.len⟩, ⟨?_, hone, one _ nlt, hty⟩, m2, m3, m4, h.r0, m5, m6, fun k hk hm => ?_, h.ro, fun hm => ?_⟩, T1.mono (fun x hx => ?_), rfl, fun k hk => ?_, fun k hk => .inl hk⟩
  · exact heap_setCell_same _ _ _ _ _ _ (T.cells h.hold.net (by simp))
  · refine ((Turn.refl [N.bn] w3).setCell (.inl (by simp)) _).owns hY (fun k hk hm => ?_)
    simp at hm
    subst hm
    exact one _ nlt hk
  · rcases hlow k hk with q | q
    · exact h.low k q hm
    · have := h.net.lt k hm; omega
  · rcases hlow 0 hm with q | q
    · exact h.pos q
    · have := h.net.pos; omega
  · simp at hx
    exact List.mem_append_left _ (mem_lows (.inl hx))
  · rcases List.mem_append.1 hk with q | q
    · rcases hlow k q with q | q
      · exact .inl (List.mem_append_left _ q)
      · exact .inr q
    · exact .inl (List.mem_append_right _ q)

theorem posts_cut {wx : List Value} {wn i : Nat} {P : Bool → ByteArray → Int → Int → Prop} (hl : wx.length = wn * 4) (hi : i < wn) (h : ∀ i, i < wn → ∃ b s n d, wx[i * 4]? = some (.bool b) ∧ wx[i * 4 + 1]? = some (.string s) ∧ wx[i * 4 + 2]? = some (.int .i64 n) ∧ wx[i * 4 + 3]? = some (.int .i64 d) ∧ P b s n d) :
    ∀ j, j < i + (wn - (i + 1)) → ∃ b s n d, (wx.take (i * 4) ++ wx.drop ((i + 1) * 4))[j * 4]? = some (.bool b) ∧ (wx.take (i * 4) ++ wx.drop ((i + 1) * 4))[j * 4 + 1]? = some (.string s) ∧
      (wx.take (i * 4) ++ wx.drop ((i + 1) * 4))[j * 4 + 2]? = some (.int .i64 n) ∧ (wx.take (i * 4) ++ wx.drop ((i + 1) * 4))[j * 4 + 3]? = some (.int .i64 d) ∧ P b s n d := by
  intro j hj
  have ht : (wx.take (i * 4)).length = i * 4 := by rw [List.length_take]; omega
  by_cases hlt : j < i
  · obtain ⟨b, s, n, d, h0, h1, h2, h3, h4⟩ := h j (by omega)
    have g : ∀ r, r < 4 → (wx.take (i * 4) ++ wx.drop ((i + 1) * 4))[j * 4 + r]? = wx[j * 4 + r]? := fun r hr => by
      rw [List.getElem?_append_left (by omega), List.getElem?_take_of_lt (by omega)]
    exact ⟨b, s, n, d, (g 0 (by omega)).trans h0, (g 1 (by omega)).trans h1, (g 2 (by omega)).trans h2, (g 3 (by omega)).trans h3, h4⟩
  · obtain ⟨b, s, n, d, h0, h1, h2, h3, h4⟩ := h (j + 1) (by omega)
    have g : ∀ r, (wx.take (i * 4) ++ wx.drop ((i + 1) * 4))[j * 4 + r]? = wx[(j + 1) * 4 + r]? := fun r => by
      rw [List.getElem?_append_right (by omega), List.getElem?_drop]
      congr 1
      omega
    exact ⟨b, s, n, d, (g 0).trans h0, (g 1).trans h1, (g 2).trans h2, (g 3).trans h3, h4⟩
theorem InvL.lost {N : NetA} (h : InvL N) (sl : Option Addr) (M cap : Nat) (wx : List Value) (hp : ∀ i, i < M → ∃ b s n d, wx[i * 4]? = some (.bool b) ∧ wx[i * 4 + 1]? = some (.string s) ∧ wx[i * 4 + 2]? = some (.int .i64 n) ∧ wx[i * 4 + 3]? = some (.int .i64 d) ∧ PostOk N b s n d) :
    InvL { N with wsl := sl, wn := M, wcap := cap, wx := wx } := ⟨h.sblk, h.sbud, h.shape, h.get, h.odat, h.tk, h.ready, hp, h.blk1, h.blk2, h.bud1, h.bud2, h.four, h.nrs⟩
/-- One frame of those on their way is gone. -/
theorem InvA.cut {w w3 : World} {N : NetA} (h : InvA w N) {sl : Option Addr} {cap i : Nat} (hi : i < N.wn) (T : Turn [] w w3) (hY : w3.ownsRow 0 156 4 (.slice sl (i + (N.wn - (i + 1))) cap) (i + (N.wn - (i + 1))) (N.wx.take (i * 4) ++ N.wx.drop ((i + 1) * 4)))
    (ay : (Value.slice sl (i + (N.wn - (i + 1))) cap).ownBlock = none ∨ ∃ k, (Value.slice sl (i + (N.wn - (i + 1))) cap).ownBlock = some k ∧ w.heap.size ≤ k) :
    StpM w N (w3.setCell ⟨N.bn, 10, none⟩ (.slice sl (i + (N.wn - (i + 1))) cap)) { N with wsl := sl, wn := i + (N.wn - (i + 1)), wcap := cap, wx := N.wx.take (i * 4) ++ N.wx.drop ((i + 1) * 4) } ∧
      InvL { N with wsl := sl, wn := i + (N.wn - (i + 1)), wcap := cap, wx := N.wx.take (i * 4) ++ N.wx.drop ((i + 1) * 4) } := by
  have hp := posts_cut (P := PostOk N) h.m.way.owns.1 hi h.l.posts
  refine ⟨h.m.lost T hY ay (fun u hu => ?_) (fun j hj => ?_), h.l.lost _ _ _ _ hp⟩
  · rcases List.mem_append.1 hu with r | r
    · exact h.m.way.one u (List.mem_of_mem_take r)
    · exact h.m.way.one u (List.mem_of_mem_drop r)
  · obtain ⟨b, s, n, d, h0, h1, h2, h3, _⟩ := hp j hj
    exact ⟨b, s, n, d, h0, h1, h2, h3⟩

theorem doneB_valid (num blk : Nat) : (doneB num blk).take 4 ++ leBytes 4 (crc ((doneB num blk).take 4)) = doneB num blk := by
  have ht : (doneB num blk).take 4 = doneBody num blk := by
    unfold doneB
    rw [show 4 = (doneBody num blk).length by simp [doneBody, leBytes_len]]
    exact List.take_left
  rw [ht]
  rfl
theorem spoil_up {S : SV} {t' : List Nat} {num blk fr m i : Nat} (h : Spoil (doneB num blk) t' fr m i) (hi : 0 < i) (hi2 : i ≤ 32) (hf : fr ≤ 64) : S.handle t' = S := by
  unfold SV.handle
  cases S.l[S.en]? with
  | none => rfl
  | some o =>
    simp only
    rw [if_neg]
    rintro ⟨_, e⟩
    have hm : m < 4294967296 := Nat.lt_of_lt_of_le h.small (Nat.le_trans (Nat.pow_le_pow_right (by decide) hi2) (by decide))
    have hm0 : m ≠ 0 := by have := h.odd hi; omega
    have h2 := doneB_valid (S.en + 1) S.blk
    rw [← e] at h2
    exact run_seen (doneB_lt _ _) h.lt h.len (doneB_valid num blk) h2 h.val hm hm0 rfl (by rw [doneB_len]; omega)
theorem spoil_down {V : RV} {t' : List Nat} {num row fr m i : Nat} {D : ByteArray} (h : Spoil (fText num V.blk row D) t' fr m i) (hi : 0 < i) (hi2 : i ≤ 32) (hf : fr ≤ 8 * (fText num V.blk row D).length) (hlt : ∀ b ∈ fText num V.blk row D, b < 256) : V.handle t' = (V, none) := by
  unfold RV.handle
  rw [h.deaf hi hi2 hlt hf (fText_valid num V.blk row D)]
end Go.Proofs.YtafipndlfkklfaaDoor
