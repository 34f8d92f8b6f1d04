import Derived.Test.YtfbbidaoljfloaaDoorJ38
namespace Go.Proofs.YtfbbidaoljfloaaDoor
open Go.RowKit Go.MuLone

def opV (k a n m nonce mask : Int) (s : ByteArray) : Value := .agg #[.int .i64 k, .int .i64 a, .int .i64 n, .int .i64 m, .int .u64 nonce, .int .u32 mask, .string s]
def opCells (k a n m nonce mask : Int) (s : ByteArray) : Array Value := #[.int .i64 k, .int .i64 a, .int .i64 n, .int .i64 m, .int .u64 nonce, .int .u32 mask, .string s]

theorem Turn.cell {S : List Nat} {w w' : World} (h : Turn S w w') {p : Addr} (hp : p.block < w.heap.size) (hn : p.block ∉ S) : w'.cell? p = w.cell? p := World.cell?_of_block (h.block p.block hp hn)
theorem Turn.frozen {S : List Nat} {w w' : World} (h : Turn S w w') {p : Addr} (hp : p.block < w.heap.size) (hn : p.block ∉ S) : w'.frozen? p = w.frozen? p := World.frozen?_of_block (h.block p.block hp hn)

theorem submit_no (bs : Nat) (blk bud : Int) (data : ByteArray) (nonce : Int) (sl : Option Addr) (n cap en : Nat) (l : List Thing) (w : World) (hs : SenderAt w bs blk bud (.slice sl n cap) en) (h : Things w 110 sl n cap l) (hne : (Value.slice sl n cap).ownBlock ≠ some bs)
    (h1 : 1 ≤ blk) (h2 : blk ≤ 32) (hn : n ≤ 500) (hen : en ≤ n) (h8 : cntSt (l.drop en) 1 ≤ 8) (hno : 32 * blk < (data.size : Int) ∨ n = 500 ∨ 8 ≤ cntSt (l.drop en) 1) :
    Calls Tryd.prog 17 #[.pointer (some ⟨bs, 0, none⟩), .string data, .int .u64 nonce] w fun e w' => e = .returned (.tuple #[.int .i64 0, .int .i64 (subErr blk data.size n)]) ∧ Turn [bs] w w' ∧ SenderAt w' bs blk bud (.slice sl n cap) en := by
  by_cases ha : 32 * blk < (data.size : Int)
  · rw [show subErr blk data.size n = 2 by unfold subErr; rw [if_pos ha]]
    exact submit_long bs blk bud data nonce _ en w hs h1 h2 ha
  · by_cases hb : n = 500
    · rw [show subErr blk data.size n = 4 by unfold subErr; rw [if_neg ha, if_pos hb]]
      subst hb
      exact submit_end bs blk bud data nonce sl cap en w hs h1 h2 ha
    · rw [show subErr blk data.size n = 3 by unfold subErr; rw [if_neg ha, if_neg hb]]
      exact submit_full bs blk bud data nonce sl n cap en l w hs h hne h1 h2 ha (by omega) hen (by omega)


theorem Send.same {w w' : World} {bs : Nat} {sl : Option Addr} {cap : Nat} {S : SV} (h : Send w bs sl cap S) (ht : Turn [bs] w w') (hs : SenderAt w' bs S.blk S.bud (.slice sl S.l.length cap) S.en) : SAft w w' bs sl sl cap S :=
  ⟨⟨hs, h.things.turn ht (fun k hk => by simp; intro e; exact h.ne (by rw [hk, e])), h.ne⟩, ht.mono (by simp [sfoot]), fun g hg => .inl hg⟩
theorem nSubmit_no {w : World} {bs br : Nat} {F : List Nat} {S : SV} {V : RV} (data : ByteArray) (nonce : Int) (h : Net w bs br F S V) (hc : cntSt (S.l.drop S.en) 1 ≤ 8) (hno : 32 * (S.blk : Int) < (data.size : Int) ∨ S.l.length = 500 ∨ 8 ≤ cntSt (S.l.drop S.en) 1) :
    Calls Tryd.prog 17 #[.pointer (some ⟨bs, 0, none⟩), .string data, .int .u64 nonce] w fun e w' => e = .returned (.tuple #[.int .i64 0, .int .i64 (subErr S.blk data.size S.l.length)]) ∧ ∃ F', NAft w w' bs br F F' S V := by
  obtain ⟨sl, cap, R, hn, rfl⟩ := h
  have h1 := hn.sok.b1
  have h2 := hn.sok.b2
  refine (submit_no bs S.blk S.bud data nonce sl S.l.length cap S.en S.l w hn.send.at_ hn.send.things hn.send.ne (by omega) (by omega) hn.sok.n5 hn.sok.le hc hno).mono ?_
  rintro e w' ⟨rfl, ht, hs⟩
  exact ⟨rfl, _, hn.sender (hn.send.same ht hs) hn.sok⟩
theorem nStatus_bad {w : World} {bs br : Nat} {F : List Nat} {S : SV} {V : RV} (num : Int) (h : Net w bs br F S V) (hbad : num < 1 ∨ (S.l.length : Int) < num) :
    Calls Tryd.prog 22 #[.pointer (some ⟨bs, 0, none⟩), .int .i64 num] w fun e w' => e = .returned (.tuple #[.agg #[.int .i64 0, .int .i64 0], .int .i64 5]) ∧ ∃ F', NAft w w' bs br F F' S V := by
  obtain ⟨sl, cap, R, hn, rfl⟩ := h
  refine (status_bad bs S.blk S.bud sl S.l.length cap S.en num w hn.send.at_ hbad).mono ?_
  rintro e w' ⟨rfl, ht, hs⟩
  exact ⟨rfl, _, hn.sender (hn.send.same ht hs) hn.sok⟩

/-- The op's own block, beside a network: X, made at w, W behind it. -/
structure OpAt (w W : World) (N : NetA) (k a n m nonce mask : Int) (s : ByteArray) : Prop where
  turn : Turn [] w W
  at_ : W.heap[w.heap.size]? = some (.cells (opCells k a n m nonce mask s) 89 (0, 0))
  far : w.heap.size ∉ N.blocks
theorem OpAt.mk' {w : World} {N : NetA} (h : InvM w N) (k a n m nonce mask : Int) (s : ByteArray) : OpAt w (w.alloc (.cells (opCells k a n m nonce mask s) 89)) N k a n m nonce mask s :=
  ⟨(Turn.refl _ _).alloc _, heap_alloc_new _ _, fun hm => by
    rcases List.mem_append.1 hm with q | q
    · have := h.lt _ q; omega
    · have := h.net.lt _ q; omega⟩
theorem OpAt.cell {w W v : World} {N M : NetA} {k a n m nonce mask : Int} {s : ByteArray} (h : OpAt w W N k a n m nonce mask s) (st : StpM W N v M) (j : Nat) : v.cell? ⟨w.heap.size, j, none⟩ = (opCells k a n m nonce mask s)[j]? := by
  rw [st.turn.cell (p := ⟨w.heap.size, j, none⟩) (lt_of_heap h.at_) h.far, cell_of_row _ _ _ _ _ _ h.at_]
theorem StpA.of {w W w' : World} {N N' : NetA} (T : Turn [] w W) (h : InvM w N) (s : StpM W N w' N') (l : InvL N') (h1 : N'.hm ≤ N.hm + 4) (h2 : N'.wn ≤ N.wn + 1) : StpA w N w' N' := ((StpM.of_turn h T).trans s).to l h1 h2

/-- One object more, at both. -/
theorem InvM.objs2 {w w2 : World} {N : NetA} {o : Thing} {g c : Nat} (h : InvM w N) (T : Turn N.rv.ownBlock.toList w w2) (ht : Things w2 158 (some ⟨g, 0, none⟩) (N.os.length + 1) c (N.os ++ [o])) (ha : N.rv.ownBlock = some g ∨ w.heap.size ≤ g) :
    StpM w N (w2.setCell ⟨N.bn, 4, none⟩ (.slice (some ⟨g, 0, none⟩) (N.os.length + 1) c)) { N with os := N.os ++ [o], rsl := some ⟨g, 0, none⟩, rcap := c } := by
  have e : (N.os ++ [o]).length = N.os.length + 1 := by simp
  have ho : w.ownsRow 0 158 4 N.rv N.os.length (rowCells N.os) := h.rth.owns
  have nF : ∀ k, N.rv.ownBlock = some k → k ∈ N.lows := fun k hk => mem_lows (.inr (.inl hk))
  have hbn : N.bn ∉ N.rv.ownBlock.toList := fun hm => cells_ne (by decide) h.hold.net ho (by simpa using hm)
  have hnet2 := T.cells h.hold.net hbn
  have TF : Turn (N.bn :: N.rv.ownBlock.toList) w (w2.setCell ⟨N.bn, 4, none⟩ (.slice (some ⟨g, 0, none⟩) (N.os.length + 1) c)) := (T.mono (fun x hx => List.mem_cons_of_mem _ hx)).setCell (.inl (by simp)) _
  have Tc : Turn [N.bn] w2 (w2.setCell ⟨N.bn, 4, none⟩ (.slice (some ⟨g, 0, none⟩) (N.os.length + 1) c)) := (Turn.refl _ _).setCell (.inl (by simp)) _
  have away : ∀ k, k ∈ N.bn :: N.rv.ownBlock.toList → k = N.bn ∨ N.rv.ownBlock = some k := fun k hk => by simpa using hk
  have hown : ∀ {e : TypeId} {s n : Nat} {xs : List Value} {v : Value}, e ≠ 151 → e ≠ 158 → w.ownsRow 0 e s v n xs → ∀ k, v.ownBlock = some k → k ∉ N.bn :: N.rv.ownBlock.toList := fun h1 h2 hoo k hk hm => by
    rcases away k hm with q | q
    · subst q; exact cells_ne h1 h.hold.net hoo hk
    · exact own_ne h2 hoo ho k hk q
  have hgn : g ≠ N.bn := by
    rcases ha with q | q
    · intro e; exact hbn (by rw [q, e]; simp)
    · have := lt_of_heap h.hold.net; omega
  have hlow : ∀ k ∈ ({ N with os := N.os ++ [o], rsl := some ⟨g, 0, none⟩, rcap := c } : NetA).lows, k ∈ N.lows ∨ w.heap.size ≤ k := fun k hk => by
    simp only [NetA.lows, List.mem_cons, List.mem_append, Option.mem_toList] at hk
    rcases hk with q | ((((q | q) | q) | q) | q)
    · exact .inl (mem_lows (.inl q))
    · have q : some g = some k := q
      simp at q
      subst q
      rcases ha with r | r
      · exact .inl (nF g r)
      · exact .inr r
    · exact .inl (mem_lows (.inr (.inr (.inl q))))
    · exact .inl (mem_lows (.inr (.inr (.inr (.inl q)))))
    · exact .inl (mem_lows (.inr (.inr (.inr (.inr (.inl q))))))
    · exact .inl (mem_lows (.inr (.inr (.inr (.inr (.inr q))))))
  have inl : ∀ k, k ∈ N.bn :: N.rv.ownBlock.toList → k ∈ N.lows := fun k hk => by
    rcases away k hk with q | q
    · exact mem_lows (.inl q)
    · exact nF k q
  refine ⟨⟨⟨?_, TF.owns h.hold.owns (hown (by decide) (by decide) h.hold.owns), h.hold.apart, h.hold.len⟩, h.way.turn TF (hown (by decide) (by decide) h.way.owns), h.net.turn TF (fun g hg hm => h.low g (inl g hm) hg) (fun hm => h.pos (inl 0 hm)), ?_, h.rl.turn TF (hown (by decide) (by decide) h.rl.owns) (fun g hg hm => ?_), h.r0, h.nl.turn TF (hown (by decide) (by decide) h.nl.owns), fun i hi => (h.lists i hi).turn TF (fun k hk => ?_), fun k hk hm => ?_, h.ro, fun hm => ?_⟩, TF.mono (fun k hk => List.mem_append_left _ (inl k hk)), rfl, fun k hk => ?_, fun k hk => .inl hk⟩
  · show _ = some (Obj.cells (netX N.bs N.X N.blk N.bud (.slice (some ⟨g, 0, none⟩) (N.os ++ [o]).length c) N.wv N.hv) _ _)
    rw [e]
    exact heap_setCell_same _ _ _ _ _ _ hnet2
  · show Things _ _ (some ⟨g, 0, none⟩) (N.os ++ [o]).length c (N.os ++ [o])
    rw [e]
    exact ht.turn Tc (fun k hk hm => by
      simp only [Value.ownBlock, Option.some.injEq] at hk
      simp at hm
      exact hgn (by omega))
  · rcases away g hm with q | q
    · subst q; exact h.rl.far (by decide) h.hold.net hg
    · exact h.rl.ne2 (by decide) ho g hg q
  · obtain ⟨sl, n, cap, e2, _, hol⟩ := h.lists i hi
    rw [e2] at hk hol
    exact hown (by decide) (by decide) hol k hk
  · rcases hlow k hk with q | q
    · exact h.low k q hm
    · have := h.net.lt k hm; omega
  · rcases hlow 0 hm with q | q
    · exact h.pos q
    · have := h.net.pos; omega
  · rcases List.mem_append.1 hk with q | q
    · rcases hlow k q with q | q
      · exact .inl (List.mem_append_left _ q)
      · exact .inr q
    · exact .inl (List.mem_append_right _ q)
theorem InvL.submitted {N : NetA} (h : InvL N) (F : List Nat) (data : ByteArray) (nonce : Int) (rsl : Option Addr) (rcap : Nat) (y1 : data.size ≤ 32 * N.blk) (y2 : N.os.length < 500) (y3 : cntSt N.os 1 < 8) :
    InvL { N with F := F, S := { N.S with l := N.S.l ++ [⟨data, nonce, 1, 0⟩] }, os := N.os ++ [⟨data, nonce, 1, 0⟩], rsl := rsl, rcap := rcap } := by
  refine ⟨h.sblk, h.sbud, h.shape.submit data nonce y2 y3 y1, ?_, fun i o ho => ?_, h.tk, ⟨h.ready.1, fun i n o hd ho => ?_⟩, fun i hi => ?_, h.blk1, h.blk2, h.bud1, h.bud2, h.four, h.nrs⟩
  · show GetIs N.V N.blk ((N.os ++ [(⟨data, nonce, 1, 0⟩ : Thing)]).map (fun x => x.data)) N.last N.K N.rs N.dl
    rw [List.map_append]
    exact h.get.more data
  · have ho : (N.os ++ [(⟨data, nonce, 1, 0⟩ : Thing)])[i]? = some o := ho
    by_cases hi : i < N.os.length
    · rw [List.getElem?_append_left hi] at ho
      exact h.odat i o ho
    · rw [List.getElem?_append_right (by omega)] at ho
      have := (List.getElem?_eq_some_iff.1 ho).1
      simp at this
      rw [show i - N.os.length = 0 by omega] at ho
      simp at ho
      rw [← ho]
      exact y1
  · have ho : (N.os ++ [(⟨data, nonce, 1, 0⟩ : Thing)])[n]? = some o := ho
    have hn := h.get.dle (n + 1) (List.mem_of_getElem? hd)
    have hle := h.get.le
    simp [NetA.ds] at hle
    rw [List.getElem?_append_left (by omega)] at ho
    exact h.ready.2 i n o hd ho
  · obtain ⟨b, s, n, d, p1, p2, p3, p4, k, p5, p6, p7⟩ := h.posts i hi
    refine ⟨b, s, n, d, p1, p2, p3, p4, k, p5, p6, fun hb => ?_⟩
    obtain ⟨j, o, j1, j2, j3, j4⟩ := p7 hb
    exact ⟨j, o, j1, j2, by show (N.os ++ [_])[k]? = _; rw [List.getElem?_append_left (List.getElem?_eq_some_iff.1 j3).1]; exact j3, j4⟩
end Go.Proofs.YtfbbidaoljfloaaDoor


namespace Go.Proofs.YtfbbidaoljfloaaDoor
open Go.RowKit Go.MuLone

set_option maxRecDepth 100000 in
set_option maxHeartbeats 2000000 in
theorem submitA_no (N : NetA) (k a n m nonce mask : Int) (s : ByteArray) (w : World) (h : InvA w N) (hno : 32 * (N.blk : Int) < (s.size : Int) ∨ N.os.length = 500 ∨ 8 ≤ cntSt N.os 1) :
    Calls Tryd.prog 60 #[.pointer (some ⟨N.bn, 0, none⟩), opV k a n m nonce mask s] w fun e w' => e = .returned (.bool true) ∧ ∃ N', StpA w N w' N' := by
  have hX := OpAt.mk' h.m k a n m nonce mask s
  have hb1 := h.l.blk1
  have hb2 := h.l.blk2
  have hl5 := h.l.shape.n500
  have OK : ∀ (v : World) (M : NetA), StpM (w.alloc (.cells (opCells k a n m nonce mask s) 89)) N v M → M.bs = N.bs → v.cell? ⟨N.bn, 0, none⟩ = some (.pointer (some ⟨N.bs, 0, none⟩)) ∧ v.cell? ⟨w.heap.size, 6, none⟩ = some (.string s) ∧ v.cell? ⟨w.heap.size, 4, none⟩ = some (.int .u64 nonce) := fun v M st hb => by
    have q := st.m.cells.1
    rw [st.bn, hb] at q
    exact ⟨q, (hX.cell st 6).trans rfl, (hX.cell st 4).trans rfl⟩
  have hcd : cntSt (N.S.l.drop N.S.en) 1 = cntSt N.os 1 := by rw [h.l.shape.drops, ← h.l.shape.counts]
  have hc8 : cntSt (N.S.l.drop N.S.en) 1 ≤ 8 := by rw [h.l.shape.drops]; exact h.l.shape.cnt
  have HH : Hid (∀ v F, Net v N.bs N.br F N.S N.V → Calls Tryd.prog 17 #[.pointer (some ⟨N.bs, 0, none⟩), .string s, .int .u64 nonce] v fun e w' => e = .returned (.tuple #[.int .i64 0, .int .i64 (subErr N.blk s.size N.os.length)]) ∧ ∃ F', NAft v w' N.bs N.br F F' N.S N.V) := fun v F hv => by
    have := nSubmit_no s nonce hv hc8 (by rw [h.l.sblk, h.l.shape.len, hcd]; exact hno)
    rw [h.l.sblk, h.l.shape.len] at this
    exact this
  have HOK : Hid _ := OK
  have HT : Hid _ := hX.turn
  have HS0 : Hid _ := (h.m.turn hX.turn).stp
  have HI : Hid _ := h
  have HNO : Hid _ := hno
  clear h hX OK hcd hc8 hno
  unfold opV
  go_enter Tryd.func60, Tryd.ntmps60
  go_wp2_with fail
  rw [show w.alloc (.cells #[.int .i64 k, .int .i64 a, .int .i64 n, .int .i64 m, .int .u64 nonce, .int .u32 mask, .string s] 89) = w.alloc (.cells (opCells k a n m nonce mask s) 89) from rfl]
  generalize w.alloc (.cells (opCells k a n m nonce mask s) 89) = W at *
  generalize w.heap.size = X at *
  obtain ⟨y0, y6, y4⟩ := HOK.out _ _ HS0.out rfl
  go_region_held3 (fun v => v.cell? ⟨N.bn, 0, none⟩ = some (.pointer (some ⟨N.bs, 0, none⟩)) ∧ v.cell? ⟨X, 6, none⟩ = some (.string s) ∧ v.cell? ⟨X, 4, none⟩ = some (.int .u64 nonce))
    (first | exact ⟨y0, y6, y4⟩ | exact ⟨u0, u6, u4⟩)
    (first | (go_at_call 17; refine (HH.out _ _ HS0.out.m.net.drew).mono ?_; rintro e w1 ⟨rfl, F1, ha⟩; have hs1 := HS0.out.ends (ha.pre ((Turn.refl [] _).drew)); obtain ⟨u0, u6, u4⟩ := HOK.out _ _ hs1 rfl))
  have HS1 : Hid _ := hs1.then ((Turn.refl [] _).drew)
  have HR : Hid (Calls Tryd.prog 87 #[.pointer (some ⟨N.bn, 2, none⟩), .string s, .int .u64 nonce] w1.drew fun e w' => e = .returned (.tuple #[.int .i64 0, .int .i64 (subErr N.blk s.size N.os.length)]) ∧ w' = w1.drew) :=
    refSubmit_no N.bn N.blk s nonce N.rsl N.os.length N.rcap N.os w1.drew (by rw [cell_of_row _ _ _ _ _ _ HS1.out.m.hold.net]; rfl) (by rw [cell_of_row _ _ _ _ _ _ HS1.out.m.hold.net]; rfl) HS1.out.m.rth hl5 (by omega) (by omega) HNO.out
  clear hs1 ha u0 y0 y6 y4
  go_wp2_with fail
  go_region_held3 (fun v => v.cell? ⟨X, 6, none⟩ = some (.string s) ∧ v.cell? ⟨X, 4, none⟩ = some (.int .u64 nonce))
    (first | exact ⟨u6, u4⟩)
    (first | (go_at_call 87; refine (HR.out).mono ?_; rintro e w2 ⟨rfl, rfl⟩))
  go_wp2_with fail
  refine (num_any _ _).mono ?_
  rintro e w3 ⟨rfl, rfl⟩
  go_wp2_with fail
  go_ret
  have hl := HI.out.l
  exact ⟨rfl, _, StpA.of HT.out HI.out.m HS1.out ⟨hl.sblk, hl.sbud, hl.shape, hl.get, hl.odat, hl.tk, hl.ready, hl.posts, hl.blk1, hl.blk2, hl.bud1, hl.bud2, hl.four, hl.nrs⟩ (by show N.hm ≤ _; omega) (by show N.wn ≤ _; omega)⟩

set_option maxRecDepth 100000 in
set_option maxHeartbeats 2000000 in
theorem submitA_yes (N : NetA) (k a n m nonce mask : Int) (s : ByteArray) (w : World) (h : InvA w N) (y1 : s.size ≤ 32 * N.blk) (y2 : N.os.length < 500) (y3 : cntSt N.os 1 < 8) :
    Calls Tryd.prog 60 #[.pointer (some ⟨N.bn, 0, none⟩), opV k a n m nonce mask s] w fun e w' => e = .returned (.bool true) ∧ ∃ N', StpA w N w' N' := by
  have hX := OpAt.mk' h.m k a n m nonce mask s
  have hb1 := h.l.blk1
  have hb2 := h.l.blk2
  have OK : ∀ (v : World) (M : NetA), StpM (w.alloc (.cells (opCells k a n m nonce mask s) 89)) N v M → M.bs = N.bs → v.cell? ⟨N.bn, 0, none⟩ = some (.pointer (some ⟨N.bs, 0, none⟩)) ∧ v.cell? ⟨w.heap.size, 6, none⟩ = some (.string s) ∧ v.cell? ⟨w.heap.size, 4, none⟩ = some (.int .u64 nonce) := fun v M st hb => by
    have q := st.m.cells.1
    rw [st.bn, hb] at q
    exact ⟨q, (hX.cell st 6).trans rfl, (hX.cell st 4).trans rfl⟩
  have hcd : cntSt (N.S.l.drop N.S.en) 1 < 8 := by rw [h.l.shape.drops, ← h.l.shape.counts]; exact y3
  have HH : Hid (∀ v F, Net v N.bs N.br F N.S N.V → Calls Tryd.prog 17 #[.pointer (some ⟨N.bs, 0, none⟩), .string s, .int .u64 nonce] v fun e w' => e = .returned (.tuple #[.int .i64 ((N.os.length : Int) + 1), .int .i64 0]) ∧ ∃ F', NAft v w' N.bs N.br F F' { N.S with l := N.S.l ++ [⟨s, nonce, 1, 0⟩] } N.V) := fun v F hv => by
    have := nSubmit s nonce hv (by rw [h.l.sblk]; exact y1) (by rw [h.l.shape.len]; exact y2) hcd
    rw [h.l.shape.len] at this
    exact this
  have HOK : Hid _ := OK
  have HT : Hid _ := hX.turn
  have HS0 : Hid _ := (h.m.turn hX.turn).stp
  have HI : Hid _ := h
  have HY1 : Hid _ := y1
  clear h hX OK hcd y1
  unfold opV
  go_enter Tryd.func60, Tryd.ntmps60
  go_wp2_with fail
  rw [show w.alloc (.cells #[.int .i64 k, .int .i64 a, .int .i64 n, .int .i64 m, .int .u64 nonce, .int .u32 mask, .string s] 89) = w.alloc (.cells (opCells k a n m nonce mask s) 89) from rfl]
  generalize w.alloc (.cells (opCells k a n m nonce mask s) 89) = W at *
  generalize w.heap.size = X at *
  obtain ⟨y0, y6, y4⟩ := HOK.out _ _ HS0.out rfl
  go_region_held3 (fun v => v.cell? ⟨N.bn, 0, none⟩ = some (.pointer (some ⟨N.bs, 0, none⟩)) ∧ v.cell? ⟨X, 6, none⟩ = some (.string s) ∧ v.cell? ⟨X, 4, none⟩ = some (.int .u64 nonce))
    (first | exact ⟨y0, y6, y4⟩ | exact ⟨u0, u6, u4⟩)
    (first | (go_at_call 17; refine (HH.out _ _ HS0.out.m.net.drew).mono ?_; rintro e w1 ⟨rfl, F1, ha⟩; have hs1 := HS0.out.ends (ha.pre ((Turn.refl [] _).drew)); obtain ⟨u0, u6, u4⟩ := HOK.out _ _ hs1 rfl))
  have HS1 : Hid _ := hs1.then ((Turn.refl [] _).drew)
  have HR : Hid (Calls Tryd.prog 87 #[.pointer (some ⟨N.bn, 2, none⟩), .string s, .int .u64 nonce] w1.drew fun e w' =>
      e = .returned (.tuple #[.int .i64 ((N.os.length : Int) + 1), .int .i64 0]) ∧ ∃ rsl rcap, StpM W N w' { N with F := F1, S := { N.S with l := N.S.l ++ [⟨s, nonce, 1, 0⟩] }, os := N.os ++ [⟨s, nonce, 1, 0⟩], rsl := rsl, rcap := rcap }) := by
    refine (refSubmit_yes N.bn N.blk s nonce N.rsl N.os.length N.rcap N.os w1.drew (by rw [cell_of_row _ _ _ _ _ _ HS1.out.m.hold.net]; rfl) (by rw [cell_of_row _ _ _ _ _ _ HS1.out.m.hold.net]; rfl) (HS1.out.m.hold.froz 4) HS1.out.m.rth y2 (by omega) (by omega) (by have := HY1.out; omega) y3 (cells_ne (by decide) HS1.out.m.hold.net HS1.out.m.rth.owns)).mono ?_
    rintro e w' ⟨rfl, g, c, w2, T2, rfl, R2, a2⟩
    exact ⟨rfl, _, _, HS1.out.trans (HS1.out.m.objs2 T2 R2 a2)⟩
  clear hs1 ha u0 y0 y6 y4
  go_wp2_with fail
  go_region_held3 (fun v => v.cell? ⟨X, 6, none⟩ = some (.string s) ∧ v.cell? ⟨X, 4, none⟩ = some (.int .u64 nonce))
    (first | exact ⟨u6, u4⟩ | exact ⟨x6, x4⟩)
    (first | (go_at_call 87; refine (HR.out).mono ?_; rintro e w2 ⟨rfl, rsl, rcap, hs2⟩; obtain ⟨x0, x6, x4⟩ := HOK.out _ _ hs2 rfl))
  have HS2 : Hid _ := hs2
  clear hs2 x0 x6 x4 u6 u4
  go_wp2_with fail
  refine (num_any _ _).mono ?_
  rintro e w3 ⟨rfl, rfl⟩
  go_wp2_with fail
  go_ret
  exact ⟨rfl, _, StpA.of HT.out HI.out.m HS2.out (HI.out.l.submitted F1 s nonce rsl rcap HY1.out y2 y3) (by show N.hm ≤ _; omega) (by show N.wn ≤ _; omega)⟩

theorem submitA (N : NetA) (k a n m nonce mask : Int) (s : ByteArray) (w : World) (h : InvA w N) :
    Calls Tryd.prog 60 #[.pointer (some ⟨N.bn, 0, none⟩), opV k a n m nonce mask s] w fun e w' => e = .returned (.bool true) ∧ ∃ N', StpA w N w' N' := by
  have := h.l.shape.n500
  by_cases hno : 32 * (N.blk : Int) < (s.size : Int) ∨ N.os.length = 500 ∨ 8 ≤ cntSt N.os 1
  · exact submitA_no N k a n m nonce mask s w h hno
  · exact submitA_yes N k a n m nonce mask s w h (by omega) (by omega) (by omega)
end Go.Proofs.YtfbbidaoljfloaaDoor


namespace Go.Proofs.YtfbbidaoljfloaaDoor
open Go.RowKit Go.MuLone

theorem InvL.kept {N : NetA} (h : InvL N) (F : List Nat) (wsl : Option Addr) (wn wcap : Nat) (wx : List Value) (hsl : Option Addr) (hcap : Nat) (hs : List Value)
    (hp : ∀ i, i < wn → ∃ b s n d, wx[i * 4]? = some (.bool b) ∧ wx[i * 4 + 1]? = some (.string s) ∧ wx[i * 4 + 2]? = some (.int .i64 n) ∧ wx[i * 4 + 3]? = some (.int .i64 d) ∧ PostOk N b s n d) :
    InvL { N with F := F, wsl := wsl, wn := wn, wcap := wcap, wx := wx, hsl := hsl, hm := N.hm + 4, hcap := hcap, hs := hs } := by
  refine ⟨h.sblk, h.sbud, h.shape, h.get, h.odat, h.tk, h.ready, hp, h.blk1, h.blk2, h.bud1, h.bud2, ?_, ?_⟩
  · obtain ⟨q, hq⟩ := h.four
    exact ⟨q + 1, by show N.hm + 4 = _; omega⟩
  · have := h.nrs
    show 4 * N.rs.length ≤ N.hm + 4
    omega
theorem InvL.feet {N : NetA} (h : InvL N) (F : List Nat) : InvL { N with F := F } := ⟨h.sblk, h.sbud, h.shape, h.get, h.odat, h.tk, h.ready, h.posts, h.blk1, h.blk2, h.bud1, h.bud2, h.four, h.nrs⟩

set_option maxRecDepth 100000 in
set_option maxHeartbeats 2000000 in
theorem stepA_submit (N : NetA) (a n m nonce mask : Int) (s : ByteArray) (w : World) (h : InvA w N) :
    Calls Tryd.prog 36 #[.pointer (some ⟨N.bn, 0, none⟩), opV 3 a n m nonce mask s] w fun e w' => e = .returned (.bool true) ∧ ∃ N', StpA w N w' N' := by
  have hX := OpAt.mk' h.m 3 a n m nonce mask s
  have HI0 : Hid (InvA (w.alloc (.cells (opCells 3 a n m nonce mask s) 89)) N) := ⟨h.m.turn hX.turn, h.l⟩
  have HT : Hid _ := hX.turn
  clear hX h
  unfold opV
  go_enter Tryd.func36, Tryd.ntmps36
  go_wp2_with fail
  refine (submitA N 3 a n m nonce mask s _ HI0.out).mono ?_
  rintro e w1 ⟨rfl, N', st⟩
  have HS : Hid _ := st
  clear st
  go_wp2_with fail
  go_ret
  exact ⟨rfl, N', HS.out.pre HT.out⟩

set_option maxRecDepth 100000 in
set_option maxHeartbeats 2000000 in
theorem stepA_take (N : NetA) (a n m nonce mask : Int) (s : ByteArray) (w : World) (h : InvA w N) :
    Calls Tryd.prog 36 #[.pointer (some ⟨N.bn, 0, none⟩), opV 11 a n m nonce mask s] w fun e w' => e = .returned (.bool true) ∧ ∃ N', StpA w N w' N' := by
  have hX := OpAt.mk' h.m 11 a n m nonce mask s
  have HI0 : Hid (InvA (w.alloc (.cells (opCells 11 a n m nonce mask s) 89)) N) := ⟨h.m.turn hX.turn, h.l⟩
  have HT : Hid _ := hX.turn
  clear hX h
  unfold opV
  go_enter Tryd.func36, Tryd.ntmps36
  go_wp2_with fail
  refine (take_any N _ HI0.out).mono ?_
  rintro e w1 ⟨rfl, N', st⟩
  have HS : Hid _ := st
  clear st
  go_wp2_with fail
  go_ret
  exact ⟨rfl, N', HS.out.pre HT.out⟩

set_option maxRecDepth 100000 in
set_option maxHeartbeats 2000000 in
theorem stepA_tick_none (N : NetA) (a n m nonce mask : Int) (s : ByteArray) (w : World) (h : InvA w N) (hbig : N.hm + 4 ≤ 8796093022208) (he : N.S.en = N.os.length) :
    Calls Tryd.prog 36 #[.pointer (some ⟨N.bn, 0, none⟩), opV 4 a n m nonce mask s] w fun e w' => e = .returned (.bool true) ∧ ∃ N', StpA w N w' N' := by
  have hX := OpAt.mk' h.m 4 a n m nonce mask s
  have HS0 : Hid _ := (h.m.turn hX.turn).stp
  have HT : Hid _ := hX.turn
  have HI : Hid _ := h
  obtain ⟨f2, f1⟩ := h.l.shape.find_none he
  have F2 : Hid _ := f2
  have F1 : Hid _ := f1
  have hl5 := h.l.shape.n500
  have HE : Hid (N.S.en = N.S.l.length) := by rw [Hid, h.l.shape.len]; exact he
  have h4 := h.l.four
  have nlt0 : N.bn < w.heap.size := lt_of_heap h.m.hold.net
  have c0 := h.m.cells.1
  clear h hX he f1 f2
  unfold opV
  go_enter Tryd.func36, Tryd.ntmps36
  go_wp2_with fail
  rw [show w.alloc (.cells #[.int .i64 4, .int .i64 a, .int .i64 n, .int .i64 m, .int .u64 nonce, .int .u32 mask, .string s] 89) = w.alloc (.cells (opCells 4 a n m nonce mask s) 89) from rfl]
  generalize w.alloc (.cells (opCells 4 a n m nonce mask s) 89) = W at *
  refine (nTick_none HS0.out.m.net HE.out).mono ?_
  rintro e w1 ⟨rfl, F1', ha⟩
  have hs1 := HS0.out.ends ha
  have HS1 : Hid _ := hs1
  have m4 : w1.cell? ⟨N.bn, 4, none⟩ = some (.slice N.rsl N.os.length N.rcap) := by rw [cell_of_row _ _ _ _ _ _ hs1.m.hold.net]; rfl
  clear hs1 ha
  go_wp2_with fail
  refine (refTick_none N.bn N.rsl N.os.length N.rcap N.os _ m4 HS1.out.m.rth hl5 F2.out F1.out).mono ?_
  rintro e w2 ⟨rfl, hw2⟩
  subst hw2
  go_wp2_with fail
  refine (sentA_none false 0 0 HS1.out h4 hbig).mono ?_
  rintro e w3 ⟨rfl, hsl, hcap, va, vb, vc, hs3⟩
  have HS3 : Hid _ := hs3
  clear hs3
  go_wp2_with fail
  go_ret
  exact ⟨rfl, _, StpA.of HT.out HI.out.m HS3.out ((HI.out.l).kept F1' N.wsl N.wn N.wcap N.wx hsl hcap _ HI.out.l.posts) (Nat.le_refl _) (by show N.wn ≤ _; omega)⟩

set_option maxRecDepth 100000 in
set_option maxHeartbeats 2000000 in
theorem stepA_tick_fail (N : NetA) (a n m nonce mask : Int) (s : ByteArray) (w : World) (h : InvA w N) (hbig : N.hm + 4 ≤ 8796093022208) (o : Thing) (ho : N.os[N.S.en]? = some o) (hb : o.sent = (N.bud : Int)) :
    Calls Tryd.prog 36 #[.pointer (some ⟨N.bn, 0, none⟩), opV 4 a n m nonce mask s] w fun e w' => e = .returned (.bool true) ∧ ∃ N', StpA w N w' N' := by
  have hX := OpAt.mk' h.m 4 a n m nonce mask s
  have HS0 : Hid _ := (h.m.turn hX.turn).stp
  have HT : Hid _ := hX.turn
  have HI : Hid _ := h
  have hl5 := h.l.shape.n500
  have hk := (List.getElem?_eq_some_iff.1 ho).1
  have hpl := h.l.shape.len
  have hp : N.S.l[N.S.en]? = some o := by
    have e2 : N.S.l[N.S.en]? = some (N.S.l[N.S.en]'(by omega)) := List.getElem?_eq_getElem (by omega)
    rw [e2, h.l.shape.after N.S.en _ _ (Nat.le_refl _) ho e2]
  have HF : Hid _ := h.l.shape.find_some ho
  have HL : Hid (∀ F, InvL { N with F := F, S := N.S.done 4 o, os := N.os.set N.S.en { o with st := 4 } }) := fun F => h.l.objs (Same.set ho 4 o.sent) h.l.sblk h.l.sbud (h.l.shape.fail ho)
  have h4 := h.l.four
  have nlt0 : N.bn < w.heap.size := lt_of_heap h.m.hold.net
  have c0 := h.m.cells.1
  have HO : Hid _ := ho
  have HP : Hid _ := hp
  have HB : Hid (o.sent = (N.S.bud : Int)) := by rw [Hid, h.l.sbud]; exact hb
  have hb' : (N.bud : Int) ≤ o.sent := by omega
  clear h hX ho hp hb
  unfold opV
  go_enter Tryd.func36, Tryd.ntmps36
  go_wp2_with fail
  rw [show w.alloc (.cells #[.int .i64 4, .int .i64 a, .int .i64 n, .int .i64 m, .int .u64 nonce, .int .u32 mask, .string s] 89) = w.alloc (.cells (opCells 4 a n m nonce mask s) 89) from rfl]
  generalize w.alloc (.cells (opCells 4 a n m nonce mask s) 89) = W at *
  refine (nTick_fail HS0.out.m.net HP.out HB.out).mono ?_
  rintro e w1 ⟨rfl, F1', ha⟩
  have hs1 := HS0.out.ends ha
  have HS1 : Hid _ := hs1
  have m3 : w1.cell? ⟨N.bn, 3, none⟩ = some (.int .i64 N.bud) := by rw [cell_of_row _ _ _ _ _ _ hs1.m.hold.net]; rfl
  have m4 : w1.cell? ⟨N.bn, 4, none⟩ = some (.slice N.rsl N.os.length N.rcap) := by rw [cell_of_row _ _ _ _ _ _ hs1.m.hold.net]; rfl
  clear hs1 ha
  go_wp2_with fail
  refine (refTick_fail N.bn N.bud N.rsl N.os.length N.rcap N.S.en N.os o _ m3 m4 HS1.out.m.rth hl5 hk HO.out HF.out (cells_ne (by decide) HS1.out.m.hold.net HS1.out.m.rth.owns) hb').mono ?_
  rintro e w2 ⟨rfl, T2, R2⟩
  have HS2 : Hid _ := HS1.out.objs T2 R2 (by simp)
  clear T2 R2
  go_wp2_with fail
  refine (sentA_none false 0 0 HS2.out h4 hbig).mono ?_
  rintro e w3 ⟨rfl, hsl, hcap, va, vb, vc, hs3⟩
  have HS3 : Hid _ := hs3
  clear hs3
  go_wp2_with fail
  go_ret
  exact ⟨rfl, _, StpA.of HT.out HI.out.m HS3.out ((HL.out F1').kept F1' N.wsl N.wn N.wcap N.wx hsl hcap _ (HL.out F1').posts) (Nat.le_refl _) (by show N.wn ≤ _; omega)⟩

set_option maxRecDepth 100000 in
set_option maxHeartbeats 2000000 in
theorem stepA_tick_send (N : NetA) (a n m nonce mask : Int) (s : ByteArray) (w : World) (h : InvA w N) (hbig : N.hm + 4 ≤ 8796093022208) (hwn : N.wn ≤ 2199023255552) (o : Thing) (ho : N.os[N.S.en]? = some o) (hb : o.sent < (N.bud : Int)) :
    Calls Tryd.prog 36 #[.pointer (some ⟨N.bn, 0, none⟩), opV 4 a n m nonce mask s] w fun e w' => e = .returned (.bool true) ∧ ∃ N', StpA w N w' N' := by
  have hX := OpAt.mk' h.m 4 a n m nonce mask s
  have HS0 : Hid _ := (h.m.turn hX.turn).stp
  have HT : Hid _ := hX.turn
  have HI : Hid _ := h
  have hl5 := h.l.shape.n500
  have hk := (List.getElem?_eq_some_iff.1 ho).1
  have hpl := h.l.shape.len
  obtain ⟨hs0, _, hd⟩ := h.l.shape.sent N.S.en o (Nat.le_refl _) ho
  have hbu := h.l.bud2
  have hb1 := h.l.blk1
  have hb2 := h.l.blk2
  have hp : N.S.l[N.S.en]? = some o := by
    have e2 : N.S.l[N.S.en]? = some (N.S.l[N.S.en]'(by omega)) := List.getElem?_eq_getElem (by omega)
    rw [e2, h.l.shape.after N.S.en _ _ (Nat.le_refl _) ho e2]
  have HF : Hid _ := h.l.shape.find_some ho
  have HL : Hid (∀ F, InvL { N with F := F, S := N.S.sentOne o, os := N.os.set N.S.en { o with st := 2, sent := o.sent + 1 } }) := fun F => h.l.objs (Same.set ho 2 (o.sent + 1)) h.l.sblk h.l.sbud (h.l.shape.send ho hb)
  have h4 := h.l.four
  have nlt0 : N.bn < w.heap.size := lt_of_heap h.m.hold.net
  have c0 := h.m.cells.1
  have HO : Hid _ := ho
  have HP : Hid _ := hp
  have HB : Hid (o.sent < (N.S.bud : Int)) := by rw [Hid, h.l.sbud]; exact hb
  have HSB : Hid _ := h.l.sblk
  have k0 : (0 : Int) ≤ (N.S.en : Int) := by omega
  have fsz := frameOf_size (N.S.en + 1) N.blk o
  have hpos := h.m.net.pos
  clear h hX ho hp
  unfold opV
  go_enter Tryd.func36, Tryd.ntmps36
  go_wp2_with fail
  rw [show w.alloc (.cells #[.int .i64 4, .int .i64 a, .int .i64 n, .int .i64 m, .int .u64 nonce, .int .u32 mask, .string s] 89) = w.alloc (.cells (opCells 4 a n m nonce mask s) 89) from rfl]
  generalize w.alloc (.cells (opCells 4 a n m nonce mask s) 89) = W at *
  refine (nTick_send HS0.out.m.net HP.out HB.out).mono ?_
  rintro e w1 ⟨G, rfl, hG, hGc, F1', ha, hGF⟩
  rw [HSB.out] at hGc
  have hs1 := HS0.out.ends ha
  have HS1 : Hid _ := hs1
  have m3 : w1.cell? ⟨N.bn, 3, none⟩ = some (.int .i64 N.bud) := by rw [cell_of_row _ _ _ _ _ _ hs1.m.hold.net]; rfl
  have m4 : w1.cell? ⟨N.bn, 4, none⟩ = some (.slice N.rsl N.os.length N.rcap) := by rw [cell_of_row _ _ _ _ _ _ hs1.m.hold.net]; rfl
  have HGC : Hid _ := hGc
  have HGF : Hid _ := hGF
  clear hs1 ha hGc hGF
  go_wp2_with fail
  refine (refTick_send N.bn N.bud N.rsl N.os.length N.rcap N.S.en N.os o _ m3 m4 HS1.out.m.rth hl5 hk HO.out HF.out (cells_ne (by decide) HS1.out.m.hold.net HS1.out.m.rth.owns) hs0 hb (by omega)).mono ?_
  rintro e w2 ⟨rfl, T2, R2⟩
  have hGr : G ∉ (Value.slice N.rsl N.os.length N.rcap).ownBlock.toList := fun hm => cells_ne (by decide) HGC.out HS1.out.m.rth.owns (by simpa using hm)
  have HG2 : Hid _ := T2.cells HGC.out hGr
  have HS2 : Hid _ := HS1.out.objs T2 R2 (by simp)
  have HRO : Hid (G ∉ N.hs.filterMap Value.ownBlock) := fun hm => by
    have := HS0.out.m.ro_lt G (List.mem_append_left _ hm)
    omega
  clear T2 R2 hGr
  go_wp2_with fail
  refine (sentA_one false _ _ G (frameOf (N.S.en + 1) N.blk o) HS2.out h4 hbig hwn HG2.out (by omega) (by omega) hG HGF.out HRO.out HS0.out.m.net.pos).mono ?_
  rintro e w3 ⟨rfl, wsl, wcap, hsl, hcap, va, vb, vc, hs3⟩
  have HS3 : Hid _ := hs3
  clear hs3
  go_wp2_with fail
  go_ret
  refine ⟨rfl, _, StpA.of HT.out HI.out.m HS3.out ((HL.out F1').kept F1' wsl (N.wn + 1) wcap _ hsl hcap _ (posts_push HI.out.m.way.owns.1 (HL.out F1').posts false _ _ _ ?_)) (Nat.le_refl _) (Nat.le_refl _)⟩
  refine ⟨N.S.en, rfl, fun e => by simp at e, fun _ => ⟨o.sent.toNat, { o with st := 2, sent := o.sent + 1 }, by omega, by omega, ?_, ?_⟩⟩
  · show (N.os.set N.S.en _)[N.S.en]? = _
    rw [List.getElem?_set_self hk]
  · show bytesOf (frameOf (N.S.en + 1) N.blk o) = fText (N.S.en + 1) N.blk (Dz.rowOf o.nonce (blocksOf o.data.size N.blk) ((o.sent.toNat : Nat) : Int)) o.data
    rw [fText_frame, Int.toNat_of_nonneg hs0]

theorem stepA_tick (N : NetA) (a n m nonce mask : Int) (s : ByteArray) (w : World) (h : InvA w N) (hbig : N.hm + 4 ≤ 8796093022208) (hwn : N.wn ≤ 2199023255552) :
    Calls Tryd.prog 36 #[.pointer (some ⟨N.bn, 0, none⟩), opV 4 a n m nonce mask s] w fun e w' => e = .returned (.bool true) ∧ ∃ N', StpA w N w' N' := by
  have hle := h.l.shape.le
  by_cases he : N.S.en = N.os.length
  · exact stepA_tick_none N a n m nonce mask s w h hbig he
  · have ho : N.os[N.S.en]? = some (N.os[N.S.en]'(by omega)) := List.getElem?_eq_getElem (by omega)
    have hs := h.l.shape.sent N.S.en _ (Nat.le_refl _) ho
    by_cases hb : (N.os[N.S.en]'(by omega)).sent = (N.bud : Int)
    · exact stepA_tick_fail N a n m nonce mask s w h hbig _ ho hb
    · exact stepA_tick_send N a n m nonce mask s w h hbig hwn _ ho (by omega)
end Go.Proofs.YtfbbidaoljfloaaDoor
