import Derived.Test.YtfbbidaoljfloaaDoorV3
import Derived.Test.YtfbbidaoljfloaaDoorJ34
import Derived.Test.YtfbbidaoljfloaaDoorR8
namespace Go.Proofs.YtfbbidaoljfloaaDoor
open Go.RowKit Go.MuLone

/-- Two lists of different kinds lie apart. -/
theorem own_ne {w : World} {e e' : TypeId} (he : e ≠ e') {s s' n n' : Nat} {xs xs' : List Value} {v v' : Value} (h : w.ownsRow 0 e s v n xs) (h' : w.ownsRow 0 e' s' v' n' xs') : ∀ k, v.ownBlock = some k → v'.ownBlock ≠ some k := fun k hk hk' => by
  rcases h.2 with ⟨rfl, _⟩ | ⟨o, cap, cur, rfl, _, hcur, _⟩
  · simp [Value.ownBlock] at hk
  · rcases h'.2 with ⟨rfl, _⟩ | ⟨o', cap', cur', rfl, _, hcur', _⟩
    · simp [Value.ownBlock] at hk'
    · obtain rfl : o = k := by simpa [Value.ownBlock] using hk
      obtain rfl : o' = o := by simpa [Value.ownBlock] using hk'
      rw [hcur] at hcur'
      simp at hcur'
      exact he hcur'.2
theorem cells_ne {w : World} {e T : TypeId} (he : e ≠ T) {b s n : Nat} {c : Array Value} {fr : Nat × Nat} {xs : List Value} {v : Value} (hb : w.heap[b]? = some (.cells c T fr)) (h : w.ownsRow 0 e s v n xs) : v.ownBlock ≠ some b := fun hk => by
  rcases h.2 with ⟨rfl, _⟩ | ⟨o, cap, cur, rfl, _, hcur, _⟩
  · simp [Value.ownBlock] at hk
  · obtain rfl : o = b := by simpa [Value.ownBlock] using hk
    rw [hb] at hcur
    simp at hcur
    exact he hcur.2.1.symm

/-- The state of a network with both ends, told plainly. -/
structure NetA where
  bn : Nat
  bs : Nat
  br : Nat
  blk : Nat
  bud : Nat
  F : List Nat
  S : SV
  V : RV
  os : List Thing
  rsl : Option Addr
  rcap : Nat
  last : Nat
  K : Nat
  gv : Value
  gs : List Nat
  rs : List Nat
  dv : Value
  dl : List Nat
  taken : Nat
  wsl : Option Addr
  wn : Nat
  wcap : Nat
  wx : List Value
  hsl : Option Addr
  hm : Nat
  hcap : Nat
  hs : List Value

namespace NetA
def X (N : NetA) : Mid := ⟨.pointer (some ⟨N.br, 0, none⟩), .int .i64 N.last, .int .i64 N.K, N.gv, N.dv, .int .i64 N.taken⟩
def rv (N : NetA) : Value := .slice N.rsl N.os.length N.rcap
def wv (N : NetA) : Value := .slice N.wsl N.wn N.wcap
def hv (N : NetA) : Value := .slice N.hsl N.hm N.hcap
def ds (N : NetA) : List ByteArray := N.os.map (·.data)
/-- The law's own blocks that may be written. -/
def lows (N : NetA) : List Nat := N.bn :: (N.rv.ownBlock.toList ++ N.wv.ownBlock.toList ++ N.hv.ownBlock.toList ++ N.gv.ownBlock.toList ++ N.dv.ownBlock.toList)
/-- Those that are only read. -/
def ros (N : NetA) : List Nat := N.hs.filterMap Value.ownBlock ++ N.gs
def blocks (N : NetA) : List Nat := N.lows ++ N.F
end NetA

/-- A frame on its way is one that was sent. -/
def PostOk (N : NetA) (b : Bool) (s : ByteArray) (n d : Int) : Prop :=
  ∃ k : Nat, n = (k : Int) + 1 ∧ (b = true → k < 500 ∧ k + 1 ∈ N.dl ∧ bytesOf s = doneB (k + 1) N.blk) ∧
    (b = false → ∃ (i : Nat) (o : Thing), d = (i : Int) ∧ i < 1048576 ∧ N.os[k]? = some o ∧ bytesOf s = fText (k + 1) N.blk (Dz.rowOf o.nonce (blocksOf o.data.size N.blk) i) o.data)

/-- .. in memory. -/
structure InvM (w : World) (N : NetA) : Prop where
  hold : HoldAt w N.bn N.bs N.X N.blk N.bud N.rv N.wv N.hsl N.hm N.hcap N.hs
  way : WayAt w N.bn N.wsl N.wn N.wcap N.wx
  net : Net w N.bs N.br N.F N.S N.V
  rth : Things w 158 N.rsl N.os.length N.rcap N.os
  rl : RL w 0 N.gv N.K N.gs N.rs
  r0 : N.rs = [] → N.gv = .slice none 0 0
  nl : NL w N.dv N.dl
  lists : ∀ i (hi : i < N.hs.length), HeldList w (markOf (i / 4)) N.hs[i]
  low : ∀ k ∈ N.lows, k ∉ N.F
  ro : ∀ k ∈ N.ros, k ∉ N.F
  pos : 0 ∉ N.lows
/-- .. in numbers. -/
structure InvL (N : NetA) : Prop where
  sblk : N.S.blk = N.blk
  sbud : N.S.bud = N.bud
  shape : Shape N.blk N.bud N.S.en N.os N.S.l
  get : GetIs N.V N.blk N.ds N.last N.K N.rs N.dl
  odat : ∀ (i : Nat) (o : Thing), N.os[i]? = some o → o.data.size ≤ 32 * N.blk
  tk : N.taken ≤ N.dl.length
  ready : N.V.ready.length + N.taken = N.dl.length ∧ ∀ (i n : Nat) (o : Thing), N.dl[N.taken + i]? = some (n + 1) → N.os[n]? = some o → N.V.ready[i]? = some (o.data, n + 1)
  posts : ∀ i, i < N.wn → ∃ b s n d, N.wx[i * 4]? = some (.bool b) ∧ N.wx[i * 4 + 1]? = some (.string s) ∧ N.wx[i * 4 + 2]? = some (.int .i64 n) ∧ N.wx[i * 4 + 3]? = some (.int .i64 d) ∧ PostOk N b s n d
  blk1 : 1 ≤ N.blk
  blk2 : N.blk ≤ 32
  bud1 : 1 ≤ N.bud
  bud2 : N.bud ≤ 1000
  four : ∃ q, N.hm = 4 * q
  nrs : 4 * N.rs.length ≤ N.hm
structure InvA (w : World) (N : NetA) : Prop where
  m : InvM w N
  l : InvL N

theorem InvM.lt {w : World} {N : NetA} (h : InvM w N) : ∀ k ∈ N.lows, k < w.heap.size := fun k hk => by
  simp only [NetA.lows, List.mem_cons, List.mem_append, Option.mem_toList] at hk
  rcases hk with r | ((((r | r) | r) | r) | r)
  · rw [r]; exact lt_of_heap h.hold.net
  · exact owns_lt h.rth.owns r
  · exact owns_lt h.way.owns r
  · exact owns_lt h.hold.owns r
  · exact owns_lt h.rl.owns r
  · exact owns_lt h.nl.owns r
theorem InvM.ro_lt {w : World} {N : NetA} (h : InvM w N) : ∀ k ∈ N.ros, k < w.heap.size := fun k hk => by
  rcases List.mem_append.1 hk with q | q
  · obtain ⟨v, hv, hk⟩ := List.mem_filterMap.1 q
    obtain ⟨i, hi, rfl⟩ := List.mem_iff_getElem.1 hv
    obtain ⟨sl, n, cap, e, _, ho⟩ := h.lists i hi
    rw [e] at hk
    rw [e] at ho
    exact owns_lt ho hk
  · obtain ⟨i, hi⟩ := List.getElem?_of_mem q
    have hlt := (List.getElem?_eq_some_iff.1 hi).1
    obtain ⟨r, hr⟩ : ∃ r, N.rs[i]? = some r := ⟨_, List.getElem?_eq_getElem (by rw [← h.rl.len]; exact hlt)⟩
    exact World.rowIs.lt (h.rl.at_ i k r hi hr)

/-- The two ends do something: what the law holds stays. -/
theorem InvM.law {Z : List Nat} {w w' : World} {N : NetA} (h : InvM w N) (ht : Turn Z w w') (h1 : ∀ k ∈ N.lows, k ∉ Z) (h2 : ∀ k ∈ N.ros, k ∉ Z) :
    HoldAt w' N.bn N.bs N.X N.blk N.bud N.rv N.wv N.hsl N.hm N.hcap N.hs ∧ WayAt w' N.bn N.wsl N.wn N.wcap N.wx ∧ Things w' 158 N.rsl N.os.length N.rcap N.os ∧ RL w' 0 N.gv N.K N.gs N.rs ∧ NL w' N.dv N.dl ∧ (∀ i (hi : i < N.hs.length), HeldList w' (markOf (i / 4)) N.hs[i]) := by
  have m : ∀ (v : Value) (k : Nat), v ∈ [N.rv, N.wv, N.hv, N.gv, N.dv] → v.ownBlock = some k → k ∉ Z := fun v k hv hk => h1 k (by
    simp only [NetA.lows, List.mem_cons, List.mem_append, Option.mem_toList]
    simp at hv
    rcases hv with rfl | rfl | rfl | rfl | rfl <;> simp [hk])
  refine ⟨h.hold.turn ht (h1 _ (by simp [NetA.lows])) (fun k hk => m N.hv k (by simp) hk), h.way.turn ht (fun k hk => m N.wv k (by simp) hk), h.rth.turn ht (fun k hk => m N.rv k (by simp) hk), h.rl.turn ht (fun k hk => m N.gv k (by simp) hk) (fun g hg => h2 g (List.mem_append_right _ hg)), h.nl.turn ht (fun k hk => m N.dv k (by simp) hk), fun i hi => (h.lists i hi).turn ht (fun k hk => h2 k (List.mem_append_left _ (List.mem_filterMap.2 ⟨_, List.getElem_mem hi, hk⟩)))⟩

end Go.Proofs.YtfbbidaoljfloaaDoor


namespace Go.Proofs.YtfbbidaoljfloaaDoor
open Go.RowKit Go.MuLone

/-- What a step on a network does. -/
structure StpA (w : World) (N : NetA) (w' : World) (N' : NetA) : Prop where
  inv : InvA w' N'
  turn : Turn N.blocks w w'
  bn : N'.bn = N.bn
  blocks : ∀ k ∈ N'.blocks, k ∈ N.blocks ∨ w.heap.size ≤ k
  ros : ∀ k ∈ N'.ros, k ∈ N.ros ∨ w.heap.size ≤ k
  hm : N'.hm ≤ N.hm + 4
  wn : N'.wn ≤ N.wn + 1

/-- The two ends have done something. -/
theorem InvM.ends {w w' : World} {N : NetA} {F' : List Nat} {S' : SV} {V' : RV} (h : InvM w N) (ha : NAft w w' N.bs N.br N.F F' S' V') : InvM w' { N with F := F', S := S', V := V' } := by
  obtain ⟨q1, q2, q3, q4, q5, q6⟩ := h.law ha.turn h.low h.ro
  refine ⟨q1, q2, ha.net, q3, q4, h.r0, q5, q6, fun k hk hm => ?_, fun k hk hm => ?_, h.pos⟩
  · rcases ha.foot k hm with q | q
    · exact h.low k hk q
    · have := h.lt k hk; omega
  · rcases ha.foot k hm with q | q
    · exact h.ro k hk q
    · have := h.ro_lt k hk; omega
theorem foot_blocks {w w' : World} {N : NetA} {F' : List Nat} {S' : SV} {V' : RV} (ha : NAft w w' N.bs N.br N.F F' S' V') : ∀ k ∈ N.lows ++ F', k ∈ N.blocks ∨ w.heap.size ≤ k := fun k hk => by
  rcases List.mem_append.1 hk with q | q
  · exact .inl (List.mem_append_left _ q)
  · rcases ha.foot k q with q | q
    · exact .inl (List.mem_append_right _ q)
    · exact .inr q
theorem InvA.ends {w w' : World} {N : NetA} {F' : List Nat} {S' : SV} {V' : RV} (h : InvA w N) (ha : NAft w w' N.bs N.br N.F F' S' V') (hl : InvL { N with F := F', S := S', V := V' }) : StpA w N w' { N with F := F', S := S', V := V' } :=
  ⟨⟨h.m.ends ha, hl⟩, ha.turn.mono (fun x hx => List.mem_append_right _ hx), rfl, foot_blocks ha, fun k hk => .inl hk, by show N.hm ≤ _; omega, by show N.wn ≤ _; omega⟩
/-- .. but nothing has come of it. -/
theorem InvA.same {w w' : World} {N : NetA} {F' : List Nat} (h : InvA w N) (ha : NAft w w' N.bs N.br N.F F' N.S N.V) : StpA w N w' { N with F := F' } := h.ends ha ⟨h.l.sblk, h.l.sbud, h.l.shape, h.l.get, h.l.odat, h.l.tk, h.l.ready, h.l.posts, h.l.blk1, h.l.blk2, h.l.bud1, h.l.bud2, h.l.four, h.l.nrs⟩

theorem InvM.cells {w : World} {N : NetA} (h : InvM w N) : w.cell? ⟨N.bn, 0, none⟩ = some (.pointer (some ⟨N.bs, 0, none⟩)) ∧ w.cell? ⟨N.bn, 1, none⟩ = some (.pointer (some ⟨N.br, 0, none⟩)) :=
  ⟨by rw [cell_of_row _ _ _ _ _ _ h.hold.net]; rfl, by rw [cell_of_row _ _ _ _ _ _ h.hold.net]; rfl⟩

set_option maxRecDepth 100000 in
set_option maxHeartbeats 800000 in
theorem nothing_up (N : NetA) (s : ByteArray) (w : World) (h : InvA w N) (hS : N.S.handle (bytesOf s) = N.S) :
    Calls Tryd.prog 66 #[.pointer (some ⟨N.bn, 0, none⟩), .bool true, .string s] w fun e w' => e = .returned (.bool true) ∧ ∃ N', StpA w N w' N' := by
  obtain ⟨c0, c1⟩ := h.m.cells
  have HI : Hid _ := h
  clear h
  go_enter Tryd.func66, Tryd.ntmps66
  go_wp2_with fail
  refine (nSHandle s HI.out.m.net).mono ?_
  rintro e1 w1 ⟨rfl, F1, ha⟩
  rw [hS] at ha
  have HS : Hid _ := HI.out.same ha
  clear ha
  go_wp2_with fail
  go_ret
  exact ⟨rfl, _, HS.out⟩

set_option maxRecDepth 100000 in
set_option maxHeartbeats 800000 in
theorem nothing_down (N : NetA) (s : ByteArray) (w : World) (h : InvA w N) (hm : s.size ≤ 4611686018427387904) (hV : N.V.handle (bytesOf s) = (N.V, none)) :
    Calls Tryd.prog 66 #[.pointer (some ⟨N.bn, 0, none⟩), .bool false, .string s] w fun e w' => e = .returned (.bool true) ∧ ∃ N', StpA w N w' N' := by
  obtain ⟨c0, c1⟩ := h.m.cells
  have HI : Hid _ := h
  clear h
  go_enter Tryd.func66, Tryd.ntmps66
  go_wp2_with fail
  refine (nHandle s HI.out.m.net hm).mono ?_
  rintro e1 w1 ⟨F1, ha, hans⟩
  rw [hV] at ha hans
  obtain rfl := hans.none_ rfl
  have HS : Hid _ := HI.out.same ha
  clear ha hans
  go_wp2_with fail
  go_ret
  exact ⟨rfl, _, HS.out⟩

/-- What is too short or too long is no frame. -/
theorem short_sender {S : SV} {bs : List Nat} (h : bs.length ≠ 8) : S.handle bs = S := by
  unfold SV.handle
  cases S.l[S.en]? with
  | none => rfl
  | some o =>
    simp only
    rw [if_neg (fun q => h (by rw [q.2, doneB_len]))]
theorem short_receiver {V : RV} {bs : List Nat} (h : bs.length ≠ V.blk + 13) (hb : ∀ b ∈ bs, b < 256) : V.handle bs = (V, none) := by
  unfold RV.handle
  cases hr : readS bs V.blk with
  | none => rfl
  | some x =>
    obtain ⟨x1, x2, x3, ns⟩ := x
    exact absurd (readS_facts hb hr).1 h
/-- A frame that comes back to the side that sent it. -/
theorem cross_up {S : SV} {num blk row : Nat} {d : ByteArray} (hb : 1 ≤ blk) : S.handle (fText num blk row d) = S := short_sender (by rw [fText, sumText_len, sumRow_len]; omega)
theorem cross_down {V : RV} {num : Nat} (hv : RVOk V) : V.handle (doneB num V.blk) = (V, none) := short_receiver (by rw [doneB_len]; have := hv.b1; omega) (doneB_lt _ _)

end Go.Proofs.YtfbbidaoljfloaaDoor


namespace Go.Proofs.YtfbbidaoljfloaaDoor
open Go.RowKit Go.MuLone

theorem HeldList.ne {w : World} {m : ByteArray} {v : Value} (h : HeldList w m v) {T : TypeId} (hT : 9 ≠ T) {b : Nat} {c : Array Value} {fr : Nat × Nat} (hb : w.heap[b]? = some (.cells c T fr)) : v.ownBlock ≠ some b := by
  obtain ⟨sl, n, cap, rfl, _, ho⟩ := h
  exact cells_ne hT hb ho
theorem RL.far {w : World} {B : Nat} {v : Value} {K : Nat} {gs rs : List Nat} (h : RL w B v K gs rs) {T : TypeId} (hT : T ≠ 4) {b : Nat} {c : Array Value} {fr : Nat × Nat} (hb : w.heap[b]? = some (.cells c T fr)) : b ∉ gs := fun hg => by
  obtain ⟨i, hi⟩ := List.getElem?_of_mem hg
  have hlt := (List.getElem?_eq_some_iff.1 hi).1
  obtain ⟨r, hr⟩ : ∃ r, rs[i]? = some r := ⟨_, List.getElem?_eq_getElem (by rw [← h.len]; exact hlt)⟩
  obtain ⟨d, hd, _⟩ := h.at_ i b r hi hr
  rw [hb] at hd
  simp at hd
  exact hT hd.2.1

/-- The network's own block alone is turned. -/
theorem InvM.mid {w w' : World} {N : NetA} (h : InvM w N) (T : Turn [N.bn] w w') : WayAt w' N.bn N.wsl N.wn N.wcap N.wx ∧ Net w' N.bs N.br N.F N.S N.V ∧ Things w' 158 N.rsl N.os.length N.rcap N.os ∧ RL w' 0 N.gv N.K N.gs N.rs ∧ NL w' N.dv N.dl ∧ (∀ i (hi : i < N.hs.length), HeldList w' (markOf (i / 4)) N.hs[i]) ∧ w'.ownsRow 0 38 1 N.hv N.hm N.hs := by
  have hb := h.hold.net
  have hbn : N.bn ∈ N.lows := by simp [NetA.lows]
  refine ⟨h.way.turn T (fun k hk hm => ?_), h.net.turn T (fun g hg hm => ?_) (fun hm => ?_), h.rth.turn T (fun k hk hm => ?_), h.rl.turn T (fun k hk hm => ?_) (fun g hg hm => ?_), h.nl.turn T (fun k hk hm => ?_), fun i hi => (h.lists i hi).turn T (fun k hk hm => ?_), T.owns h.hold.owns (fun k hk hm => ?_)⟩
  · simp at hm; subst hm; exact cells_ne (by decide) hb h.way.owns hk
  · simp at hm; subst hm; exact h.low _ hbn hg
  · simp at hm; exact h.pos (by rw [hm]; exact hbn)
  · simp at hm; subst hm; exact cells_ne (by decide) hb h.rth.owns hk
  · simp at hm; subst hm; exact cells_ne (by decide) hb h.rl.owns hk
  · simp at hm; subst hm; exact h.rl.far (by decide) hb hg
  · simp at hm; subst hm; exact cells_ne (by decide) hb h.nl.owns hk
  · simp at hm; subst hm; exact (h.lists i hi).ne (by decide) hb hk
  · simp at hm; subst hm; exact cells_ne (by decide) hb h.hold.owns hk

theorem hold_set {w : World} {N : NetA} (h : InvM w N) (j : Nat) (v : Value) (X : Mid) (hX : (netX N.bs N.X N.blk N.bud N.rv N.wv N.hv).setIfInBounds j v = netX N.bs X N.blk N.bud N.rv N.wv N.hv) : HoldAt (w.setCell ⟨N.bn, j, none⟩ v) N.bn N.bs X N.blk N.bud N.rv N.wv N.hsl N.hm N.hcap N.hs := by
  have T : Turn [N.bn] w (w.setCell ⟨N.bn, j, none⟩ v) := (Turn.refl [N.bn] w).setCell (.inl (by simp)) _
  refine ⟨?_, (h.mid T).2.2.2.2.2.2, h.hold.apart, h.hold.len⟩
  have := heap_setCell_same w N.bn j _ _ v h.hold.net
  rw [show netX N.bs N.X N.blk N.bud N.rv N.wv (.slice N.hsl N.hm N.hcap) = netX N.bs N.X N.blk N.bud N.rv N.wv N.hv from rfl, hX] at this
  exact this

/-- One was taken. -/
theorem InvA.took {w w1 : World} {N : NetA} {F1 : List Nat} {p : ByteArray × Nat} {l : Parcels} (h : InvA w N) (hp : N.V.ready = p :: l) (ha : NAft w w1 N.bs N.br N.F F1 N.S { N.V with ready := l }) :
    StpA w N (w1.setCell ⟨N.bn, 9, none⟩ (.int .i64 ((N.taken : Int) + 1))) { N with F := F1, V := { N.V with ready := l }, taken := N.taken + 1 } := by
  have h1 : InvM w1 { N with F := F1, V := { N.V with ready := l } } := h.m.ends ha
  have T : Turn [N.bn] w1 (w1.setCell ⟨N.bn, 9, none⟩ (.int .i64 ((N.taken : Int) + 1))) := (Turn.refl [N.bn] w1).setCell (.inl (by simp)) _
  obtain ⟨m1, m2, m3, m4, m5, m6, m7⟩ := h1.mid T
  have hH := hold_set h1 9 (.int .i64 ((N.taken : Int) + 1)) ({ N with F := F1, V := { N.V with ready := l }, taken := N.taken + 1 } : NetA).X rfl
  have hlen : l.length + 1 + N.taken = N.dl.length := by
    have := h.l.ready.1
    rw [hp] at this
    simpa using this
  refine ⟨⟨⟨hH, m1, m2, m3, m4, h1.r0, m5, m6, h1.low, h1.ro, h1.pos⟩, ⟨h.l.sblk, h.l.sbud, h.l.shape, h.l.get.take l, h.l.odat, ?_, ⟨?_, fun i n o hd ho => ?_⟩, h.l.posts, h.l.blk1, h.l.blk2, h.l.bud1, h.l.bud2, h.l.four, h.l.nrs⟩⟩, ?_, rfl, foot_blocks ha, fun k hk => .inl hk, by show N.hm ≤ _; omega, by show N.wn ≤ _; omega⟩
  · show N.taken + 1 ≤ N.dl.length
    omega
  · show l.length + (N.taken + 1) = N.dl.length
    omega
  · have := h.l.ready.2 (i + 1) n o (by rw [← hd]; show N.dl[N.taken + (i + 1)]? = N.dl[N.taken + 1 + i]?; congr 1; omega) ho
    rw [hp] at this
    simpa using this
  · exact (ha.turn.mono (fun x hx => List.mem_append_right _ hx)).setCell (.inl (by simp [NetA.lows])) _

set_option maxRecDepth 100000 in
set_option maxHeartbeats 1600000 in
theorem take_any (N : NetA) (w : World) (h : InvA w N) :
    Calls Tryd.prog 64 #[.pointer (some ⟨N.bn, 0, none⟩)] w fun e w' => e = .returned (.bool true) ∧ ∃ N', StpA w N w' N' := by
  obtain ⟨c0, c1⟩ := h.m.cells
  have HI : Hid _ := h
  obtain ⟨dsl, dcap, hdv⟩ := h.m.nl.shape
  have htk := h.l.tk
  have hrdy := h.l.ready
  clear h
  go_enter Tryd.func64, Tryd.ntmps64
  go_wp2_with fail
  by_cases hall : N.taken = N.dl.length
  · have hr0 : N.V.ready = [] := List.length_eq_zero_iff.1 (by omega)
    refine (nTake_none HI.out.m.net hr0).mono ?_
    rintro e1 w1 ⟨rfl, F1, ha⟩
    have hS := HI.out.same ha
    have c8 : w1.cell? ⟨N.bn, 8, none⟩ = some (.slice dsl N.dl.length dcap) := by
      rw [cell_of_row _ _ _ _ _ _ hS.inv.m.hold.net, ← hdv]; rfl
    have c9 : w1.cell? ⟨N.bn, 9, none⟩ = some (.int .i64 N.taken) := by
      rw [cell_of_row _ _ _ _ _ _ hS.inv.m.hold.net]; rfl
    have HS : Hid _ := hS
    have g1 : decide ((N.dl.length : Int) ≤ (N.taken : Int)) = true := by simp; omega
    have q : (ByteArray.empty.toList == ({ data := #[] } : ByteArray).toList) = true := by
      rw [show ({ data := #[] } : ByteArray) = ByteArray.empty from rfl]
      simp
    clear ha hS hrdy
    go_wp2_with fail
    refine (num_any 5 _).mono ?_
    rintro e1 w2 ⟨rfl, rfl⟩
    go_wp2_with fail
    go_ret
    exact ⟨rfl, _, HS.out⟩
  · obtain ⟨m, hm⟩ : ∃ m, N.dl[N.taken]? = some m := ⟨_, List.getElem?_eq_getElem (by omega)⟩
    obtain ⟨hm1, hm2⟩ := HI.out.l.get.dle m (List.mem_of_getElem? hm)
    obtain ⟨n, rfl⟩ : ∃ n, m = n + 1 := ⟨m - 1, by omega⟩
    have hle := HI.out.l.get.le
    have hnl : n < N.os.length := by simp [NetA.ds] at hle; omega
    obtain ⟨o, ho⟩ : ∃ o, N.os[n]? = some o := ⟨_, List.getElem?_eq_getElem hnl⟩
    have hr1 := hrdy.2 0 n o (by simpa using hm) ho
    obtain ⟨l, hl⟩ : ∃ l, N.V.ready = (o.data, n + 1) :: l := by
      cases hq : N.V.ready with
      | nil => rw [hq] at hr1; simp at hr1
      | cons p l => rw [hq] at hr1; simp at hr1; exact ⟨l, by rw [hr1]⟩
    refine (nTake_some HI.out.m.net hl).mono ?_
    rintro e1 w1 ⟨rfl, F1, ha⟩
    have hS := HI.out.took hl ha
    have h1 : InvM w1 { N with F := F1, V := { N.V with ready := l } } := HI.out.m.ends ha
    have n1 := h1.hold.net
    have c8 : w1.cell? ⟨N.bn, 8, none⟩ = some (.slice dsl N.dl.length dcap) := by
      rw [cell_of_row _ _ _ _ _ _ n1, ← hdv]; rfl
    have c9 : w1.cell? ⟨N.bn, 9, none⟩ = some (.int .i64 N.taken) := by
      rw [cell_of_row _ _ _ _ _ _ n1]; rfl
    have zf : w1.frozen? ⟨N.bn, 9, none⟩ = false := frozen_of_row _ _ _ _ _ n1
    have g1 : decide ((N.dl.length : Int) ≤ (N.taken : Int)) = false := by simp; omega
    have HS : Hid _ := hS
    obtain ⟨o8, dcap2, hsl8, h8⟩ := hS.inv.m.nl.get (i := N.taken) (n := n + 1) hm
    obtain ⟨rfl, rfl⟩ : dsl = some ⟨o8, 0, none⟩ ∧ dcap = dcap2 := by
      have e : Value.slice dsl N.dl.length dcap = .slice (some ⟨o8, 0, none⟩) N.dl.length dcap2 := hdv.symm.trans hsl8
      injection e with a b c
      exact ⟨a, c⟩
    obtain ⟨g, o2, hgs, ho2, k0, _⟩ := hS.inv.m.rth.at (k := n) hnl
    obtain rfl : o = o2 := by
      have ho2 : N.os[n]? = some o2 := ho2
      rw [ho] at ho2
      simpa using ho2
    have n2 := hS.inv.m.hold.net
    have y8 : (w1.setCell ⟨N.bn, 9, none⟩ (.int .i64 ((N.taken : Int) + 1))).cell? ⟨N.bn, 8, none⟩ = some (.slice (some ⟨o8, 0, none⟩) N.dl.length dcap) := by
      rw [cell_of_row _ _ _ _ _ _ n2, ← hdv]; rfl
    have y4 : (w1.setCell ⟨N.bn, 9, none⟩ (.int .i64 ((N.taken : Int) + 1))).cell? ⟨N.bn, 4, none⟩ = some (.slice (some ⟨g, 0, none⟩) N.os.length N.rcap) := by
      rw [cell_of_row _ _ _ _ _ _ n2, ← hgs]; rfl
    have q : (o.data.toList == o.data.toList) = true := by simp
    have t0 : (0 : Int) ≤ (N.taken : Int) := by omega
    have t1 : (N.taken : Int) < (N.dl.length : Int) := by omega
    have t2 : (0 : Int) ≤ (n : Int) := by omega
    have t3 : (n : Int) < (N.os.length : Int) := by omega
    have t4 : N.taken ≤ 1000000 := by
      have a1 := HI.out.l.get.len.1
      have a2 := HI.out.l.shape.n500
      simp [NetA.ds] at hle
      omega
    have t5 : n ≤ 500 := by have := HI.out.l.shape.n500; omega
    clear ha hS h1 n1 n2 hrdy hr1
    go_upto_region 6 with fail
    generalize w1.setCell ⟨N.bn, 9, none⟩ (.int .i64 ((N.taken : Int) + 1)) = w2 at *
    go_wp2_with fail
    go_ret
    exact ⟨rfl, _, HS.out⟩
end Go.Proofs.YtfbbidaoljfloaaDoor


namespace Go.Proofs.YtfbbidaoljfloaaDoor
open Go.RowKit Go.MuLone

theorem Shape.done {blk bud en : Nat} {os ps : List Thing} (h : Shape blk bud en os ps) {o : Thing} (ho : os[en]? = some o) : Shape blk bud (en + 1) (os.set en { o with st := 3 }) (ps.set en ⟨.empty, 0, 3, o.sent⟩) := by
  have hl := h.len
  have hlt := (List.getElem?_eq_some_iff.1 ho).1
  refine ⟨by simp [hl], by simp; omega, by simpa using h.n500, ?_, ?_, ?_, ?_, ?_, ?_, ?_⟩
  · intro i p hi hp
    rcases set_at hp with ⟨rfl, rfl, _⟩ | ⟨q, hq⟩
    · simp
    · exact h.before i p (by omega) hq
  · intro i a b ha hb
    rcases set_at ha with ⟨q1, rfl, _⟩ | ⟨q1, q⟩ <;> rcases set_at hb with ⟨r1, rfl, _⟩ | ⟨r1, r⟩
    · exact ⟨rfl, rfl⟩
    · exact absurd q1 r1
    · exact absurd r1 q1
    · exact h.stat i a b q r
  · intro i a b hi ha hb
    rcases set_at ha with ⟨q1, _, _⟩ | ⟨q1, q⟩
    · omega
    · rcases set_at hb with ⟨r1, _, _⟩ | ⟨r1, r⟩
      · omega
      · exact h.after i a b (by omega) q r
  · intro i a hi ha
    rcases set_at ha with ⟨q1, _, _⟩ | ⟨q1, q⟩
    · omega
    · exact h.wait i a (by omega) q
  · intro a ha
    rcases set_at ha with ⟨q1, _, _⟩ | ⟨q1, q⟩
    · omega
    · exact .inl (h.wait (en + 1) a (by omega) q)
  · intro i a hi ha
    rcases set_at ha with ⟨q1, _, _⟩ | ⟨q1, q⟩
    · omega
    · exact h.sent i a (by omega) q
  · have e : (os.set en { o with st := 3 }).drop (en + 1) = os.drop (en + 1) := List.drop_set_of_lt (by omega)
    rw [e]
    have := h.cnt
    have e2 : os.drop en = os[en] :: os.drop (en + 1) := List.drop_eq_getElem_cons hlt
    rw [e2, show os[en] :: os.drop (en + 1) = [os[en]] ++ os.drop (en + 1) from rfl, cntSt_append] at this
    omega

/-- The document's objects have turned in place. -/
theorem InvM.objs {w w' : World} {N : NetA} {os' : List Thing} (h : InvM w N) (T : Turn N.rv.ownBlock.toList w w') (ht : Things w' 158 N.rsl N.os.length N.rcap os') (hl : os'.length = N.os.length) : InvM w' { N with os := os' } := by
  have e : ({ N with os := os' } : NetA).rv = N.rv := by simp [NetA.rv, hl]
  have el : ({ N with os := os' } : NetA).lows = N.lows := by unfold NetA.lows; rw [e]; rfl
  have ho : w.ownsRow 0 158 4 N.rv N.os.length (rowCells N.os) := h.rth.owns
  have nF : ∀ k, N.rv.ownBlock = some k → k ∈ N.lows := fun k hk => by simp [NetA.lows, hk]
  have hbn : N.bn ∉ N.rv.ownBlock.toList := fun hm => cells_ne (by decide) h.hold.net ho (by simpa using hm)
  refine ⟨?_, h.way.turn T (fun k hk hm => own_ne (by decide) h.way.owns ho k hk (by simpa using hm)), h.net.turn T (fun g hg hm => h.low g (nF g (by simpa using hm)) hg) (fun hm => h.pos (nF 0 (by simpa using hm))), ?_, h.rl.turn T (fun k hk hm => own_ne (by decide) h.rl.owns ho k hk (by simpa using hm)) (fun g hg hm => ?_), h.r0, h.nl.turn T (fun k hk hm => own_ne (by decide) h.nl.owns ho k hk (by simpa using hm)), fun i hi => (h.lists i hi).turn T (fun k hk hm => ?_), by rw [el]; exact h.low, h.ro, by rw [el]; exact h.pos⟩
  · show HoldAt w' N.bn N.bs N.X N.blk N.bud ({ N with os := os' } : NetA).rv N.wv N.hsl N.hm N.hcap N.hs
    rw [e]
    exact h.hold.turn T hbn (fun k hk hm => own_ne (by decide) h.hold.owns ho k hk (by simpa using hm))
  · show Things w' _ N.rsl os'.length N.rcap os'
    rw [hl]
    exact ht
  · obtain ⟨i, hi⟩ := List.getElem?_of_mem hg
    have hlt := (List.getElem?_eq_some_iff.1 hi).1
    obtain ⟨r, hr⟩ : ∃ r, N.rs[i]? = some r := ⟨_, List.getElem?_eq_getElem (by rw [← h.rl.len]; exact hlt)⟩
    obtain ⟨d, hd, _⟩ := h.rl.at_ i g r hi hr
    exact cells_ne (by decide) hd ho (by simpa using hm)
  · obtain ⟨sl, n, cap, e2, _, hol⟩ := h.lists i hi
    rw [e2] at hk hol
    exact own_ne (by decide) hol ho k hk (by simpa using hm)
end Go.Proofs.YtfbbidaoljfloaaDoor


namespace Go.Proofs.YtfbbidaoljfloaaDoor
open Go.RowKit Go.MuLone

theorem InvM.turn {w w' : World} {N : NetA} (h : InvM w N) (T : Turn [] w w') : InvM w' N := by
  obtain ⟨q1, q2, q3, q4, q5, q6⟩ := h.law T (by simp) (by simp)
  exact ⟨q1, q2, h.net.turn0 T, q3, q4, h.r0, q5, q6, h.low, h.ro, h.pos⟩
theorem StpA.pre {w w0 w' : World} {N N' : NetA} (T : Turn [] w w0) (s : StpA w0 N w' N') : StpA w N w' N' :=
  ⟨s.inv, (T.mono (by simp)).trans s.turn (fun x hx => .inl hx), s.bn, fun k hk => by
    rcases s.blocks k hk with q | q
    · exact .inl q
    · exact .inr (Nat.le_trans T.size q), fun k hk => by
    rcases s.ros k hk with q | q
    · exact .inl q
    · exact .inr (Nat.le_trans T.size q), s.hm, s.wn⟩

/-- Objects that differ in their states alone. -/
structure Same (os os' : List Thing) : Prop where
  len : os'.length = os.length
  at_ : ∀ (i : Nat) (o' : Thing), os'[i]? = some o' → ∃ o, os[i]? = some o ∧ o'.data = o.data ∧ o'.nonce = o.nonce
theorem Same.set {os : List Thing} {k : Nat} {o : Thing} (ho : os[k]? = some o) (st sent : Int) : Same os (os.set k { o with st := st, sent := sent }) := by
  refine ⟨by simp, fun i o' h => ?_⟩
  rcases set_at h with ⟨rfl, rfl, _⟩ | ⟨_, q⟩
  · exact ⟨o, ho, rfl, rfl⟩
  · exact ⟨o', q, rfl, rfl⟩
theorem Same.data {os os' : List Thing} (h : Same os os') : os'.map (·.data) = os.map (·.data) := by
  apply List.ext_getElem?
  intro i
  rw [List.getElem?_map, List.getElem?_map]
  cases hq : os'[i]? with
  | none =>
    have : os[i]? = none := by rw [List.getElem?_eq_none_iff] at hq ⊢; rw [← h.len]; exact hq
    rw [this]
  | some o' =>
    obtain ⟨o, h1, h2, _⟩ := h.at_ i o' hq
    rw [h1]
    simp [h2]
theorem Same.back {os os' : List Thing} (h : Same os os') {i : Nat} {o : Thing} (ho : os[i]? = some o) : ∃ o', os'[i]? = some o' ∧ o'.data = o.data ∧ o'.nonce = o.nonce := by
  obtain ⟨o', h'⟩ : ∃ o', os'[i]? = some o' := ⟨_, List.getElem?_eq_getElem (by rw [h.len]; exact (List.getElem?_eq_some_iff.1 ho).1)⟩
  obtain ⟨x, h1, h2, h3⟩ := h.at_ i o' h'
  rw [ho] at h1
  obtain rfl : o = x := by simpa using h1
  exact ⟨o', h', h2, h3⟩
theorem InvL.objs {N : NetA} {F' : List Nat} {S' : SV} {os' : List Thing} (h : InvL N) (hs : Same N.os os') (hb : S'.blk = N.blk) (hu : S'.bud = N.bud) (hsh : Shape N.blk N.bud S'.en os' S'.l) : InvL { N with F := F', S := S', os := os' } := by
  refine ⟨hb, hu, hsh, ?_, fun i o' ho => ?_, h.tk, ⟨h.ready.1, fun i n o' hd ho => ?_⟩, fun i hi => ?_, h.blk1, h.blk2, h.bud1, h.bud2, h.four, h.nrs⟩
  · show GetIs N.V N.blk (os'.map (·.data)) N.last N.K N.rs N.dl
    rw [hs.data]
    exact h.get
  · obtain ⟨o, h1, h2, _⟩ := hs.at_ i o' ho
    rw [h2]
    exact h.odat i o h1
  · obtain ⟨o, h1, h2, _⟩ := hs.at_ n o' ho
    rw [h2]
    exact h.ready.2 i n o hd h1
  · obtain ⟨b, s, n, d, p1, p2, p3, p4, k, p5, p6, p7⟩ := h.posts i hi
    refine ⟨b, s, n, d, p1, p2, p3, p4, k, p5, p6, fun hb => ?_⟩
    obtain ⟨j, o, j1, j2, j3, j4⟩ := p7 hb
    obtain ⟨o', h1, h2, h3⟩ := hs.back j3
    exact ⟨j, o', j1, j2, h1, by rw [h2, h3]; exact j4⟩

theorem doneB_inj2 {a b blk : Nat} (ha : a < 65536) (hb : b < 65536) (h : doneB a blk = doneB b blk) : a = b := by
  have h2 : doneBody a blk = doneBody b blk := by
    have := congrArg (List.take 4) h
    unfold doneB at this
    have l1 : (doneBody a blk).length = 4 := by simp [doneBody, leBytes_len]
    have l2 : (doneBody b blk).length = 4 := by simp [doneBody, leBytes_len]
    rw [List.take_append_of_le_length (by omega), List.take_append_of_le_length (by omega), List.take_of_length_le (by omega), List.take_of_length_le (by omega)] at this
    exact this
  unfold doneBody at h2
  simp [leBytes] at h2
  omega

set_option maxRecDepth 100000 in
set_option maxHeartbeats 2000000 in
theorem arrive_up (N : NetA) (s : ByteArray) (n d : Int) (w : World) (h : InvA w N) (hp : PostOk N true s n d) :
    Calls Tryd.prog 92 #[.pointer (some ⟨N.bn, 0, none⟩), .agg #[.bool true, .string s, .int .i64 n, .int .i64 d]] w fun e w' => e = .returned (.bool true) ∧ ∃ N', StpA w N w' N' := by
  obtain ⟨k, rfl, hk, _⟩ := hp
  obtain ⟨hk5, hkd, hks⟩ := hk rfl
  have HI : Hid _ := h
  have T0 : Turn [] w (w.alloc (.cells #[.bool true, .string s, .int .i64 ((k : Int) + 1), .int .i64 d] 156)) := (Turn.refl [] w).alloc _
  have hm0 := h.m.turn T0
  have hq0 := heap_alloc_new w (.cells #[.bool true, .string s, .int .i64 ((k : Int) + 1), .int .i64 d] 156)
  have hqF : w.heap.size ∉ N.F := fun hm => by have := h.m.net.lt _ hm; omega
  have hql : ∀ x ∈ N.lows, x ≠ w.heap.size := fun x hx => by have := h.m.lt x hx; omega
  have HT0 : Hid _ := T0
  have HM0 : Hid _ := hm0
  have HQ0 : Hid _ := Blk.mk hq0 hqF
  clear h T0 hm0 hq0
  go_enter Tryd.func92, Tryd.ntmps92
  go_wp2_with fail
  generalize hQ : w.heap.size = Q at *
  generalize w.alloc (.cells #[.bool true, .string s, .int .i64 ((k : Int) + 1), .int .i64 d] 156) = w0 at *
  have c0 := HM0.out.cells.1
  have y1 : w0.cell? ⟨Q, 1, none⟩ = some (.string s) := (HQ0.out.cell 1).trans rfl
  have hsh := HI.out.l.shape
  have hsb := HI.out.l.sblk
  by_cases hyes : ∃ p, N.S.l[N.S.en]? = some p ∧ p.st = 2 ∧ k = N.S.en
  · obtain ⟨p, hp1, hp2, rfl⟩ := hyes
    have hS2 : N.S.handle (bytesOf s) = N.S.done 3 p := by
      unfold SV.handle
      rw [hp1]
      simp only
      rw [if_pos ⟨hp2, by rw [hks, hsb]⟩]
    have hlt := (List.getElem?_eq_some_iff.1 hp1).1
    obtain ⟨o, ho⟩ : ∃ o, N.os[N.S.en]? = some o := ⟨_, List.getElem?_eq_getElem (by rw [← hsh.len]; exact hlt)⟩
    obtain rfl : p = o := hsh.after _ o p (Nat.le_refl _) ho hp1
    have hf := findI_at ho hp2 (fun j q hj hq => (hsh.before j q hj hq).2)
    have hshd := hsh.done ho
    have HH : Hid (∀ v F, Net v N.bs N.br F N.S N.V → Calls Tryd.prog 21 #[.pointer (some ⟨N.bs, 0, none⟩), .string s] v fun e w' => e = .returned (.tuple #[]) ∧ ∃ F', NAft v w' N.bs N.br F F' (N.S.done 3 p) N.V) := fun v F hv => by
      have := nSHandle s hv
      rw [hS2] at this
      exact this
    go_region_held3 (fun v => v.cell? ⟨N.bn, 0, none⟩ = some (.pointer (some ⟨N.bs, 0, none⟩)) ∧ v.cell? ⟨Q, 1, none⟩ = some (.string s))
      (first | exact ⟨c0, y1⟩ | exact ⟨t1, t2⟩)
      (first
        | (go_at_call 21; refine (HH.out _ _ HM0.out.net.drew).mono ?_; rintro e1 w2 ⟨rfl, F2, ha⟩; have hA := ha.pre ((Turn.refl [] _).drew); have hm2 := HM0.out.ends hA; have hq2 := HQ0.out.aft hA; have t1 := hm2.cells.1; have t2 := (hq2.cell 1).trans rfl))
    have hm3 := hm2.turn ((Turn.refl [] w2).drew)
    have hq3 := hq2.turn ((Turn.refl [] w2).drew) (by simp)
    have c4 : w2.drew.cell? ⟨N.bn, 4, none⟩ = some (.slice N.rsl N.os.length N.rcap) := by rw [cell_of_row _ _ _ _ _ _ hm3.hold.net]; rfl
    have hne : (Value.slice N.rsl N.os.length N.rcap).ownBlock ≠ some N.bn := cells_ne (by decide) hm3.hold.net hm3.rth.owns
    have hQr : Q ∉ N.rv.ownBlock.toList := fun hm => hql Q (by simp [NetA.lows]; right; left; simpa using hm) rfl
    have HTY : Hid (Calls Tryd.prog 108 #[.pointer (some ⟨N.bn, 2, none⟩), .int .i64 ((N.S.en : Int) + 1)] w2.drew fun e w' => e = .returned (.tuple #[]) ∧ Turn (Value.slice N.rsl N.os.length N.rcap).ownBlock.toList w2.drew w' ∧ Things w' 158 N.rsl N.os.length N.rcap (N.os.set N.S.en { p with st := 3 })) := refTold_yes N.bn ((N.S.en : Int) + 1) N.rsl N.os.length N.rcap N.S.en N.os p w2.drew c4 hm3.rth (by have := hsh.n500; omega) (by rw [← hsh.len]; exact hlt) ho hf rfl hne
    have y2 : w2.cell? ⟨Q, 2, none⟩ = some (.int .i64 ((N.S.en : Int) + 1)) := (hq2.cell 2).trans rfl
    have HST : Hid (∀ w4, Turn N.rv.ownBlock.toList w2.drew w4 → Things w4 158 N.rsl N.os.length N.rcap (N.os.set N.S.en { p with st := 3 }) → StpA w N w4 { N with F := F2, S := N.S.done 3 p, os := N.os.set N.S.en { p with st := 3 } }) := fun w4 T4 hth => by
      have hm4 := InvM.objs (N := { N with F := F2, S := N.S.done 3 p }) hm3 T4 hth (by simp)
      have el : ({ N with F := F2, S := N.S.done 3 p, os := N.os.set N.S.en { p with st := 3 } } : NetA).lows = N.lows := by simp [NetA.lows, NetA.rv, NetA.wv, NetA.hv]
      refine ⟨⟨hm4, HI.out.l.objs (Same.set ho 3 p.sent) hsb HI.out.l.sbud hshd⟩, ?_, rfl, fun x hx => ?_, fun x hx => .inl hx, by show N.hm ≤ _; omega, by show N.wn ≤ _; omega⟩
      · have a1 : Turn N.blocks w w0 := HT0.out.mono (by simp)
        have a2 : Turn N.blocks w w2 := a1.trans hA.turn (fun x hx => .inl (List.mem_append_right _ hx))
        exact a2.drew.trans T4 (fun x hx => .inl (List.mem_append_left _ (by simp [NetA.lows]; right; left; simpa using hx)))
      · unfold NetA.blocks at hx
        rw [el] at hx
        rcases List.mem_append.1 hx with q | q
        · exact .inl (List.mem_append_left _ q)
        · rcases hA.foot x q with q | q
          · exact .inl (List.mem_append_right _ q)
          · exact .inr (Nat.le_trans HT0.out.size q)
    have HQ3 : Hid _ := hq3
    clear t1 t2 c0 y1 HH ha hm2 hq2 hm3 hq3
    go_wp2_with fail
    go_region_held3 (fun v => v.cell? ⟨Q, 2, none⟩ = some (.int .i64 ((N.S.en : Int) + 1)))
      (first | exact y2 | exact t2)
      (first
        | (go_at_call 108; refine (HTY.out).mono ?_; rintro e1 w4 ⟨rfl, T4, hth⟩; have t2 := ((HQ3.out.turn T4 hQr).cell 2).trans rfl; have hst := HST.out w4 T4 hth))
    have HS : Hid _ := hst
    clear hst T4 hth t2 y2 HST HTY
    go_wp2_with fail
    go_ret
    exact ⟨rfl, _, HS.out⟩
  · have hS2 : N.S.handle (bytesOf s) = N.S := by
      unfold SV.handle
      cases hq : N.S.l[N.S.en]? with
      | none => rfl
      | some p =>
        simp only
        rw [if_neg]
        rintro ⟨e1, e2⟩
        rw [hks, hsb] at e2
        have := doneB_inj2 (by omega) (by have := hsh.n500; have := (List.getElem?_eq_some_iff.1 hq).1; have := hsh.len; omega) e2
        exact hyes ⟨p, hq, e1, by omega⟩
    have hno : findI N.os 2 = -1 ∨ findI N.os 2 + 1 ≠ (k : Int) + 1 := by
      by_cases he : N.S.en < N.os.length
      · obtain ⟨o, ho⟩ : ∃ o, N.os[N.S.en]? = some o := ⟨_, List.getElem?_eq_getElem he⟩
        obtain ⟨p, hp⟩ : ∃ p, N.S.l[N.S.en]? = some p := ⟨_, List.getElem?_eq_getElem (by rw [hsh.len]; exact he)⟩
        obtain rfl := hsh.after _ o p (Nat.le_refl _) ho hp
        by_cases h2 : p.st = 2
        · right
          rw [findI_at ho h2 (fun j q hj hq => (hsh.before j q hj hq).2)]
          intro e
          exact hyes ⟨p, hp, h2, by omega⟩
        · left
          apply findI_none
          intro j q hq
          rcases Nat.lt_trichotomy j N.S.en with hj | hj | hj
          · exact (hsh.before j q hj hq).2
          · subst hj
            rw [ho] at hq
            obtain rfl : p = q := by simpa using hq
            exact h2
          · have := hsh.wait j q hj hq
            omega
      · left
        exact (hsh.find_none (by have := hsh.le; omega)).1
    have hfb : -1 ≤ findI N.os 2 ∧ findI N.os 2 ≤ 500 := by
      by_cases he : N.S.en < N.os.length
      · obtain ⟨o, ho⟩ : ∃ o, N.os[N.S.en]? = some o := ⟨_, List.getElem?_eq_getElem he⟩
        have := hsh.n500
        rcases hsh.find_some ho with q | q
        · rw [q]; omega
        · rw [q.1]; omega
      · rw [(hsh.find_none (by have := hsh.le; omega)).1]; omega
    have HH : Hid (∀ v F, Net v N.bs N.br F N.S N.V → Calls Tryd.prog 21 #[.pointer (some ⟨N.bs, 0, none⟩), .string s] v fun e w' => e = .returned (.tuple #[]) ∧ ∃ F', NAft v w' N.bs N.br F F' N.S N.V) := fun v F hv => by
      have := nSHandle s hv
      rw [hS2] at this
      exact this
    go_region_held3 (fun v => v.cell? ⟨N.bn, 0, none⟩ = some (.pointer (some ⟨N.bs, 0, none⟩)) ∧ v.cell? ⟨Q, 1, none⟩ = some (.string s))
      (first | exact ⟨c0, y1⟩ | exact ⟨t1, t2⟩)
      (first
        | (go_at_call 21; refine (HH.out _ _ HM0.out.net.drew).mono ?_; rintro e1 w2 ⟨rfl, F2, ha⟩; have hA := ha.pre ((Turn.refl [] _).drew); have hm2 := HM0.out.ends hA; have hq2 := HQ0.out.aft hA; have t1 := hm2.cells.1; have t2 := (hq2.cell 1).trans rfl))
    have hm3 := hm2.turn ((Turn.refl [] w2).drew)
    have c4 : w2.drew.cell? ⟨N.bn, 4, none⟩ = some (.slice N.rsl N.os.length N.rcap) := by rw [cell_of_row _ _ _ _ _ _ hm3.hold.net]; rfl
    have HTN : Hid (Calls Tryd.prog 108 #[.pointer (some ⟨N.bn, 2, none⟩), .int .i64 ((k : Int) + 1)] w2.drew fun e w' => e = .returned (.tuple #[]) ∧ w' = w2.drew) := refTold_no N.bn ((k : Int) + 1) N.rsl N.os.length N.rcap N.os w2.drew c4 hm3.rth (by have := hsh.n500; omega) hfb hno
    have y2 : w2.cell? ⟨Q, 2, none⟩ = some (.int .i64 ((k : Int) + 1)) := (hq2.cell 2).trans rfl
    have HS : Hid (StpA w N w2.drew { N with F := F2 }) := by
      have hs0 : StpA w0 N w2 { N with F := F2 } := (InvA.same ⟨HM0.out, HI.out.l⟩ hA)
      have hs1 := hs0.pre HT0.out
      exact ⟨⟨hm3, hs1.inv.l⟩, hs1.turn.drew, rfl, hs1.blocks, hs1.ros, hs1.hm, hs1.wn⟩
    clear t1 t2 c0 y1 HH ha hA hm2 hq2 hm3 hno hfb hyes
    go_wp2_with fail
    go_region_held3 (fun v => v.cell? ⟨Q, 2, none⟩ = some (.int .i64 ((k : Int) + 1)))
      (first | exact y2)
      (first
        | (go_at_call 108; refine (HTN.out).mono ?_; rintro e1 w4 ⟨rfl, rfl⟩))
    go_wp2_with fail
    go_ret
    exact ⟨rfl, _, HS.out⟩
end Go.Proofs.YtfbbidaoljfloaaDoor


namespace Go.Proofs.YtfbbidaoljfloaaDoor
open Go.RowKit Go.MuLone

/-- The cells of a network's block. -/
def netF (N : NetA) (j : Nat) : Value := ((netX N.bs N.X N.blk N.bud N.rv N.wv N.hv)[j]?).getD (.bool false)
theorem InvM.getAt {w : World} {N : NetA} (h : InvM w N) : GetAt w N.bn (netF N) 0 N.K N.last N.gv N.gs N.rs N.dv N.dl :=
  ⟨⟨_, h.hold.net, rfl, fun i hi => by
    unfold netF
    show (netX N.bs N.X N.blk N.bud N.rv N.wv N.hv)[i]? = _
    rw [Array.getElem?_eq_getElem (show i < (netX N.bs N.X N.blk N.bud N.rv N.wv N.hv).size from hi)]
    rfl⟩, rfl, rfl, rfl, rfl, h.rl, h.r0, h.nl, fun _ _ => Nat.zero_le _, own_ne (by decide) h.rl.owns h.nl.owns⟩

theorem InvM.came {w w' : World} {N : NetA} {num K2 r : Nat} {b : Bool} (h : InvM w N) (hc : CameW w w' N.bn (netF N) 0 num K2 r N.last N.K N.gv N.gs N.rs N.dv N.dl b) :
    ∃ (K' last' : Nat) (gv' : Value) (gs' rs' : List Nat) (dv' : Value) (dl' : List Nat), CameIs num K2 r N.last N.K N.rs N.dl b last' K' rs' dl' ∧ InvM w' { N with last := last', K := K', gv := gv', gs := gs', rs := rs', dv := dv', dl := dl' } ∧ Turn N.blocks w w' ∧
      (∀ k ∈ ({ N with last := last', K := K', gv := gv', gs := gs', rs := rs', dv := dv', dl := dl' } : NetA).lows, k ∈ N.lows ∨ w.heap.size ≤ k) ∧ (∀ g ∈ gs', g ∈ N.gs ∨ w.heap.size ≤ g) := by
  obtain ⟨f2, K', last', gv', gs', rs', dv', dl', hci, hf2, hg, o1, o2, o3⟩ := hc.ex
  have T := hc.turn
  have hb := h.hold.net
  have g1 := h.rl.owns
  have d1 := h.nl.owns
  have away : ∀ k, k ∈ N.bn :: (N.gv.ownBlock.toList ++ N.dv.ownBlock.toList) → k = N.bn ∨ N.gv.ownBlock = some k ∨ N.dv.ownBlock = some k := fun k hk => by
    simpa [or_assoc] using hk
  have hlow : ∀ k ∈ ({ N with last := last', K := K', gv := gv', gs := gs', rs := rs', dv := dv', dl := dl' } : NetA).lows, k ∈ N.lows ∨ w.heap.size ≤ k := fun k hk => by
    simp only [NetA.lows, List.mem_cons, List.mem_append, Option.mem_toList] at hk ⊢
    rcases hk with q | ((((q | q) | q) | q) | q)
    · exact .inl (.inl q)
    · exact .inl (.inr (.inl (.inl (.inl (.inl q)))))
    · exact .inl (.inr (.inl (.inl (.inl (.inr q)))))
    · exact .inl (.inr (.inl (.inl (.inr q))))
    · rcases o1 k q with m | m
      · exact .inl (.inr (.inl (.inr m)))
      · exact .inr m
    · rcases o2 k q with m | m
      · exact .inl (.inr (.inr m))
      · exact .inr m
  have hbl : ∀ k ∈ N.bn :: (N.gv.ownBlock.toList ++ N.dv.ownBlock.toList), k ∈ N.lows := fun k hk => by
    simp only [NetA.lows, List.mem_cons, List.mem_append, Option.mem_toList]
    rcases away k hk with q | q | q
    · exact .inl q
    · exact .inr (.inl (.inr q))
    · exact .inr (.inr q)
  have hown : ∀ {e : TypeId} {s n : Nat} {xs : List Value} {v : Value}, e ≠ 151 → e ≠ 76 → e ≠ 3 → w.ownsRow 0 e s v n xs → ∀ k, v.ownBlock = some k → k ∉ N.bn :: (N.gv.ownBlock.toList ++ N.dv.ownBlock.toList) := fun h1 h2 h3 ho k hk hm => by
    rcases away k hm with q | q | q
    · subst q; exact cells_ne h1 hb ho hk
    · exact own_ne h2 ho g1 k hk q
    · exact own_ne h3 ho d1 k hk q
  have hnet : ∃ c, w'.heap[N.bn]? = some (.cells c 151 (0, 0)) ∧ c = netX N.bs ({ N with last := last', K := K', gv := gv', gs := gs', rs := rs', dv := dv', dl := dl' } : NetA).X N.blk N.bud N.rv N.wv N.hv := by
    obtain ⟨c, hc1, hc2, hc3⟩ := hg.row
    refine ⟨c, hc1, ?_⟩
    apply Array.ext_getElem?
    intro i
    by_cases hi : i < 12
    · rw [hc3 i hi]
      match i, hi with
      | 0, _ => rw [hf2 0 (by omega)]; rfl
      | 1, _ => rw [hf2 1 (by omega)]; rfl
      | 2, _ => rw [hf2 2 (by omega)]; rfl
      | 3, _ => rw [hf2 3 (by omega)]; rfl
      | 4, _ => rw [hf2 4 (by omega)]; rfl
      | 5, _ => rw [hg.f5]; rfl
      | 6, _ => rw [hg.f6]; rfl
      | 7, _ => rw [hg.f7]; rfl
      | 8, _ => rw [hg.f8]; rfl
      | 9, _ => rw [hf2 9 (by omega)]; rfl
      | 10, _ => rw [hf2 10 (by omega)]; rfl
      | 11, _ => rw [hf2 11 (by omega)]; rfl
      | n + 12, q => omega
    · rw [Array.getElem?_eq_none (by omega), Array.getElem?_eq_none (by show 12 ≤ i; omega)]
  obtain ⟨c, hn1, rfl⟩ := hnet
  refine ⟨K', last', gv', gs', rs', dv', dl', hci, ⟨⟨hn1, T.owns h.hold.owns (hown (by decide) (by decide) (by decide) h.hold.owns), h.hold.apart, h.hold.len⟩, h.way.turn T (hown (by decide) (by decide) (by decide) h.way.owns), h.net.turn T (fun g hg hm => h.low g (hbl g hm) hg) (fun hm => h.pos (hbl 0 hm)), h.rth.turn T (hown (by decide) (by decide) (by decide) h.rth.owns), hg.rl, hg.r0, hg.dl, fun i hi => (h.lists i hi).turn T (fun k hk => ?_), fun k hk hm => ?_, fun k hk hm => ?_, fun hm => ?_⟩, T.mono (fun k hk => List.mem_append_left _ (hbl k hk)), hlow, o3⟩
  · obtain ⟨sl, n, cap, e2, _, hol⟩ := h.lists i hi
    rw [e2] at hk hol
    exact hown (by decide) (by decide) (by decide) hol k hk
  · rcases hlow k hk with q | q
    · exact h.low k q hm
    · have := h.net.lt k hm; omega
  · rcases List.mem_append.1 hk with q | q
    · exact h.ro k (List.mem_append_left _ q) hm
    · rcases o3 k q with q | q
      · exact h.ro k (List.mem_append_right _ q) hm
      · have := h.net.lt k hm; omega
  · rcases hlow 0 hm with q | q
    · exact h.pos q
    · have := h.net.pos; omega
end Go.Proofs.YtfbbidaoljfloaaDoor


namespace Go.Proofs.YtfbbidaoljfloaaDoor
open Go.RowKit Go.MuLone

theorem RL.ne2 {w : World} {B : Nat} {v : Value} {K : Nat} {gs rs : List Nat} (h : RL w B v K gs rs) {e : TypeId} (he : e ≠ 4) {s n : Nat} {xs : List Value} {u : Value} (ho : w.ownsRow 0 e s u n xs) : ∀ g ∈ gs, u.ownBlock ≠ some g := fun g hg hu => by
  obtain ⟨i, hi⟩ := List.getElem?_of_mem hg
  have hlt := (List.getElem?_eq_some_iff.1 hi).1
  obtain ⟨r, hr⟩ : ∃ r, rs[i]? = some r := ⟨_, List.getElem?_eq_getElem (by rw [← h.len]; exact hlt)⟩
  obtain ⟨d, hd, _⟩ := h.at_ i g r hi hr
  exact cells_ne he hd ho hu
/-- A list came out, and was kept; a frame is on its way, or none. -/
theorem InvM.kept {w w' : World} {N : NetA} {Z : List Nat} {wsl : Option Addr} {wn wcap : Nat} {wx : List Value} {hsl : Option Addr} {hcap q : Nat} {v0 a b c : Value} (h : InvM w N) (hq : N.hm = 4 * q) (T : Turn Z w w')
    (hZ : ∀ x ∈ Z, x = N.bn ∨ N.wv.ownBlock = some x ∨ N.hv.ownBlock = some x ∨ (∃ cs fr, w.heap[x]? = some (.cells cs 9 fr) ∧ x ∉ N.F ∧ x ∉ N.hs.filterMap Value.ownBlock ∧ x ≠ 0))
    (hH : HoldAt w' N.bn N.bs N.X N.blk N.bud N.rv (.slice wsl wn wcap) hsl (N.hm + 4) hcap (N.hs ++ [v0, a, b, c])) (hY : WayAt w' N.bn wsl wn wcap wx)
    (l0 : HeldList w' (markOf q) v0) (la : HeldList w' (markOf q) a) (lb : HeldList w' (markOf q) b) (lc : HeldList w' (markOf q) c)
    (n0 : ∀ k, v0.ownBlock = some k → k ∉ N.F) (nb : ∀ k, a.ownBlock = some k ∨ b.ownBlock = some k ∨ c.ownBlock = some k → w.heap.size ≤ k)
    (ah : (Value.slice hsl (N.hm + 4) hcap).ownBlock = N.hv.ownBlock ∨ ∃ k, (Value.slice hsl (N.hm + 4) hcap).ownBlock = some k ∧ w.heap.size ≤ k)
    (ay : (Value.slice wsl wn wcap).ownBlock = N.wv.ownBlock ∨ ∃ k, (Value.slice wsl wn wcap).ownBlock = some k ∧ w.heap.size ≤ k) :
    InvM w' { N with wsl := wsl, wn := wn, wcap := wcap, wx := wx, hsl := hsl, hm := N.hm + 4, hcap := hcap, hs := N.hs ++ [v0, a, b, c] } ∧
      (∀ k ∈ ({ N with wsl := wsl, wn := wn, wcap := wcap, wx := wx, hsl := hsl, hm := N.hm + 4, hcap := hcap, hs := N.hs ++ [v0, a, b, c] } : NetA).lows, k ∈ N.lows ∨ w.heap.size ≤ k) := by
  have hown : ∀ {e : TypeId} {s n : Nat} {xs : List Value} {v : Value}, e ≠ 151 → e ≠ 156 → e ≠ 38 → e ≠ 9 → w.ownsRow 0 e s v n xs → ∀ k, v.ownBlock = some k → k ∉ Z := fun h1 h2 h3 h4 ho k hk hm => by
    rcases hZ k hm with m | m | m | ⟨cs, fr, m, _⟩
    · subst m; exact cells_ne h1 h.hold.net ho hk
    · exact own_ne h2 ho h.way.owns k hk m
    · exact own_ne h3 ho h.hold.owns k hk m
    · exact cells_ne h4 m ho hk
  have hlow : ∀ k ∈ ({ N with wsl := wsl, wn := wn, wcap := wcap, wx := wx, hsl := hsl, hm := N.hm + 4, hcap := hcap, hs := N.hs ++ [v0, a, b, c] } : NetA).lows, k ∈ N.lows ∨ w.heap.size ≤ k := fun k hk => by
    simp only [NetA.lows, List.mem_cons, List.mem_append, Option.mem_toList] at hk ⊢
    rcases hk with m | ((((m | m) | m) | m) | m)
    · exact .inl (.inl m)
    · exact .inl (.inr (.inl (.inl (.inl (.inl m)))))
    · have m : (Value.slice wsl wn wcap).ownBlock = some k := m
      rcases ay with e | ⟨j, e1, e2⟩
      · rw [e] at m; exact .inl (.inr (.inl (.inl (.inl (.inr m)))))
      · rw [e1] at m; simp at m; subst m; exact .inr e2
    · have m : (Value.slice hsl (N.hm + 4) hcap).ownBlock = some k := m
      rcases ah with e | ⟨j, e1, e2⟩
      · rw [e] at m; exact .inl (.inr (.inl (.inl (.inr m))))
      · rw [e1] at m; simp at m; subst m; exact .inr e2
    · exact .inl (.inr (.inl (.inr m)))
    · exact .inl (.inr (.inr m))
  have inl : ∀ x, x = N.bn ∨ N.wv.ownBlock = some x ∨ N.hv.ownBlock = some x → x ∈ N.lows := fun x hx => by
    simp only [NetA.lows, List.mem_cons, List.mem_append, Option.mem_toList]
    rcases hx with m | m | m
    · exact .inl m
    · exact .inr (.inl (.inl (.inl (.inr m))))
    · exact .inr (.inl (.inl (.inr m)))
  have hF : ∀ g ∈ N.F, g ∉ Z := fun g hg hm => by
    rcases hZ g hm with m | m | m | ⟨_, _, _, m, _, _⟩
    · exact h.low g (inl g (.inl m)) hg
    · exact h.low g (inl g (.inr (.inl m))) hg
    · exact h.low g (inl g (.inr (.inr m))) hg
    · exact m hg
  refine ⟨⟨hH, hY, h.net.turn T hF (fun hm => ?_), h.rth.turn T (hown (by decide) (by decide) (by decide) (by decide) h.rth.owns), h.rl.turn T (hown (by decide) (by decide) (by decide) (by decide) h.rl.owns) (fun g hg hm => ?_), h.r0, h.nl.turn T (hown (by decide) (by decide) (by decide) (by decide) h.nl.owns), fun i hi => ?_, fun k hk hm => ?_, fun k hk hm => ?_, fun hm => ?_⟩, hlow⟩
  · rcases hZ 0 hm with m | m | m | ⟨_, _, _, _, _, m⟩
    · exact h.pos (inl 0 (.inl m))
    · exact h.pos (inl 0 (.inr (.inl m)))
    · exact h.pos (inl 0 (.inr (.inr m)))
    · exact m rfl
  · rcases hZ g hm with m | m | m | ⟨cs, fr, m, _⟩
    · subst m; exact h.rl.far (by decide) h.hold.net hg
    · exact h.rl.ne2 (by decide) h.way.owns g hg m
    · exact h.rl.ne2 (by decide) h.hold.owns g hg m
    · exact h.rl.far (by decide) m hg
  · have hlen := h.hold.len
    have hi : i < (N.hs ++ [v0, a, b, c]).length := hi
    show HeldList w' (markOf (i / 4)) (N.hs ++ [v0, a, b, c])[i]
    by_cases hil : i < N.hs.length
    · rw [List.getElem_append_left hil]
      refine (h.lists i hil).turn T (fun k hk hm => ?_)
      have hmem : k ∈ N.hs.filterMap Value.ownBlock := List.mem_filterMap.2 ⟨_, List.getElem_mem hil, hk⟩
      obtain ⟨sl, n, cap, e2, _, hol⟩ := h.lists i hil
      rw [e2] at hk hol
      rcases hZ k hm with m | m | m | ⟨_, _, _, _, m, _⟩
      · subst m; exact cells_ne (by decide) h.hold.net hol hk
      · exact own_ne (by decide) hol h.way.owns k hk m
      · exact own_ne (by decide) hol h.hold.owns k hk m
      · exact m hmem
    · simp at hi
      have e4 : i / 4 = q := by omega
      rw [e4, List.getElem_append_right (by omega)]
      obtain ⟨j, rfl⟩ : ∃ j, i = N.hs.length + j := ⟨i - N.hs.length, by omega⟩
      match j, hi with
      | 0, _ => simpa using l0
      | 1, _ => simpa using la
      | 2, _ => simpa using lb
      | 3, _ => simpa using lc
      | j + 4, z => omega
  · rcases hlow k hk with m | m
    · exact h.low k m hm
    · have := h.net.lt k hm; omega
  · have hk : k ∈ (N.hs ++ [v0, a, b, c]).filterMap Value.ownBlock ++ N.gs := hk
    rw [List.filterMap_append] at hk
    rcases List.mem_append.1 hk with m | m
    · rcases List.mem_append.1 m with m | m
      · exact h.ro k (List.mem_append_left _ m) hm
      · obtain ⟨v, hv, hvk⟩ := List.mem_filterMap.1 m
        simp at hv
        have hlt := h.net.lt k hm
        rcases hv with rfl | rfl | rfl | rfl
        · exact n0 k hvk hm
        · have := nb k (.inl hvk); omega
        · have := nb k (.inr (.inl hvk)); omega
        · have := nb k (.inr (.inr hvk)); omega
    · exact h.ro k (List.mem_append_right _ m) hm
  · rcases hlow 0 hm with m | m
    · exact h.pos m
    · have := h.net.pos; omega
end Go.Proofs.YtfbbidaoljfloaaDoor


namespace Go.Proofs.YtfbbidaoljfloaaDoor
open Go.RowKit Go.MuLone

/-- What has become of a network, in memory. -/
structure StpM (w : World) (N : NetA) (w' : World) (N' : NetA) : Prop where
  m : InvM w' N'
  turn : Turn N.blocks w w'
  bn : N'.bn = N.bn
  blocks : ∀ k ∈ N'.blocks, k ∈ N.blocks ∨ w.heap.size ≤ k
  ros : ∀ k ∈ N'.ros, k ∈ N.ros ∨ w.heap.size ≤ k
theorem InvM.stp {w : World} {N : NetA} (h : InvM w N) : StpM w N w N := ⟨h, Turn.refl _ _, rfl, fun _ hk => .inl hk, fun _ hk => .inl hk⟩
theorem StpM.trans {w w1 w2 : World} {N N1 N2 : NetA} (s : StpM w N w1 N1) (t : StpM w1 N1 w2 N2) : StpM w N w2 N2 := by
  have z := s.turn.size
  refine ⟨t.m, s.turn.trans t.turn s.blocks, t.bn.trans s.bn, fun k hk => ?_, fun k hk => ?_⟩
  · rcases t.blocks k hk with q | q
    · exact s.blocks k q
    · right; omega
  · rcases t.ros k hk with q | q
    · exact s.ros k q
    · right; omega
theorem StpM.of_turn {w w' : World} {N : NetA} (h : InvM w N) (T : Turn [] w w') : StpM w N w' N := ⟨h.turn T, T.mono (by simp), rfl, fun _ hk => .inl hk, fun _ hk => .inl hk⟩
theorem StpM.then {w w1 w2 : World} {N N1 : NetA} (s : StpM w N w1 N1) (T : Turn [] w1 w2) : StpM w N w2 N1 := s.trans (StpM.of_turn s.m T)
theorem StpM.ends {w w1 w' : World} {N0 N : NetA} {F' : List Nat} {S' : SV} {V' : RV} (s : StpM w N0 w1 N) (ha : NAft w1 w' N.bs N.br N.F F' S' V') : StpM w N0 w' { N with F := F', S := S', V := V' } :=
  s.trans ⟨s.m.ends ha, ha.turn.mono (fun _ hx => List.mem_append_right _ hx), rfl, foot_blocks ha, fun _ hk => .inl hk⟩
theorem StpM.objs {w w1 w' : World} {N0 N : NetA} {os' : List Thing} (s : StpM w N0 w1 N) (T : Turn N.rv.ownBlock.toList w1 w') (ht : Things w' 158 N.rsl N.os.length N.rcap os') (hl : os'.length = N.os.length) : StpM w N0 w' { N with os := os' } := by
  have e : ({ N with os := os' } : NetA).rv = N.rv := by simp [NetA.rv, hl]
  have el : ({ N with os := os' } : NetA).lows = N.lows := by unfold NetA.lows; rw [e]; rfl
  refine s.trans ⟨s.m.objs T ht hl, T.mono (fun x hx => List.mem_append_left _ ?_), rfl, fun k hk => .inl ?_, fun k hk => .inl hk⟩
  · simp only [NetA.lows, List.mem_cons, List.mem_append]
    exact .inr (.inl (.inl (.inl (.inl hx))))
  · unfold NetA.blocks at hk ⊢
    rw [el] at hk
    exact hk
theorem StpM.to {w w' : World} {N N' : NetA} (s : StpM w N w' N') (l : InvL N') (h1 : N'.hm ≤ N.hm + 4) (h2 : N'.wn ≤ N.wn + 1) : StpA w N w' N' := ⟨⟨s.m, l⟩, s.turn, s.bn, s.blocks, s.ros, h1, h2⟩
theorem StpM.lt {w w' : World} {N N' : NetA} (s : StpM w N w' N') : w.heap.size ≤ w'.heap.size := s.turn.size

theorem mem_lows {N : NetA} {x : Nat} (h : x = N.bn ∨ N.rv.ownBlock = some x ∨ N.wv.ownBlock = some x ∨ N.hv.ownBlock = some x ∨ N.gv.ownBlock = some x ∨ N.dv.ownBlock = some x) : x ∈ N.lows := by
  simp only [NetA.lows, List.mem_cons, List.mem_append, Option.mem_toList]
  rcases h with q | q | q | q | q | q
  · exact .inl q
  · exact .inr (.inl (.inl (.inl (.inl q))))
  · exact .inr (.inl (.inl (.inl (.inr q))))
  · exact .inr (.inl (.inl (.inr q)))
  · exact .inr (.inl (.inr q))
  · exact .inr (.inr q)

/-- Nothing is sent. -/
theorem sentA_none {w0 w : World} {N0 N : NetA} (ub : Bool) (num id : Int) (s : StpM w0 N0 w N) (h4 : ∃ q, N.hm = 4 * q) (hbig : N.hm + 4 ≤ 8796093022208) :
    Calls Tryd.prog 62 #[.pointer (some ⟨N.bn, 0, none⟩), .slice none 0 0, .int .i64 0, .agg #[.bool ub, .string .empty, .int .i64 num, .int .i64 id]] w fun e w' => e = .returned (.bool true) ∧ ∃ hsl hcap a b c, StpM w0 N0 w' { N with hsl := hsl, hm := N.hm + 4, hcap := hcap, hs := N.hs ++ [.slice none 0 0, a, b, c] } := by
  obtain ⟨q, hq⟩ := h4
  have h := s.m
  refine (sent_none ub N.bn N.bs N.X N.blk N.bud N.rv N.wv N.hsl N.hm N.hcap q N.hs num id w h.hold hq hbig).mono ?_
  rintro e w' ⟨rfl, hsl', hcap', a, b, c, T, H, l0, la, lb, lc, hblk, hown⟩
  refine ⟨rfl, hsl', hcap', a, b, c, ?_⟩
  have hY : WayAt w' N.bn N.wsl N.wn N.wcap N.wx := h.way.turn T (fun k hk hm => by
    simp only [List.mem_cons, Option.mem_toList] at hm
    rcases hm with r | r
    · subst r; exact cells_ne (by decide) h.hold.net h.way.owns hk
    · exact own_ne (by decide) h.way.owns h.hold.owns k hk r)
  obtain ⟨k1, k2⟩ := h.kept hq T (fun x hx => by
    simp only [List.mem_cons, Option.mem_toList] at hx
    rcases hx with r | r
    · exact .inl r
    · exact .inr (.inr (.inl r))) H hY l0 la lb lc (fun k hk => by simp [Value.ownBlock] at hk) (fun k hk => (hblk k hk).1) hown (.inl rfl)
  refine s.trans ⟨k1, T.mono (fun x hx => List.mem_append_left _ ?_), rfl, fun k hk => ?_, fun k hk => ?_⟩
  · simp only [List.mem_cons, Option.mem_toList] at hx
    rcases hx with r | r
    · exact mem_lows (.inl r)
    · exact mem_lows (.inr (.inr (.inr (.inl r))))
  · rcases List.mem_append.1 hk with r | r
    · rcases k2 k r with r | r
      · exact .inl (List.mem_append_left _ r)
      · exact .inr r
    · exact .inl (List.mem_append_right _ r)
  · have hk : k ∈ (N.hs ++ [.slice none 0 0, a, b, c]).filterMap Value.ownBlock ++ N.gs := hk
    rw [List.filterMap_append] at hk
    rcases List.mem_append.1 hk with m | m
    · rcases List.mem_append.1 m with m | m
      · exact .inl (List.mem_append_left _ m)
      · obtain ⟨v, hv, hvk⟩ := List.mem_filterMap.1 m
        simp at hv
        rcases hv with rfl | rfl | rfl | rfl
        · simp [Value.ownBlock] at hvk
        · exact .inr (hblk k (.inl hvk)).1
        · exact .inr (hblk k (.inr (.inl hvk))).1
        · exact .inr (hblk k (.inr (.inr hvk))).1
    · exact .inl (List.mem_append_right _ m)

/-- A frame is sent: G holds it. -/
theorem sentA_one {w0 w : World} {N0 N : NetA} (ub : Bool) (num id : Int) (G : Nat) (t : ByteArray) (s : StpM w0 N0 w N) (h4 : ∃ q, N.hm = 4 * q) (hbig : N.hm + 4 ≤ 8796093022208) (hwn : N.wn ≤ 2199023255552)
    (hG : w.heap[G]? = some (.cells #[.string t] 9 (0, 0))) (ht1 : 5 ≤ t.size) (ht2 : t.size ≤ 80) (hGn : w0.heap.size ≤ G) (hGF : G ∉ N.F) (hGh : G ∉ N.hs.filterMap Value.ownBlock) (hw0 : 0 < w0.heap.size) :
    Calls Tryd.prog 62 #[.pointer (some ⟨N.bn, 0, none⟩), .slice (some ⟨G, 0, none⟩) 1 1, .int .i64 1, .agg #[.bool ub, .string .empty, .int .i64 num, .int .i64 id]] w fun e w' => e = .returned (.bool true) ∧
      ∃ wsl wcap hsl hcap a b c, StpM w0 N0 w' { N with wsl := wsl, wn := N.wn + 1, wcap := wcap, wx := N.wx ++ [.bool ub, .string t, .int .i64 num, .int .i64 id], hsl := hsl, hm := N.hm + 4, hcap := hcap, hs := N.hs ++ [.slice (some ⟨G, 0, none⟩) 1 1, a, b, c] } := by
  obtain ⟨q, hq⟩ := h4
  have h := s.m
  have g1 : G ≠ N.bn := fun e => by
    have := h.hold.net
    rw [← e, hG] at this
    simp at this
  have g2 : N.hv.ownBlock ≠ some G := cells_ne (by decide) hG h.hold.owns
  have g3 : N.wv.ownBlock ≠ some G := cells_ne (by decide) hG h.way.owns
  refine (sent_one ub N.bn N.bs N.X N.blk N.bud N.rv N.wsl N.wn N.wcap N.wx N.hsl N.hm N.hcap q N.hs num id G t w h.hold h.way (own_ne (by decide) h.way.owns h.hold.owns) hq hbig hwn hG ht1 ht2 g1 g2 g3).mono ?_
  rintro e w' ⟨rfl, wsl', wcap', hsl', hcap', a, b, c, T, H, Y, l0, la, lb, lc, hblk, hown, howy, hyh⟩
  refine ⟨rfl, wsl', wcap', hsl', hcap', a, b, c, ?_⟩
  obtain ⟨k1, k2⟩ := h.kept hq T (fun x hx => by
    simp only [List.mem_cons, List.mem_append, Option.mem_toList] at hx
    rcases hx with r | r | r | r
    · exact .inl r
    · exact .inr (.inr (.inr ⟨_, _, by rw [r]; exact hG, by rw [r]; exact hGF, by rw [r]; exact hGh, by omega⟩))
    · exact .inr (.inr (.inl r))
    · exact .inr (.inl r)) H Y l0 la lb lc (fun k hk => by
      simp only [Value.ownBlock, Option.some.injEq] at hk
      rw [← hk]; exact hGF) (fun k hk => (hblk k hk).1) hown howy
  have z := s.turn.size
  refine ⟨k1, s.turn.trans T (fun x hx => ?_), s.bn, fun k hk => ?_, fun k hk => ?_⟩
  · simp only [List.mem_cons, List.mem_append, Option.mem_toList] at hx
    rcases hx with r | r | r | r
    · exact s.blocks x (List.mem_append_left _ (mem_lows (.inl r)))
    · right; omega
    · exact s.blocks x (List.mem_append_left _ (mem_lows (.inr (.inr (.inr (.inl r))))))
    · exact s.blocks x (List.mem_append_left _ (mem_lows (.inr (.inr (.inl r)))))
  · rcases List.mem_append.1 hk with r | r
    · rcases k2 k r with r | r
      · exact s.blocks k (List.mem_append_left _ r)
      · right; omega
    · exact s.blocks k (List.mem_append_right _ r)
  · have hk : k ∈ (N.hs ++ [.slice (some ⟨G, 0, none⟩) 1 1, a, b, c]).filterMap Value.ownBlock ++ N.gs := hk
    rw [List.filterMap_append] at hk
    rcases List.mem_append.1 hk with m | m
    · rcases List.mem_append.1 m with m | m
      · exact s.ros k (List.mem_append_left _ m)
      · obtain ⟨v, hv, hvk⟩ := List.mem_filterMap.1 m
        simp at hv
        rcases hv with rfl | rfl | rfl | rfl
        · simp [Value.ownBlock] at hvk
          right; omega
        · have := (hblk k (.inl hvk)).1; right; omega
        · have := (hblk k (.inr (.inl hvk))).1; right; omega
        · have := (hblk k (.inr (.inr hvk))).1; right; omega
    · exact s.ros k (List.mem_append_right _ m)
end Go.Proofs.YtfbbidaoljfloaaDoor


namespace Go.Proofs.YtfbbidaoljfloaaDoor
open Go.RowKit Go.MuLone

theorem PostOk.more {N : NetA} {b : Bool} {s : ByteArray} {n d : Int} (h : PostOk N b s n d) {dl : List Nat} (hd : ∀ x ∈ N.dl, x ∈ dl) : PostOk { N with dl := dl } b s n d := by
  obtain ⟨k, h1, h2, h3⟩ := h
  exact ⟨k, h1, fun hb => ⟨(h2 hb).1, hd _ (h2 hb).2.1, (h2 hb).2.2⟩, h3⟩
theorem CameIs.grows {num K2 r last K last' K' : Nat} {rs dl rs' dl' : List Nat} {b : Bool} (h : CameIs num K2 r last K rs dl b last' K' rs' dl') : (∀ x ∈ dl, x ∈ dl') ∧ rs'.length ≤ rs.length + 1 ∧ (b = true → num ∈ dl') := by
  have e : ∀ l : List Nat, ((if last < num then [] else l) ++ [r]).length ≤ l.length + 1 := fun l => by
    by_cases q : last < num
    · rw [if_pos q]; simp
    · rw [if_neg q]; simp
  rcases h with ⟨⟨hm, rfl, rfl, rfl, rfl, rfl⟩ | ⟨_, _, rfl, rfl, rfl, rfl, rfl⟩ | ⟨_, _, _, rfl, rfl, rfl, rfl, rfl⟩ | ⟨_, _, _, rfl, rfl, rfl, rfl, rfl⟩⟩
  · exact ⟨fun x hx => hx, by omega, fun _ => hm⟩
  · exact ⟨fun x hx => hx, by omega, by simp⟩
  · exact ⟨fun x hx => hx, e _, by simp⟩
  · exact ⟨fun x hx => List.mem_append_left _ hx, e _, fun _ => by simp⟩

theorem InvL.came {N : NetA} (h : InvL N) {n : Nat} {o : Thing} (ho : N.os[n]? = some o) {b : Bool} {K2 r last' K' : Nat} {rs' dl' : List Nat} (hc : CameIs (n + 1) K2 r N.last N.K N.rs N.dl b last' K' rs' dl') {V2 : RV} (hg : GetIs V2 N.blk N.ds last' K' rs' dl')
    (hr : (dl' = N.dl ∧ V2.ready = N.V.ready) ∨ (dl' = N.dl ++ [n + 1] ∧ V2.ready = N.V.ready ++ [(o.data, n + 1)])) (F : List Nat) (gv : Value) (gs : List Nat) (dv : Value) (wsl : Option Addr) (wn wcap : Nat) (wx : List Value) (hsl : Option Addr) (hcap : Nat) (hs : List Value)
    (hp : ∀ i, i < wn → ∃ b s n d, wx[i * 4]? = some (.bool b) ∧ wx[i * 4 + 1]? = some (.string s) ∧ wx[i * 4 + 2]? = some (.int .i64 n) ∧ wx[i * 4 + 3]? = some (.int .i64 d) ∧ PostOk { N with dl := dl' } b s n d) :
    InvL { N with F := F, V := V2, last := last', K := K', gv := gv, gs := gs, rs := rs', dv := dv, dl := dl', wsl := wsl, wn := wn, wcap := wcap, wx := wx, hsl := hsl, hm := N.hm + 4, hcap := hcap, hs := hs } := by
  obtain ⟨g1, g2, _⟩ := hc.grows
  have htk := h.tk
  obtain ⟨r1, r2⟩ := h.ready
  refine ⟨h.sblk, h.sbud, h.shape, hg, h.odat, ?_, ?_, hp, h.blk1, h.blk2, h.bud1, h.bud2, ?_, ?_⟩
  · show N.taken ≤ dl'.length
    rcases hr with ⟨e, _⟩ | ⟨e, _⟩ <;> rw [e]
    · exact htk
    · simp; omega
  · show V2.ready.length + N.taken = dl'.length ∧ ∀ (i m : Nat) (o' : Thing), dl'[N.taken + i]? = some (m + 1) → N.os[m]? = some o' → V2.ready[i]? = some (o'.data, m + 1)
    rcases hr with ⟨e1, e2⟩ | ⟨e1, e2⟩ <;> rw [e1, e2]
    · exact ⟨r1, r2⟩
    · refine ⟨by simp; omega, fun i m o' hd hm => ?_⟩
      by_cases hi : N.taken + i < N.dl.length
      · rw [List.getElem?_append_left hi] at hd
        rw [List.getElem?_append_left (by omega)]
        exact r2 i m o' hd hm
      · have hle : N.taken + i = N.dl.length := by
          have := (List.getElem?_eq_some_iff.1 hd).1
          simp at this
          omega
        rw [hle, List.getElem?_append_right (Nat.le_refl _)] at hd
        simp at hd
        obtain rfl : n = m := by omega
        rw [ho] at hm
        obtain rfl : o = o' := by simpa using hm
        rw [show i = N.V.ready.length by omega, List.getElem?_append_right (Nat.le_refl _)]
        simp
  · obtain ⟨q, hq⟩ := h.four
    exact ⟨q + 1, by show N.hm + 4 = _; omega⟩
  · have := h.nrs
    show 4 * rs'.length ≤ N.hm + 4
    omega
theorem posts_more {N : NetA} (h : InvL N) {dl : List Nat} (hd : ∀ x ∈ N.dl, x ∈ dl) : ∀ i, i < N.wn → ∃ b s n d, N.wx[i * 4]? = some (.bool b) ∧ N.wx[i * 4 + 1]? = some (.string s) ∧ N.wx[i * 4 + 2]? = some (.int .i64 n) ∧ N.wx[i * 4 + 3]? = some (.int .i64 d) ∧ PostOk { N with dl := dl } b s n d := fun i hi => by
  obtain ⟨b, s, n, d, p1, p2, p3, p4, p5⟩ := h.posts i hi
  exact ⟨b, s, n, d, p1, p2, p3, p4, p5.more hd⟩
theorem posts_push {wx : List Value} {wn : Nat} {P : Bool → ByteArray → Int → Int → Prop} (hl : wx.length = wn * 4) (h : ∀ i, i < wn → ∃ b s n d, wx[i * 4]? = some (.bool b) ∧ wx[i * 4 + 1]? = some (.string s) ∧ wx[i * 4 + 2]? = some (.int .i64 n) ∧ wx[i * 4 + 3]? = some (.int .i64 d) ∧ P b s n d) (b : Bool) (s : ByteArray) (n d : Int) (hp : P b s n d) :
    ∀ i, i < wn + 1 → ∃ b' s' n' d', (wx ++ [.bool b, .string s, .int .i64 n, .int .i64 d])[i * 4]? = some (.bool b') ∧ (wx ++ [.bool b, .string s, .int .i64 n, .int .i64 d])[i * 4 + 1]? = some (.string s') ∧
      (wx ++ [.bool b, .string s, .int .i64 n, .int .i64 d])[i * 4 + 2]? = some (.int .i64 n') ∧ (wx ++ [.bool b, .string s, .int .i64 n, .int .i64 d])[i * 4 + 3]? = some (.int .i64 d') ∧ P b' s' n' d' := by
  intro i hi
  by_cases hlt : i < wn
  · obtain ⟨b', s', n', d', h0, h1, h2, h3, h4⟩ := h i hlt
    exact ⟨b', s', n', d', by rw [List.getElem?_append_left (by omega)]; exact h0, by rw [List.getElem?_append_left (by omega)]; exact h1, by rw [List.getElem?_append_left (by omega)]; exact h2, by rw [List.getElem?_append_left (by omega)]; exact h3, h4⟩
  · obtain rfl : i = wn := by omega
    refine ⟨b, s, n, d, ?_, ?_, ?_, ?_, hp⟩
    · rw [List.getElem?_append_right (by omega), show i * 4 - wx.length = 0 by omega]; rfl
    · rw [List.getElem?_append_right (by omega), show i * 4 + 1 - wx.length = 1 by omega]; rfl
    · rw [List.getElem?_append_right (by omega), show i * 4 + 2 - wx.length = 2 by omega]; rfl
    · rw [List.getElem?_append_right (by omega), show i * 4 + 3 - wx.length = 3 by omega]; rfl

theorem StpM.came {w0 w w' : World} {N0 N : NetA} {num K2 r : Nat} {b : Bool} (s : StpM w0 N0 w N) (hc : CameW w w' N.bn (netF N) 0 num K2 r N.last N.K N.gv N.gs N.rs N.dv N.dl b) :
    ∃ (K' last' : Nat) (gv' : Value) (gs' rs' : List Nat) (dv' : Value) (dl' : List Nat), CameIs num K2 r N.last N.K N.rs N.dl b last' K' rs' dl' ∧ StpM w0 N0 w' { N with last := last', K := K', gv := gv', gs := gs', rs := rs', dv := dv', dl := dl' } := by
  obtain ⟨K', last', gv', gs', rs', dv', dl', c1, c2, c3, c4, c5⟩ := s.m.came hc
  refine ⟨K', last', gv', gs', rs', dv', dl', c1, s.trans ⟨c2, c3, rfl, fun k hk => ?_, fun k hk => ?_⟩⟩
  · rcases List.mem_append.1 hk with q | q
    · rcases c4 k q with q | q
      · exact .inl (List.mem_append_left _ q)
      · exact .inr q
    · exact .inl (List.mem_append_right _ q)
  · rcases List.mem_append.1 hk with q | q
    · exact .inl (List.mem_append_left _ q)
    · rcases c5 k q with q | q
      · exact .inl (List.mem_append_right _ q)
      · exact .inr q
end Go.Proofs.YtfbbidaoljfloaaDoor
