import Derived.Test.YtfbbidaoljfloaaDoorL7
namespace Go.Proofs.YtfbbidaoljfloaaDoor
open Go.RowKit

theorem Stp.pre {w w0 w' : World} {N N' : NetM} (t : Turn [] w w0) (s : Stp w0 N w' N') : Stp w N w' N' := by
  have z := t.size
  refine ⟨s.inv, (t.mono (by simp)).trans s.turn (fun x hx => .inl hx), s.bn, fun k hk => ?_, fun k hk => ?_, s.hm, s.wn⟩
  · rcases s.blocks k hk with q | q
    · exact .inl q
    · right; omega
  · rcases s.ros k hk with q | q
    · exact .inl q
    · right; omega

def NetM.ticked (N : NetM) (os ps : List Thing) (en : Nat) : NetM := { N with os := os, ps := ps, en := en }

theorem Inv.ticked {w w1 w2 : World} {N : NetM} (h : Inv w N) (os ps : List Thing) (en : Nat) (hlen : os.length = N.os.length) (T1 : Turn (N.bs :: N.pv.ownBlock.toList) w w1) (S1 : SenderAt w1 N.bs N.blk N.bud N.pv en)
    (P1 : Things w1 110 N.psl N.os.length N.pcap ps) (T2 : Turn N.rv.ownBlock.toList w1 w2) (R2 : Things w2 158 N.rsl N.os.length N.rcap os) (sh : Shape N.blk N.bud en os ps) :
    Stp w N w2 (N.ticked os ps en) := by
  have A := h.aps
  have TT : Turn (N.bs :: (N.pv.ownBlock.toList ++ N.rv.ownBlock.toList)) w w2 := (T1.mono (fun x hx => by simp only [List.mem_cons, List.mem_append] at hx ⊢; rcases hx with q | q; exact .inl q; exact .inr (.inl q))).trans T2 (fun x hx => .inl (by simp only [List.mem_cons, List.mem_append]; exact .inr (.inr hx)))
  have off : ∀ x : Option Nat, x ≠ some N.bs → Ap N.pv.ownBlock x → Ap N.rv.ownBlock x → ∀ k, x = some k → k ∉ N.bs :: (N.pv.ownBlock.toList ++ N.rv.ownBlock.toList) := by
    intro x h2 h3 h4 k hk hm
    simp only [List.mem_cons, List.mem_append, Option.mem_toList] at hm
    rcases hm with q | q | q
    · exact h2 (by rw [hk, q])
    · exact h3 k q hk
    · exact h4 k q hk
  have e1 : (N.ticked os ps en).pv = N.pv := by simp [NetM.ticked, NetM.pv, hlen]
  have e2 : (N.ticked os ps en).rv = N.rv := by simp [NetM.ticked, NetM.rv, hlen]
  have eo : (N.ticked os ps en).own = N.own := by simp only [NetM.own, e1, e2]; rfl
  have eb : (N.ticked os ps en).blocks = N.blocks := by simp only [NetM.blocks, eo]
  have sub : ∀ x ∈ N.bs :: (N.pv.ownBlock.toList ++ N.rv.ownBlock.toList), x ∈ N.blocks := by
    intro x hx
    rw [N.mem_blocks]
    simp only [List.mem_cons, List.mem_append, Option.mem_toList] at hx
    simp only [NetM.own, List.mem_cons, List.not_mem_nil, or_false, Option.some.injEq]
    rcases hx with q | q | q
    · exact .inr (.inl q)
    · exact .inr (.inr (.inl q.symm))
    · exact .inr (.inr (.inr (.inl q.symm)))
  refine ⟨⟨?_, h.way.turn TT (off _ A.sy A.py A.ry), ?_, ?_, ?_, fun i hi => ?_, ?_, by rw [eo]; exact h.dist, sh, h.blk1, h.blk2, h.bud1, h.bud2, h.four⟩, TT.mono sub, rfl, fun k hk => .inl (by rw [eb] at hk; exact hk), fun k hk => .inl hk, by simp [NetM.ticked], by simp [NetM.ticked]⟩
  · rw [e2]
    exact h.hold.turn TT (by
      intro hm
      simp only [List.mem_cons, List.mem_append, Option.mem_toList] at hm
      rcases hm with q | q | q
      · exact A.ns q
      · exact A.np q
      · exact A.nr q) (off _ A.sh A.ph A.rh)
  · rw [e1]
    exact S1.turn T2 (not_mem_toList A.sr)
  · show Things w2 _ N.psl os.length N.pcap ps
    rw [hlen]
    exact P1.turn T2 (fun k hk hm => A.pr k hk (by simpa using hm))
  · show Things w2 _ N.rsl os.length N.rcap os
    rw [hlen]
    exact R2
  · exact (h.lists i hi).turn TT (fun k hk hm => h.ro k (List.mem_filterMap.2 ⟨_, List.getElem_mem hi, hk⟩) (sub k hm))
  · rw [eb]
    exact h.ro

def NetM.kept (N : NetM) (wsl : Option Addr) (wn wcap : Nat) (wx : List Value) (hsl : Option Addr) (hcap : Nat) (l : List Value) : NetM :=
  { N with wsl := wsl, wn := wn, wcap := wcap, wx := wx, hsl := hsl, hm := N.hm + 4, hcap := hcap, hs := N.hs ++ l }

theorem Stp.kept {w0 w w' : World} {N0 N : NetM} (s : Stp w0 N0 w N) (e1 : N.hm = N0.hm) (e2 : N.wn = N0.wn) {S : List Nat} {wsl : Option Addr} {wn wcap : Nat} {wx : List Value} {hsl : Option Addr} {hcap q : Nat} {v0 a b c : Value} (T : Turn S w w')
    (hS : ∀ x ∈ S, x ∈ N.blocks ∨ w0.heap.size ≤ x) (hSo : ∀ x ∈ S, x = N.bn ∨ N.wv.ownBlock = some x ∨ N.hv.ownBlock = some x ∨ (x ∉ N.blocks ∧ x ∉ N.ros))
    (hH : HoldAt w' N.bn N.bs N.blk N.bud N.rv (.slice wsl wn wcap) hsl (N.hm + 4) hcap (N.hs ++ [v0, a, b, c])) (hY : WayAt w' N.bn wsl wn wcap wx)
    (l0 : HeldList w' (markOf q) v0) (la : HeldList w' (markOf q) a) (lb : HeldList w' (markOf q) b) (lc : HeldList w' (markOf q) c) (hq : N.hm = 4 * q)
    (nb : ∀ k, v0.ownBlock = some k ∨ a.ownBlock = some k ∨ b.ownBlock = some k ∨ c.ownBlock = some k → w0.heap.size ≤ k ∧ k ∉ N.blocks ∧ (Value.slice hsl (N.hm + 4) hcap).ownBlock ≠ some k ∧ (Value.slice wsl wn wcap).ownBlock ≠ some k)
    (ah : (Value.slice hsl (N.hm + 4) hcap).ownBlock = N.hv.ownBlock ∨ ∃ k, (Value.slice hsl (N.hm + 4) hcap).ownBlock = some k ∧ w.heap.size ≤ k)
    (ay : (Value.slice wsl wn wcap).ownBlock = N.wv.ownBlock ∨ ∃ k, (Value.slice wsl wn wcap).ownBlock = some k ∧ w.heap.size ≤ k)
    (yh : Ap (Value.slice wsl wn wcap).ownBlock (Value.slice hsl (N.hm + 4) hcap).ownBlock) (hwn : wn ≤ N.wn + 1) :
    Stp w0 N0 w' (N.kept wsl wn wcap wx hsl hcap [v0, a, b, c]) := by
  have h := s.inv
  have A := h.aps
  have z := s.turn.size
  have mb : ∀ k, some k ∈ N.own → k < w.heap.size := fun k hk => h.lt k ((N.mem_blocks k).2 hk)
  have bnlt : N.bn < w.heap.size := mb _ (by simp [NetM.own])
  have bslt : N.bs < w.heap.size := mb _ (by simp [NetM.own])
  have plt : ∀ k, N.pv.ownBlock = some k → k < w.heap.size := fun k hk => mb k (by simp [NetM.own, hk])
  have rlt : ∀ k, N.rv.ownBlock = some k → k < w.heap.size := fun k hk => mb k (by simp [NetM.own, hk])
  have inb : ∀ x : Nat, some x ∈ N.own → x ≠ N.bn → N.wv.ownBlock ≠ some x → N.hv.ownBlock ≠ some x → x ∉ S := by
    intro x hx h1 h2 h3 hm
    rcases hSo x hm with q | q | q | q
    · exact h1 q
    · exact h2 q
    · exact h3 q
    · exact q.1 ((N.mem_blocks x).2 hx)
  have roS : ∀ k ∈ N.ros, k ∉ S := by
    intro k hk hm
    have hn := h.ro k hk
    rw [N.mem_blocks] at hn
    rcases hSo k hm with q | q | q | q
    · exact hn (by simp [NetM.own, q])
    · exact hn (by simp [NetM.own, q])
    · exact hn (by simp [NetM.own, q])
    · exact q.2 hk
  have fr : ∀ (v x : Option Nat) (o : Option Nat), (v = o ∨ ∃ k, v = some k ∧ w.heap.size ≤ k) → Ap x o → (∀ k, x = some k → k < w.heap.size) → Ap x v := by
    intro v x o hv ho hl k hk
    rcases hv with r | ⟨j, r1, r2⟩
    · rw [r]; exact ho k hk
    · rw [r1]; have := hl k hk; simp; omega
  have eo : (N.kept wsl wn wcap wx hsl hcap [v0, a, b, c]).own = [some N.bn, some N.bs, N.pv.ownBlock, N.rv.ownBlock, (Value.slice wsl wn wcap).ownBlock, (Value.slice hsl (N.hm + 4) hcap).ownBlock] := rfl
  have sym : ∀ {x y : Option Nat}, Ap x y → Ap y x := fun hxy => hxy.symm
  have D : (N.kept wsl wn wcap wx hsl hcap [v0, a, b, c]).own.Pairwise Ap := by
    rw [eo, aps_iff]
    have one : ∀ (b : Nat) (v o : Option Nat), (v = o ∨ ∃ k, v = some k ∧ w.heap.size ≤ k) → o ≠ some b → b < w.heap.size → v ≠ some b := by
      intro b v o hv ho hl
      rcases hv with r | ⟨j, r1, r2⟩
      · rw [r]; exact ho
      · rw [r1]; simp; omega
    exact ⟨A.ns, A.np, A.nr, one _ _ _ ay A.ny bnlt, one _ _ _ ah A.nh bnlt, A.sp, A.sr, one _ _ _ ay A.sy bslt, one _ _ _ ah A.sh bslt, A.pr, fr _ _ _ ay A.py plt, fr _ _ _ ah A.ph plt, fr _ _ _ ay A.ry rlt, fr _ _ _ ah A.rh rlt, yh⟩
  have B : ∀ k ∈ (N.kept wsl wn wcap wx hsl hcap [v0, a, b, c]).blocks, k ∈ N.blocks ∨ w.heap.size ≤ k := by
    intro k hk
    rw [NetM.mem_blocks, eo] at hk
    rw [N.mem_blocks]
    simp only [NetM.own, List.mem_cons, List.not_mem_nil, or_false, Option.some.injEq] at hk ⊢
    rcases hk with r | r | r | r | r | r
    · exact .inl (.inl r)
    · exact .inl (.inr (.inl r))
    · exact .inl (.inr (.inr (.inl r)))
    · exact .inl (.inr (.inr (.inr (.inl r))))
    · rcases ay with t | ⟨j, t1, t2⟩
      · exact .inl (.inr (.inr (.inr (.inr (.inl (by rw [← t]; exact r))))))
      · right; rw [t1] at r; simp at r; omega
    · rcases ah with t | ⟨j, t1, t2⟩
      · exact .inl (.inr (.inr (.inr (.inr (.inr (by rw [← t]; exact r))))))
      · right; rw [t1] at r; simp at r; omega
  have hlen := h.hold.len
  have RO : ∀ k ∈ (N.kept wsl wn wcap wx hsl hcap [v0, a, b, c]).ros, k ∈ N.ros ∨ (w0.heap.size ≤ k ∧ k ∉ N.blocks ∧ (Value.slice hsl (N.hm + 4) hcap).ownBlock ≠ some k ∧ (Value.slice wsl wn wcap).ownBlock ≠ some k) := by
    intro k hk
    obtain ⟨v, hv, hvk⟩ := List.mem_filterMap.1 hk
    rcases List.mem_append.1 (show v ∈ N.hs ++ [v0, a, b, c] from hv) with r | r
    · exact .inl (List.mem_filterMap.2 ⟨v, r, hvk⟩)
    · right
      apply nb k
      simp at r
      rcases r with rfl | rfl | rfl | rfl
      · exact .inl hvk
      · exact .inr (.inl hvk)
      · exact .inr (.inr (.inl hvk))
      · exact .inr (.inr (.inr hvk))
  refine ⟨⟨hH, hY, ?_, ?_, ?_, ?_, ?_, D, h.shape, h.blk1, h.blk2, h.bud1, h.bud2, ⟨q + 1, by show N.hm + 4 = _; omega⟩⟩, s.turn.trans T (fun x hx => ?_), s.bn, ?_, ?_, ?_, ?_⟩
  · exact h.snd.turn T (inb _ (by simp [NetM.own]) A.ns.symm A.sy A.sh)
  · exact h.pth.turn T (fun k hk => inb k (by simp only [NetM.own, NetM.pv]; rw [hk]; simp) (fun t => A.np (by rw [← t]; exact hk)) (A.py k hk) (A.ph k hk))
  · exact h.rth.turn T (fun k hk => inb k (by simp only [NetM.own, NetM.rv]; rw [hk]; simp) (fun t => A.nr (by rw [← t]; exact hk)) (A.ry k hk) (A.rh k hk))
  · intro i hi
    have hi' : i < (N.hs ++ [v0, a, b, c]).length := hi
    show HeldList w' (markOf (i / 4)) (N.hs ++ [v0, a, b, c])[i]
    by_cases hlt : i < N.hs.length
    · rw [List.getElem_append_left hlt]
      exact (h.lists i hlt).turn T (fun k hk => roS k (List.mem_filterMap.2 ⟨_, List.getElem_mem hlt, hk⟩))
    · rw [List.getElem_append_right (by omega)]
      simp only [List.length_append, List.length_cons, List.length_nil] at hi'
      have e : i / 4 = q := by omega
      rw [e]
      have : i - N.hs.length = 0 ∨ i - N.hs.length = 1 ∨ i - N.hs.length = 2 ∨ i - N.hs.length = 3 := by omega
      rcases this with r | r | r | r <;> simp only [r]
      · exact l0
      · exact la
      · exact lb
      · exact lc
  · intro k hk hm
    rcases RO k hk with r | ⟨r1, r2, r3, r4⟩
    · rcases B k hm with t | t
      · exact h.ro k r t
      · have := h.ro_lt k r; omega
    · rw [NetM.mem_blocks, eo] at hm
      rw [N.mem_blocks] at r2
      simp only [NetM.own, List.mem_cons, List.not_mem_nil, or_false, Option.some.injEq] at hm r2
      rcases hm with t | t | t | t | t | t
      · exact r2 (.inl t)
      · exact r2 (.inr (.inl t))
      · exact r2 (.inr (.inr (.inl t)))
      · exact r2 (.inr (.inr (.inr (.inl t))))
      · exact r4 t.symm
      · exact r3 t.symm
  · rcases hS x hx with r | r
    · exact (s.blocks x r)
    · exact .inr r
  · intro k hk
    rcases B k hk with r | r
    · exact s.blocks k r
    · right; omega
  · intro k hk
    rcases RO k hk with r | r
    · exact s.ros k r
    · exact .inr r.1
  · show N.hm + 4 ≤ N0.hm + 4
    omega
  · show wn ≤ N0.wn + 1
    omega

end Go.Proofs.YtfbbidaoljfloaaDoor
