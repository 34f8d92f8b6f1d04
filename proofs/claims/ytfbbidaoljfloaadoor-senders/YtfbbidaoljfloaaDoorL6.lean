import Derived.Test.YtfbbidaoljfloaaDoorL5
namespace Go.Proofs.YtfbbidaoljfloaaDoor
open Go.RowKit

def NetM.submitted (N : NetM) (o : Thing) (g1 c1 g2 c2 : Nat) : NetM := { N with os := N.os ++ [o], ps := N.ps ++ [o], psl := some ⟨g1, 0, none⟩, pcap := c1, rsl := some ⟨g2, 0, none⟩, rcap := c2 }

theorem Inv.submitted {w w1 w2 : World} {N : NetM} (h : Inv w N) (o : Thing) (g1 c1 g2 c2 : Nat) (T1 : Turn (N.bs :: N.pv.ownBlock.toList) w w1) (S1 : SenderAt w1 N.bs N.blk N.bud (.slice (some ⟨g1, 0, none⟩) (N.os.length + 1) c1) N.en)
    (P1 : Things w1 110 (some ⟨g1, 0, none⟩) (N.os.length + 1) c1 (N.ps ++ [o])) (a1 : N.pv.ownBlock = some g1 ∨ w.heap.size ≤ g1) (T2 : Turn N.rv.ownBlock.toList w1 w2)
    (R2 : Things w2 158 (some ⟨g2, 0, none⟩) (N.os.length + 1) c2 (N.os ++ [o])) (a2 : N.rv.ownBlock = some g2 ∨ w1.heap.size ≤ g2) (sh : Shape N.blk N.bud N.en (N.os ++ [o]) (N.ps ++ [o])) :
    Stp w N (w2.setCell ⟨N.bn, 4, none⟩ (.slice (some ⟨g2, 0, none⟩) (N.os.length + 1) c2)) (N.submitted o g1 c1 g2 c2) := by
  have A := h.aps
  have e : (N.os ++ [o]).length = N.os.length + 1 := by simp
  have hlt := fun k hk => h.lt k hk
  have mb : ∀ k, some k ∈ N.own → k < w.heap.size := fun k hk => h.lt k ((N.mem_blocks k).2 hk)
  have bnlt : N.bn < w.heap.size := mb _ (by simp [NetM.own])
  have bslt : N.bs < w.heap.size := mb _ (by simp [NetM.own])
  have plt : ∀ k, N.pv.ownBlock = some k → k < w.heap.size := fun k hk => mb k (by simp [NetM.own, hk])
  have rlt : ∀ k, N.rv.ownBlock = some k → k < w.heap.size := fun k hk => mb k (by simp [NetM.own, hk])
  have ylt : ∀ k, N.wv.ownBlock = some k → k < w.heap.size := fun k hk => mb k (by simp [NetM.own, hk])
  have hlt' : ∀ k, N.hv.ownBlock = some k → k < w.heap.size := fun k hk => mb k (by simp [NetM.own, hk])
  have z1 := T1.size
  have g1lt : g1 < w1.heap.size := owns_lt P1.owns rfl
  -- where the new rows lie, against the others
  have n1 : g1 ≠ N.bn := by
    rcases a1 with r | r
    · intro q; exact A.np (by rw [r, q])
    · omega
  have s1 : g1 ≠ N.bs := by
    rcases a1 with r | r
    · intro q; exact A.sp (by rw [r, q])
    · omega
  have far1 : ∀ x : Option Nat, Ap N.pv.ownBlock x → (∀ k, x = some k → k < w.heap.size) → Ap (some g1) x := by
    intro x hx hl k hk
    simp only [Option.some.injEq] at hk
    subst hk
    rcases a1 with r | r
    · exact hx _ r
    · intro q; have := hl _ q; omega
  have n2 : g2 ≠ N.bn := by
    rcases a2 with r | r
    · intro q; exact A.nr (by rw [r, q])
    · omega
  have s2 : g2 ≠ N.bs := by
    rcases a2 with r | r
    · intro q; exact A.sr (by rw [r, q])
    · omega
  have far2 : ∀ x : Option Nat, Ap N.rv.ownBlock x → (∀ k, x = some k → k < w.heap.size) → Ap (some g2) x := by
    intro x hx hl k hk
    simp only [Option.some.injEq] at hk
    subst hk
    rcases a2 with r | r
    · exact hx _ r
    · intro q; have := hl _ q; omega
  have n12 : g1 ≠ g2 := by
    rcases a2 with r | r
    · rcases a1 with q | q
      · intro t; exact A.pr g1 q (by rw [r, t])
      · have := rlt _ r; omega
    · omega
  -- the whole turn
  have TT : Turn (N.bs :: (N.pv.ownBlock.toList ++ N.rv.ownBlock.toList)) w w2 := (T1.mono (fun x hx => by simp only [List.mem_cons, List.mem_append] at hx ⊢; rcases hx with q | q; exact .inl q; exact .inr (.inl q))).trans T2 (fun x hx => .inl (by simp only [List.mem_cons, List.mem_append]; exact .inr (.inr hx)))
  have TF : Turn (N.bn :: N.bs :: (N.pv.ownBlock.toList ++ N.rv.ownBlock.toList)) w (w2.setCell ⟨N.bn, 4, none⟩ (.slice (some ⟨g2, 0, none⟩) (N.os.length + 1) c2)) := (TT.mono (fun x hx => List.mem_cons_of_mem _ hx)).setCell (.inl (by simp)) _
  have off : ∀ x : Option Nat, x ≠ some N.bn → x ≠ some N.bs → Ap N.pv.ownBlock x → Ap N.rv.ownBlock x → ∀ k, x = some k → k ∉ N.bn :: N.bs :: (N.pv.ownBlock.toList ++ N.rv.ownBlock.toList) := by
    intro x h1 h2 h3 h4 k hk hm
    simp only [List.mem_cons, List.mem_append, Option.mem_toList] at hm
    rcases hm with q | q | q | q
    · exact h1 (by rw [hk, q])
    · exact h2 (by rw [hk, q])
    · exact h3 k q hk
    · exact h4 k q hk
  have Tc : Turn [N.bn] w2 (w2.setCell ⟨N.bn, 4, none⟩ (.slice (some ⟨g2, 0, none⟩) (N.os.length + 1) c2)) := (Turn.refl _ _).setCell (.inl (by simp)) _
  have hnet2 := TT.cells h.hold.net (by
    intro hm
    simp only [List.mem_cons, List.mem_append, Option.mem_toList] at hm
    rcases hm with q | q | q
    · exact A.ns q
    · exact A.np q
    · exact A.nr q)
  have rooff : ∀ k ∈ N.ros, k ∉ N.bn :: N.bs :: (N.pv.ownBlock.toList ++ N.rv.ownBlock.toList) := by
    intro k hk hm
    apply h.ro k hk
    rw [N.mem_blocks]
    simp only [List.mem_cons, List.mem_append, Option.mem_toList] at hm
    simp only [NetM.own, List.mem_cons, List.not_mem_nil, or_false, Option.some.injEq]
    rcases hm with q | q | q | q
    · exact .inl q
    · exact .inr (.inl q)
    · exact .inr (.inr (.inl q.symm))
    · exact .inr (.inr (.inr (.inl q.symm)))
  have hblocks : ∀ k ∈ (N.submitted o g1 c1 g2 c2).blocks, k ∈ N.blocks ∨ w.heap.size ≤ k := by
    intro k hk
    rw [NetM.mem_blocks] at hk ⊢
    simp only [NetM.own, NetM.submitted, NetM.pv, NetM.rv, NetM.wv, NetM.hv, Value.ownBlock, List.mem_cons, List.not_mem_nil, or_false, Option.some.injEq] at hk
    simp only [NetM.own, List.mem_cons, List.not_mem_nil, or_false, Option.some.injEq]
    rcases hk with q | q | q | q | q | q
    · exact .inl (.inl q)
    · exact .inl (.inr (.inl q))
    · subst q
      rcases a1 with r | r
      · exact .inl (.inr (.inr (.inl r.symm)))
      · exact .inr r
    · subst q
      rcases a2 with r | r
      · exact .inl (.inr (.inr (.inr (.inl r.symm))))
      · right; omega
    · exact .inl (.inr (.inr (.inr (.inr (.inl q)))))
    · exact .inl (.inr (.inr (.inr (.inr (.inr q)))))
  refine ⟨⟨⟨?_, ?_, A.nh, h.hold.len⟩, ?_, ?_, ?_, ?_, ?_, ?_, ?_, sh, h.blk1, h.blk2, h.bud1, h.bud2, h.four⟩, ?_, rfl, hblocks, fun k hk => .inl hk, by simp [NetM.submitted], by simp [NetM.submitted]⟩
  · show _ = some (Obj.cells (netCells N.bs N.blk N.bud (.slice (some ⟨g2, 0, none⟩) (N.os ++ [o]).length c2) N.wv N.hv) _ _)
    rw [e]
    exact heap_setCell_same _ _ _ _ _ _ hnet2
  · exact TF.owns h.hold.owns (off _ A.nh A.sh A.ph A.rh)
  · exact h.way.turn TF (off _ A.ny A.sy A.py A.ry)
  · show SenderAt _ N.bs N.blk N.bud (.slice (some ⟨g1, 0, none⟩) (N.os ++ [o]).length c1) N.en
    rw [e]
    exact (S1.turn T2 (not_mem_toList A.sr)).turn Tc (by simpa using A.ns.symm)
  · show Things _ _ (some ⟨g1, 0, none⟩) (N.os ++ [o]).length c1 (N.ps ++ [o])
    rw [e]
    refine (P1.turn T2 (fun k hk hm => ?_)).turn Tc (fun k hk hm => ?_)
    · simp only [Value.ownBlock, Option.some.injEq] at hk
      subst hk
      have hr : N.rv.ownBlock = some g1 := by simpa using hm
      rcases a1 with q | q
      · exact A.pr g1 q hr
      · have := rlt _ hr; omega
    · simp only [Value.ownBlock, Option.some.injEq] at hk
      simp at hm
      exact n1 (by omega)
  · show Things _ _ (some ⟨g2, 0, none⟩) (N.os ++ [o]).length c2 (N.os ++ [o])
    rw [e]
    exact R2.turn Tc (fun k hk hm => by
      simp only [Value.ownBlock, Option.some.injEq] at hk
      simp at hm
      exact n2 (by omega))
  · intro i hi
    exact (h.lists i hi).turn TF (fun k hk => rooff k (List.mem_filterMap.2 ⟨_, List.getElem_mem hi, hk⟩))
  · intro k hk hm
    rcases hblocks k hm with q | q
    · exact h.ro k hk q
    · have := h.ro_lt k hk; omega
  · show [some N.bn, some N.bs, some g1, some g2, N.wv.ownBlock, N.hv.ownBlock].Pairwise Ap
    rw [aps_iff]
    exact ⟨A.ns, by simpa using n1, by simpa using n2, A.ny, A.nh, by simpa using s1, by simpa using s2, A.sy, A.sh, (by intro k hk q; simp at hk q; omega), far1 _ A.py ylt, far1 _ A.ph hlt', far2 _ A.ry ylt, far2 _ A.rh hlt', A.yh⟩
  · refine TF.mono (fun x hx => ?_)
    rw [N.mem_blocks]
    simp only [List.mem_cons, List.mem_append, Option.mem_toList] at hx
    simp only [NetM.own, List.mem_cons, List.not_mem_nil, or_false, Option.some.injEq]
    rcases hx with q | q | q | q
    · exact .inl q
    · exact .inr (.inl q)
    · exact .inr (.inr (.inl q.symm))
    · exact .inr (.inr (.inr (.inl q.symm)))

end Go.Proofs.YtfbbidaoljfloaaDoor
