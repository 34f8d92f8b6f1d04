import Derived.Test.YtfbbidaoljfloaaDoorL8
namespace Go.Proofs.YtfbbidaoljfloaaDoor
open Go.RowKit

theorem lawSubmit (N : NetM) (k a n m nonce mask : Int) (s : ByteArray) (w : World) (h : Inv w N) :
    Calls Tryd.prog 60 #[.pointer (some ⟨N.bn, 0, none⟩), opV k a n m nonce mask s] w fun e w' => e = .returned (.bool true) ∧ ∃ N', Stp w N w' N' := by
  have := h.shape.n500
  by_cases hno : 32 * (N.blk : Int) < (s.size : Int) ∨ N.os.length = 500 ∨ 8 ≤ cntSt N.os 1
  · exact lawSubmit_no N k a n m nonce mask s w h hno
  · exact lawSubmit_yes N k a n m nonce mask s w h (by omega) (by omega) (by omega)

/-- A tick that sent nothing. -/
theorem Stp.kept_none {w0 w w' : World} {N0 N : NetM} (s : Stp w0 N0 w N) (e1 : N.hm = N0.hm) (e2 : N.wn = N0.wn) {hsl : Option Addr} {hcap q : Nat} {a b c : Value} (T : Turn (N.bn :: (Value.slice N.hsl N.hm N.hcap).ownBlock.toList) w w') (hY : WayAt w N.bn N.wsl N.wn N.wcap N.wx)
    (hH : HoldAt w' N.bn N.bs N.blk N.bud N.rv N.wv hsl (N.hm + 4) hcap (N.hs ++ [.slice none 0 0, a, b, c]))
    (l0 : HeldList w' (markOf q) (.slice none 0 0)) (la : HeldList w' (markOf q) a) (lb : HeldList w' (markOf q) b) (lc : HeldList w' (markOf q) c) (hq : N.hm = 4 * q)
    (nb : ∀ k, a.ownBlock = some k ∨ b.ownBlock = some k ∨ c.ownBlock = some k → w.heap.size ≤ k ∧ (Value.slice hsl (N.hm + 4) hcap).ownBlock ≠ some k)
    (ah : (Value.slice hsl (N.hm + 4) hcap).ownBlock = (Value.slice N.hsl N.hm N.hcap).ownBlock ∨ ∃ k, (Value.slice hsl (N.hm + 4) hcap).ownBlock = some k ∧ w.heap.size ≤ k) :
    Stp w0 N0 w' (N.kept N.wsl N.wn N.wcap N.wx hsl hcap [.slice none 0 0, a, b, c]) := by
  have h := s.inv
  have A := h.aps
  have z := s.turn.size
  have ylt : ∀ k, N.wv.ownBlock = some k → k < w.heap.size := fun k hk => h.lt k ((N.mem_blocks k).2 (by simp [NetM.own, hk]))
  refine s.kept e1 e2 T (fun x hx => ?_) (fun x hx => ?_) hH (hY.turn T (fun k hk hm => ?_)) l0 la lb lc hq (fun k hk => ?_) ah (.inl rfl) ?_ (by omega)
  · left
    rw [N.mem_blocks]
    simp only [List.mem_cons, Option.mem_toList] at hx
    simp only [NetM.own, List.mem_cons, List.not_mem_nil, or_false, Option.some.injEq]
    rcases hx with r | r
    · exact .inl r
    · exact .inr (.inr (.inr (.inr (.inr r.symm))))
  · simp only [List.mem_cons, Option.mem_toList] at hx
    rcases hx with r | r
    · exact .inl r
    · exact .inr (.inr (.inl r))
  · simp only [List.mem_cons, Option.mem_toList] at hm
    rcases hm with r | r
    · exact A.ny (by rw [← r]; exact hk)
    · exact A.yh k hk r
  · have hk' : a.ownBlock = some k ∨ b.ownBlock = some k ∨ c.ownBlock = some k := by
      rcases hk with r | r
      · simp [Value.ownBlock] at r
      · exact r
    have r := nb k hk'
    exact ⟨by omega, fun hm => by have := h.lt k hm; omega, r.2, fun t => by have := ylt k t; omega⟩
  · intro k hk
    rcases ah with r | ⟨j, r1, r2⟩
    · rw [r]; exact A.yh k hk
    · rw [r1]; have := ylt k hk; simp; omega

/-- A tick that sent a frame. -/
theorem Stp.kept_one {w0 w w' : World} {N0 N : NetM} (s : Stp w0 N0 w N) (e1 : N.hm = N0.hm) (e2 : N.wn = N0.wn) {G : Nat} {wsl : Option Addr} {wcap : Nat} {wx : List Value} {hsl : Option Addr} {hcap q : Nat} {a b c : Value}
    (T : Turn (N.bn :: G :: ((Value.slice N.hsl N.hm N.hcap).ownBlock.toList ++ (Value.slice N.wsl N.wn N.wcap).ownBlock.toList)) w w') (hG : w0.heap.size ≤ G) (hGlt : G < w.heap.size) (hGb : G ∉ N.blocks) (hGr : G ∉ N.ros)
    (hH : HoldAt w' N.bn N.bs N.blk N.bud N.rv (.slice wsl (N.wn + 1) wcap) hsl (N.hm + 4) hcap (N.hs ++ [.slice (some ⟨G, 0, none⟩) 1 1, a, b, c])) (hY : WayAt w' N.bn wsl (N.wn + 1) wcap wx)
    (l0 : HeldList w' (markOf q) (.slice (some ⟨G, 0, none⟩) 1 1)) (la : HeldList w' (markOf q) a) (lb : HeldList w' (markOf q) b) (lc : HeldList w' (markOf q) c) (hq : N.hm = 4 * q)
    (nb : ∀ k, a.ownBlock = some k ∨ b.ownBlock = some k ∨ c.ownBlock = some k → w.heap.size ≤ k ∧ (Value.slice hsl (N.hm + 4) hcap).ownBlock ≠ some k ∧ (Value.slice wsl (N.wn + 1) wcap).ownBlock ≠ some k)
    (ah : (Value.slice hsl (N.hm + 4) hcap).ownBlock = (Value.slice N.hsl N.hm N.hcap).ownBlock ∨ ∃ k, (Value.slice hsl (N.hm + 4) hcap).ownBlock = some k ∧ w.heap.size ≤ k)
    (ay : (Value.slice wsl (N.wn + 1) wcap).ownBlock = (Value.slice N.wsl N.wn N.wcap).ownBlock ∨ ∃ k, (Value.slice wsl (N.wn + 1) wcap).ownBlock = some k ∧ w.heap.size ≤ k)
    (yh : ∀ k, (Value.slice wsl (N.wn + 1) wcap).ownBlock = some k → (Value.slice hsl (N.hm + 4) hcap).ownBlock ≠ some k) :
    Stp w0 N0 w' (N.kept wsl (N.wn + 1) wcap wx hsl hcap [.slice (some ⟨G, 0, none⟩) 1 1, a, b, c]) := by
  have h := s.inv
  have z := s.turn.size
  have hGo : some G ∉ N.own := fun q => hGb ((N.mem_blocks G).2 q)
  refine s.kept e1 e2 T (fun x hx => ?_) (fun x hx => ?_) hH hY l0 la lb lc hq (fun k hk => ?_) ah ay yh (Nat.le_refl _)
  · rw [N.mem_blocks]
    simp only [List.mem_cons, List.mem_append, Option.mem_toList] at hx
    simp only [NetM.own, List.mem_cons, List.not_mem_nil, or_false, Option.some.injEq]
    rcases hx with r | r | r | r
    · exact .inl (.inl r)
    · right; omega
    · exact .inl (.inr (.inr (.inr (.inr (.inr r.symm)))))
    · exact .inl (.inr (.inr (.inr (.inr (.inl r.symm)))))
  · simp only [List.mem_cons, List.mem_append, Option.mem_toList] at hx
    rcases hx with r | r | r | r
    · exact .inl r
    · rw [r]; exact .inr (.inr (.inr ⟨hGb, hGr⟩))
    · exact .inr (.inr (.inl r))
    · exact .inr (.inl r)
  · rcases hk with r | r
    · simp only [Value.ownBlock, Option.some.injEq] at r
      subst r
      refine ⟨hG, hGb, fun t => ?_, fun t => ?_⟩
      · rcases ah with u | ⟨j, u1, u2⟩
        · exact hGo (by rw [u] at t; simp only [NetM.own, NetM.hv]; rw [t]; simp)
        · rw [u1] at t; simp at t; omega
      · rcases ay with u | ⟨j, u1, u2⟩
        · exact hGo (by rw [u] at t; simp only [NetM.own, NetM.wv]; rw [t]; simp)
        · rw [u1] at t; simp at t; omega
    · have t := nb k r
      exact ⟨by omega, fun hm => by have := h.lt k hm; omega, t.2.1, t.2.2⟩

set_option maxRecDepth 100000 in
set_option maxHeartbeats 2000000 in
theorem step_submit (N : NetM) (a n m nonce mask : Int) (s : ByteArray) (w : World) (h : Inv w N) :
    Calls Tryd.prog 36 #[.pointer (some ⟨N.bn, 0, none⟩), opV 3 a n m nonce mask s] w fun e w' => e = .returned (.bool true) ∧ ∃ N', Stp w N w' N' := by
  have t0 : Turn [] w (w.alloc (.cells (opCells 3 a n m nonce mask s) 89)) := (Turn.refl _ _).alloc _
  have hI0 := h.turn t0 (by simp) (by simp)
  unfold opV
  go_enter Tryd.func36, Tryd.ntmps36
  go_wp2_with fail
  refine (lawSubmit N 3 a n m nonce mask s _ hI0).mono ?_
  rintro e w1 ⟨rfl, N', st⟩
  go_wp2
  go_ret
  exact ⟨rfl, N', st.pre t0⟩

set_option maxRecDepth 100000 in
set_option maxHeartbeats 2000000 in
theorem step_tick_none (N : NetM) (a n m nonce mask : Int) (s : ByteArray) (w : World) (h : Inv w N) (hbig : N.hm + 4 ≤ 8796093022208) (he : N.en = N.os.length) :
    Calls Tryd.prog 36 #[.pointer (some ⟨N.bn, 0, none⟩), opV 4 a n m nonce mask s] w fun e w' => e = .returned (.bool true) ∧ ∃ N', Stp w N w' N' := by
  have A := h.aps
  obtain ⟨q, hq⟩ := h.four
  obtain ⟨f2, f1⟩ := h.shape.find_none he
  have hl5 := h.shape.n500
  obtain ⟨W, hW⟩ : ∃ W, W = w.alloc (.cells (opCells 4 a n m nonce mask s) 89) := ⟨_, rfl⟩
  have t0 : Turn [] w W := by rw [hW]; exact (Turn.refl _ _).alloc _
  have hI0 : Inv W N := h.turn t0 (by simp) (by simp)
  obtain ⟨n0, n2, n3, n4, n10, nlt⟩ := hI0.netCell
  have hs0 : SenderAt W N.bs N.blk N.bud N.pv N.os.length := by rw [← he]; exact hI0.snd
  have HW : Hid (W = w.alloc (.cells (opCells 4 a n m nonce mask s) 89)) := hW
  have HE : Hid (N.en = N.os.length) := he
  have HQ : Hid (N.hm = 4 * q) := hq
  have F1 : Hid (findI N.os 1 = -1) := f1
  have F2 : Hid (findI N.os 2 = -1) := f2
  have nlt0 : N.bn < w.heap.size := lt_of_heap h.hold.net
  have c0 : w.cell? ⟨N.bn, 0, none⟩ = some (.pointer (some ⟨N.bs, 0, none⟩)) := h.netCell.1
  clear hW he hq f1 f2
  unfold opV
  go_enter Tryd.func36, Tryd.ntmps36
  go_wp2_with fail
  rw [show w.alloc (.cells #[.int .i64 4, .int .i64 a, .int .i64 n, .int .i64 m, .int .u64 nonce, .int .u32 mask, .string s] 89) = W from HW.out.symm]
  refine (tick_none N.bs N.blk N.bud N.psl N.os.length N.pcap _ hs0).mono ?_
  rintro e w1 ⟨rfl, T1, S1⟩
  have St1 := hI0.asked T1 (by rw [HE.out]; exact S1)
  have hI1 := St1.inv
  obtain ⟨m0, m2, m3, m4, m10, mlt⟩ := hI1.netCell
  go_wp2_with fail
  refine (refTick_none N.bn N.rsl N.os.length N.rcap N.os _ m4 hI1.rth hl5 F2.out F1.out).mono ?_
  rintro e w2 ⟨rfl, hw2⟩
  subst hw2
  go_wp2_with fail
  refine (sent_none N.bn N.bs N.blk N.bud N.rv N.wv N.hsl N.hm N.hcap q N.hs 0 0 _ hI1.hold HQ.out hbig).mono ?_
  rintro e w3 ⟨rfl, hsl', hcap', va, vb, vc, T3, H3, l0, la, lb, lc, hblk, hown⟩
  go_wp2
  go_ret
  exact ⟨rfl, _, (St1.kept_none rfl rfl T3 hI1.way H3 l0 la lb lc HQ.out hblk hown).pre t0⟩

end Go.Proofs.YtfbbidaoljfloaaDoor
