import Derived.Test.YtfbbidaoljfloaaDoorL9
namespace Go.Proofs.YtfbbidaoljfloaaDoor
open Go.RowKit

theorem hide {p : Prop} (h : p) : Hid p := h
theorem unhide {p : Prop} (h : Hid p) : p := h

set_option maxRecDepth 100000 in
set_option maxHeartbeats 2000000 in
theorem step_tick_fail (N : NetM) (a n m nonce mask : Int) (s : ByteArray) (w : World) (h : Inv w N) (hbig : N.hm + 4 ≤ 8796093022208) (o : Thing) (ho : N.os[N.en]? = some o) (hb : o.sent = (N.bud : Int)) :
    Calls Tryd.prog 36 #[.pointer (some ⟨N.bn, 0, none⟩), opV 4 a n m nonce mask s] w fun e w' => e = .returned (.bool true) ∧ ∃ N', Stp w N w' N' := by
  have A := h.aps
  obtain ⟨q, hq⟩ := h.four
  have hf := h.shape.find_some ho
  have hl5 := h.shape.n500
  have hk := (List.getElem?_eq_some_iff.1 ho).1
  have hpl := h.shape.len
  have hp : N.ps[N.en]? = some o := by
    have e2 : N.ps[N.en]? = some (N.ps[N.en]'(by omega)) := List.getElem?_eq_getElem (by omega)
    rw [e2, h.shape.after N.en _ _ (Nat.le_refl _) ho e2]
  obtain ⟨W, hW⟩ : ∃ W, W = w.alloc (.cells (opCells 4 a n m nonce mask s) 89) := ⟨_, rfl⟩
  have t0 : Turn [] w W := by rw [hW]; exact (Turn.refl _ _).alloc _
  have hI0 : Inv W N := h.turn t0 (by simp) (by simp)
  obtain ⟨n0, n2, n3, n4, n10, nlt⟩ := hI0.netCell
  have nlt0 : N.bn < w.heap.size := lt_of_heap h.hold.net
  have c0 : w.cell? ⟨N.bn, 0, none⟩ = some (.pointer (some ⟨N.bs, 0, none⟩)) := h.netCell.1
  have HSH := hide (h.shape.fail ho)
  have HW : Hid (W = w.alloc (.cells (opCells 4 a n m nonce mask s) 89)) := hW
  have HQ : Hid (N.hm = 4 * q) := hq
  have HF := hide hf
  have HO := hide ho
  have HP := hide hp
  have HB := hide hb
  clear hW hq hf ho hp hb
  unfold opV
  go_enter Tryd.func36, Tryd.ntmps36
  go_wp2_with fail
  rw [show w.alloc (.cells #[.int .i64 4, .int .i64 a, .int .i64 n, .int .i64 m, .int .u64 nonce, .int .u32 mask, .string s] 89) = W from HW.out.symm]
  refine (tick_fail N.bs N.blk N.bud N.psl N.os.length N.pcap N.en N.ps o _ hI0.snd hI0.pth A.sp hl5 hk (unhide HP) (unhide HB)).mono ?_
  rintro e w1 ⟨rfl, T1, S1, P1⟩
  have mN : N.bn ∉ N.bs :: N.pv.ownBlock.toList := by
    intro hm
    simp only [List.mem_cons, Option.mem_toList] at hm
    rcases hm with r | r
    · exact A.ns r
    · exact A.np r
  have m3 : w1.cell? ⟨N.bn, 3, none⟩ = some (.int .i64 N.bud) := (T1.cell (p := ⟨N.bn, 3, none⟩) nlt mN).trans n3
  have m4 : w1.cell? ⟨N.bn, 4, none⟩ = some N.rv := (T1.cell (p := ⟨N.bn, 4, none⟩) nlt mN).trans n4
  have R1 : Things w1 158 N.rsl N.os.length N.rcap N.os := hI0.rth.turn T1 (fun k hk hm => by
    simp only [List.mem_cons, Option.mem_toList] at hm
    rcases hm with r | r
    · exact A.sr (by rw [← r]; exact hk)
    · exact A.pr k r hk)
  go_wp2_with fail
  refine (refTick_fail N.bn N.bud N.rsl N.os.length N.rcap N.en N.os o _ m3 m4 R1 hl5 hk (unhide HO) (unhide HF) A.nr (by rw [unhide HB]; omega)).mono ?_
  rintro e w2 ⟨rfl, T2, R2⟩
  have St1 := hI0.ticked (N.os.set N.en { o with st := 4 }) (N.ps.set N.en ⟨.empty, 0, 4, o.sent⟩) (N.en + 1) (by simp) T1 (by show SenderAt w1 N.bs N.blk N.bud (.slice N.psl N.os.length N.pcap) ((N.en + 1 : Nat) : Int); rw [show ((N.en + 1 : Nat) : Int) = (N.en : Int) + 1 by omega]; exact S1) P1 T2 R2 (unhide HSH)
  have hI1 := St1.inv
  have hH1 : HoldAt w2 N.bn N.bs N.blk N.bud (N.ticked (N.os.set N.en { o with st := 4 }) (N.ps.set N.en ⟨.empty, 0, 4, o.sent⟩) (N.en + 1)).rv N.wv N.hsl N.hm N.hcap N.hs := hI1.hold
  have hY1 : WayAt w2 N.bn N.wsl N.wn N.wcap N.wx := hI1.way
  go_wp2_with fail
  refine (sent_none N.bn N.bs N.blk N.bud _ N.wv N.hsl N.hm N.hcap q N.hs 0 0 _ hH1 HQ.out hbig).mono ?_
  rintro e w3 ⟨rfl, hsl', hcap', va, vb, vc, T3, H3, l0, la, lb, lc, hblk, hown⟩
  go_wp2
  go_ret
  exact ⟨rfl, _, (St1.kept_none rfl rfl T3 hY1 H3 l0 la lb lc HQ.out hblk hown).pre t0⟩

set_option maxRecDepth 100000 in
set_option maxHeartbeats 2000000 in
theorem step_tick_send (N : NetM) (a n m nonce mask : Int) (s : ByteArray) (w : World) (h : Inv w N) (hbig : N.hm + 4 ≤ 8796093022208) (hwn : N.wn ≤ 2199023255552) (o : Thing) (ho : N.os[N.en]? = some o) (hb : o.sent < (N.bud : Int)) :
    Calls Tryd.prog 36 #[.pointer (some ⟨N.bn, 0, none⟩), opV 4 a n m nonce mask s] w fun e w' => e = .returned (.bool true) ∧ ∃ N', Stp w N w' N' := by
  have A := h.aps
  obtain ⟨q, hq⟩ := h.four
  have hf := h.shape.find_some ho
  have hl5 := h.shape.n500
  have hk := (List.getElem?_eq_some_iff.1 ho).1
  have hpl := h.shape.len
  obtain ⟨hs0, _, hd⟩ := h.shape.sent N.en o (Nat.le_refl _) ho
  have hb1 := h.blk1
  have hb2 := h.blk2
  have hbu := h.bud2
  have hp : N.ps[N.en]? = some o := by
    have e2 : N.ps[N.en]? = some (N.ps[N.en]'(by omega)) := List.getElem?_eq_getElem (by omega)
    rw [e2, h.shape.after N.en _ _ (Nat.le_refl _) ho e2]
  obtain ⟨W, hW⟩ : ∃ W, W = w.alloc (.cells (opCells 4 a n m nonce mask s) 89) := ⟨_, rfl⟩
  have t0 : Turn [] w W := by rw [hW]; exact (Turn.refl _ _).alloc _
  have hI0 : Inv W N := h.turn t0 (by simp) (by simp)
  obtain ⟨n0, n2, n3, n4, n10, nlt⟩ := hI0.netCell
  have nlt0 : N.bn < w.heap.size := lt_of_heap h.hold.net
  have c0 : w.cell? ⟨N.bn, 0, none⟩ = some (.pointer (some ⟨N.bs, 0, none⟩)) := h.netCell.1
  have HSH := hide (h.shape.send ho hb)
  have HW : Hid (W = w.alloc (.cells (opCells 4 a n m nonce mask s) 89)) := hW
  have HQ : Hid (N.hm = 4 * q) := hq
  have HF := hide hf
  have HO := hide ho
  have HP := hide hp
  have k0 : (0 : Int) ≤ (N.en : Int) := by omega
  clear hW hq hf ho hp
  unfold opV
  go_enter Tryd.func36, Tryd.ntmps36
  go_wp2_with fail
  rw [show w.alloc (.cells #[.int .i64 4, .int .i64 a, .int .i64 n, .int .i64 m, .int .u64 nonce, .int .u32 mask, .string s] 89) = W from HW.out.symm]
  refine (tick_send N.bs N.blk N.bud N.psl N.os.length N.pcap N.en N.ps o _ hI0.snd hI0.pth A.sp hl5 hk (unhide HP) hs0 hb (by omega) hb1 hb2 hd).mono ?_
  rintro e w1 ⟨G, rfl, hG, hGc, T1, S1, P1⟩
  have mN : N.bn ∉ N.bs :: N.pv.ownBlock.toList := by
    intro hm
    simp only [List.mem_cons, Option.mem_toList] at hm
    rcases hm with r | r
    · exact A.ns r
    · exact A.np r
  have m3 : w1.cell? ⟨N.bn, 3, none⟩ = some (.int .i64 N.bud) := (T1.cell (p := ⟨N.bn, 3, none⟩) nlt mN).trans n3
  have m4 : w1.cell? ⟨N.bn, 4, none⟩ = some N.rv := (T1.cell (p := ⟨N.bn, 4, none⟩) nlt mN).trans n4
  have R1 : Things w1 158 N.rsl N.os.length N.rcap N.os := hI0.rth.turn T1 (fun k hk hm => by
    simp only [List.mem_cons, Option.mem_toList] at hm
    rcases hm with r | r
    · exact A.sr (by rw [← r]; exact hk)
    · exact A.pr k r hk)
  go_wp2_with fail
  refine (refTick_send N.bn N.bud N.rsl N.os.length N.rcap N.en N.os o _ m3 m4 R1 hl5 hk (unhide HO) (unhide HF) A.nr hs0 hb (by omega)).mono ?_
  rintro e w2 ⟨rfl, T2, R2⟩
  have St1 := hI0.ticked (N.os.set N.en { o with st := 2, sent := o.sent + 1 }) (N.ps.set N.en { o with st := 2, sent := o.sent + 1 }) N.en (by simp) T1 S1 P1 T2 R2 (unhide HSH)
  have hI1 := St1.inv
  have hH1 : HoldAt w2 N.bn N.bs N.blk N.bud (N.ticked (N.os.set N.en { o with st := 2, sent := o.sent + 1 }) (N.ps.set N.en { o with st := 2, sent := o.sent + 1 }) N.en).rv (.slice N.wsl N.wn N.wcap) N.hsl N.hm N.hcap N.hs := hI1.hold
  have hY1 : WayAt w2 N.bn N.wsl N.wn N.wcap N.wx := hI1.way
  have hGr : N.rv.ownBlock ≠ some G := fun r => by have := hI0.lt G ((N.mem_blocks G).2 (by simp [NetM.own, r])); omega
  have hG2 := T2.cells hGc (not_mem_toList hGr)
  have hGlt := lt_of_heap hG2
  have hGN : G ∉ N.blocks := fun r => by have := hI0.lt G r; omega
  have hGB : G ∉ (N.ticked (N.os.set N.en { o with st := 2, sent := o.sent + 1 }) (N.ps.set N.en { o with st := 2, sent := o.sent + 1 }) N.en).blocks := fun r => by
    rcases St1.blocks G r with q | q
    · exact hGN q
    · have := lt_of_heap hGc
      rw [NetM.mem_blocks] at r
      have e1 : (N.ticked (N.os.set N.en { o with st := 2, sent := o.sent + 1 }) (N.ps.set N.en { o with st := 2, sent := o.sent + 1 }) N.en).own = N.own := by simp [NetM.own, NetM.ticked, NetM.pv, NetM.rv, NetM.wv, NetM.hv]
      rw [e1] at r
      exact hGN ((N.mem_blocks G).2 r)
  have hGro : G ∉ N.ros := fun r => by have := hI0.ro_lt G r; omega
  have hGo : some G ∉ N.own := fun r => hGN ((N.mem_blocks G).2 r)
  have fsz := frameOf_size (N.en + 1) N.blk o
  go_wp2_with fail
  refine (sent_one N.bn N.bs N.blk N.bud _ N.wsl N.wn N.wcap N.wx N.hsl N.hm N.hcap q N.hs _ _ G (frameOf (N.en + 1) N.blk o) _ hH1 hY1 A.yh HQ.out hbig hwn hG2 (by omega) (by omega) (fun e => hGo (by simp [NetM.own, e])) (fun r => hGo (by simp [NetM.own, NetM.hv, r])) (fun r => hGo (by simp [NetM.own, NetM.wv, r]))).mono ?_
  rintro e w3 ⟨rfl, wsl', wcap', hsl', hcap', va, vb, vc, T3, H3, Y3, l0, la, lb, lc, hblk, hown, howy, hyh⟩
  go_wp2
  go_ret
  exact ⟨rfl, _, (St1.kept_one rfl rfl T3 hG hGlt hGB hGro H3 Y3 l0 la lb lc HQ.out hblk hown howy hyh).pre t0⟩

theorem step_tick (N : NetM) (a n m nonce mask : Int) (s : ByteArray) (w : World) (h : Inv w N) (hbig : N.hm + 4 ≤ 8796093022208) (hwn : N.wn ≤ 2199023255552) :
    Calls Tryd.prog 36 #[.pointer (some ⟨N.bn, 0, none⟩), opV 4 a n m nonce mask s] w fun e w' => e = .returned (.bool true) ∧ ∃ N', Stp w N w' N' := by
  have hle := h.shape.le
  by_cases he : N.en = N.os.length
  · exact step_tick_none N a n m nonce mask s w h hbig he
  · have ho : N.os[N.en]? = some (N.os[N.en]'(by omega)) := List.getElem?_eq_getElem (by omega)
    have hs := h.shape.sent N.en _ (Nat.le_refl _) ho
    by_cases hb : (N.os[N.en]'(by omega)).sent = (N.bud : Int)
    · exact step_tick_fail N a n m nonce mask s w h hbig _ ho hb
    · exact step_tick_send N a n m nonce mask s w h hbig hwn _ ho (by omega)

end Go.Proofs.YtfbbidaoljfloaaDoor
