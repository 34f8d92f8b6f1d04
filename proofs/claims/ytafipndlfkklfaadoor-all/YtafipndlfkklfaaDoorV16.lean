import Derived.Test.YtafipndlfkklfaaDoorJ34
namespace Go.Proofs.YtafipndlfkklfaaDoor
open Go.RowKit Go.MuLone

theorem InvL.kept {N : NetA} (h : InvL N) (F : List Nat) (wsl : Option Addr) (wn wcap : Nat) (wx : List Value) (hsl : Option Addr) (hcap : Nat) (hs : List Value)
    (hp : ∀ i, i < wn → ∃ b s n d, wx[i * 4]? = some (.bool b) ∧ wx[i * 4 + 1]? = some (.string s) ∧ wx[i * 4 + 2]? = some (.int .i64 n) ∧ wx[i * 4 + 3]? = some (.int .i64 d) ∧ PostOk N b s n d) :
    InvL { N with F := F, wsl := wsl, wn := wn, wcap := wcap, wx := wx, hsl := hsl, hm := N.hm + 4, hcap := hcap, hs := hs } := by
  refine ⟨h.sblk, h.sbud, h.shape, h.get, h.odat, h.tk, h.ready, hp, h.blk1, h.blk2, h.bud1, h.bud2, ?_, ?_⟩
  · obtain ⟨q, hq⟩ := h.four
    exact ⟨q + 1, by show N.hm + 4 = _; omega⟩
  · have := h.nrs
    show 4 * N.rs.length ≤ N.hm + 4
    omega
theorem InvL.feet {N : NetA} (h : InvL N) (F : List Nat) : InvL { N with F := F } := ⟨h.sblk, h.sbud, h.shape, h.get, h.odat, h.tk, h.ready, h.posts, h.blk1, h.blk2, h.bud1, h.bud2, h.four, h.nrs⟩

set_option maxRecDepth 100000 in
set_option maxHeartbeats 2000000 in
theorem stepA_submit (N : NetA) (a n m nonce mask : Int) (s : ByteArray) (w : World) (h : InvA w N) :
    Calls Tryd.prog 36 #[.pointer (some ⟨N.bn, 0, none⟩), opV 3 a n m nonce mask s] w fun e w' => e = .returned (.bool true) ∧ ∃ N', StpA w N w' N' := by
  have hX := OpAt.mk' h.m 3 a n m nonce mask s
  have HI0 : Hid (InvA (w.alloc (.cells (opCells 3 a n m nonce mask s) 89)) N) := ⟨h.m.turn hX.turn, h.l⟩
  have HT : Hid _ := hX.turn
  clear hX h
  unfold opV
  go_enter Tryd.func36, Tryd.ntmps36
  go_wp2_with fail
  refine (submitA N 3 a n m nonce mask s _ HI0.out).mono ?_
  rintro e w1 ⟨rfl, N', st⟩
  have HS : Hid _ := st
  clear st
  go_wp2_with fail
  go_ret
  exact ⟨rfl, N', HS.out.pre HT.out⟩

set_option maxRecDepth 100000 in
set_option maxHeartbeats 2000000 in
theorem stepA_take (N : NetA) (a n m nonce mask : Int) (s : ByteArray) (w : World) (h : InvA w N) :
    Calls Tryd.prog 36 #[.pointer (some ⟨N.bn, 0, none⟩), opV 11 a n m nonce mask s] w fun e w' => e = .returned (.bool true) ∧ ∃ N', StpA w N w' N' := by
  have hX := OpAt.mk' h.m 11 a n m nonce mask s
  have HI0 : Hid (InvA (w.alloc (.cells (opCells 11 a n m nonce mask s) 89)) N) := ⟨h.m.turn hX.turn, h.l⟩
  have HT : Hid _ := hX.turn
  clear hX h
  unfold opV
  go_enter Tryd.func36, Tryd.ntmps36
  go_wp2_with fail
  refine (take_any N _ HI0.out).mono ?_
  rintro e w1 ⟨rfl, N', st⟩
  have HS : Hid _ := st
  clear st
  go_wp2_with fail
  go_ret
  exact ⟨rfl, N', HS.out.pre HT.out⟩

set_option maxRecDepth 100000 in
set_option maxHeartbeats 2000000 in
theorem stepA_tick_none (N : NetA) (a n m nonce mask : Int) (s : ByteArray) (w : World) (h : InvA w N) (hbig : N.hm + 4 ≤ 8796093022208) (he : N.S.en = N.os.length) :
    Calls Tryd.prog 36 #[.pointer (some ⟨N.bn, 0, none⟩), opV 4 a n m nonce mask s] w fun e w' => e = .returned (.bool true) ∧ ∃ N', StpA w N w' N' := by
  have hX := OpAt.mk' h.m 4 a n m nonce mask s
  have HS0 : Hid _ := (h.m.turn hX.turn).stp
  have HT : Hid _ := hX.turn
  have HI : Hid _ := h
  obtain ⟨f2, f1⟩ := h.l.shape.find_none he
  have F2 : Hid _ := f2
  have F1 : Hid _ := f1
  have hl5 := h.l.shape.n500
  have HE : Hid (N.S.en = N.S.l.length) := by rw [Hid, h.l.shape.len]; exact he
  have h4 := h.l.four
  have nlt0 : N.bn < w.heap.size := lt_of_heap h.m.hold.net
  have c0 := h.m.cells.1
  clear h hX he f1 f2
  unfold opV
  go_enter Tryd.func36, Tryd.ntmps36
  go_wp2_with fail
  rw [show w.alloc (.cells #[.int .i64 4, .int .i64 a, .int .i64 n, .int .i64 m, .int .u64 nonce, .int .u32 mask, .string s] 89) = w.alloc (.cells (opCells 4 a n m nonce mask s) 89) from rfl]
  generalize w.alloc (.cells (opCells 4 a n m nonce mask s) 89) = W at *
  refine (nTick_none HS0.out.m.net HE.out).mono ?_
  rintro e w1 ⟨rfl, F1', ha⟩
  have hs1 := HS0.out.ends ha
  have HS1 : Hid _ := hs1
  have m4 : w1.cell? ⟨N.bn, 4, none⟩ = some (.slice N.rsl N.os.length N.rcap) := by rw [cell_of_row _ _ _ _ _ _ hs1.m.hold.net]; rfl
  clear hs1 ha
  go_wp2_with fail
  refine (refTick_none N.bn N.rsl N.os.length N.rcap N.os _ m4 HS1.out.m.rth hl5 F2.out F1.out).mono ?_
  rintro e w2 ⟨rfl, hw2⟩
  subst hw2
  go_wp2_with fail
  refine (sentA_none false 0 0 HS1.out h4 hbig).mono ?_
  rintro e w3 ⟨rfl, hsl, hcap, va, vb, vc, hs3⟩
  have HS3 : Hid _ := hs3
  clear hs3
  go_wp2_with fail
  go_ret
  exact ⟨rfl, _, StpA.of HT.out HI.out.m HS3.out ((HI.out.l).kept F1' N.wsl N.wn N.wcap N.wx hsl hcap _ HI.out.l.posts) (Nat.le_refl _) (by show N.wn ≤ _; omega)⟩

set_option maxRecDepth 100000 in
set_option maxHeartbeats 2000000 in
theorem stepA_tick_fail (N : NetA) (a n m nonce mask : Int) (s : ByteArray) (w : World) (h : InvA w N) (hbig : N.hm + 4 ≤ 8796093022208) (o : Thing) (ho : N.os[N.S.en]? = some o) (hb : o.sent = (N.bud : Int)) :
    Calls Tryd.prog 36 #[.pointer (some ⟨N.bn, 0, none⟩), opV 4 a n m nonce mask s] w fun e w' => e = .returned (.bool true) ∧ ∃ N', StpA w N w' N' := by
  have hX := OpAt.mk' h.m 4 a n m nonce mask s
  have HS0 : Hid _ := (h.m.turn hX.turn).stp
  have HT : Hid _ := hX.turn
  have HI : Hid _ := h
  have hl5 := h.l.shape.n500
  have hk := (List.getElem?_eq_some_iff.1 ho).1
  have hpl := h.l.shape.len
  have hp : N.S.l[N.S.en]? = some o := by
    have e2 : N.S.l[N.S.en]? = some (N.S.l[N.S.en]'(by omega)) := List.getElem?_eq_getElem (by omega)
    rw [e2, h.l.shape.after N.S.en _ _ (Nat.le_refl _) ho e2]
  have HF : Hid _ := h.l.shape.find_some ho
  have HL : Hid (∀ F, InvL { N with F := F, S := N.S.done 4 o, os := N.os.set N.S.en { o with st := 4 } }) := fun F => h.l.objs (Same.set ho 4 o.sent) h.l.sblk h.l.sbud (h.l.shape.fail ho)
  have h4 := h.l.four
  have nlt0 : N.bn < w.heap.size := lt_of_heap h.m.hold.net
  have c0 := h.m.cells.1
  have HO : Hid _ := ho
  have HP : Hid _ := hp
  have HB : Hid (o.sent = (N.S.bud : Int)) := by rw [Hid, h.l.sbud]; exact hb
  have hb' : (N.bud : Int) ≤ o.sent := by omega
  clear h hX ho hp hb
  unfold opV
  go_enter Tryd.func36, Tryd.ntmps36
  go_wp2_with fail
  rw [show w.alloc (.cells #[.int .i64 4, .int .i64 a, .int .i64 n, .int .i64 m, .int .u64 nonce, .int .u32 mask, .string s] 89) = w.alloc (.cells (opCells 4 a n m nonce mask s) 89) from rfl]
  generalize w.alloc (.cells (opCells 4 a n m nonce mask s) 89) = W at *
  refine (nTick_fail HS0.out.m.net HP.out HB.out).mono ?_
  rintro e w1 ⟨rfl, F1', ha⟩
  have hs1 := HS0.out.ends ha
  have HS1 : Hid _ := hs1
  have m3 : w1.cell? ⟨N.bn, 3, none⟩ = some (.int .i64 N.bud) := by rw [cell_of_row _ _ _ _ _ _ hs1.m.hold.net]; rfl
  have m4 : w1.cell? ⟨N.bn, 4, none⟩ = some (.slice N.rsl N.os.length N.rcap) := by rw [cell_of_row _ _ _ _ _ _ hs1.m.hold.net]; rfl
  clear hs1 ha
  go_wp2_with fail
  refine (refTick_fail N.bn N.bud N.rsl N.os.length N.rcap N.S.en N.os o _ m3 m4 HS1.out.m.rth hl5 hk HO.out HF.out (cells_ne (by decide) HS1.out.m.hold.net HS1.out.m.rth.owns) hb').mono ?_
  rintro e w2 ⟨rfl, T2, R2⟩
  have HS2 : Hid _ := HS1.out.objs T2 R2 (by simp)
  clear T2 R2
  go_wp2_with fail
  refine (sentA_none false 0 0 HS2.out h4 hbig).mono ?_
  rintro e w3 ⟨rfl, hsl, hcap, va, vb, vc, hs3⟩
  have HS3 : Hid _ := hs3
  clear hs3
  go_wp2_with fail
  go_ret
  exact ⟨rfl, _, StpA.of HT.out HI.out.m HS3.out ((HL.out F1').kept F1' N.wsl N.wn N.wcap N.wx hsl hcap _ (HL.out F1').posts) (Nat.le_refl _) (by show N.wn ≤ _; omega)⟩

set_option maxRecDepth 100000 in
set_option maxHeartbeats 2000000 in
theorem stepA_tick_send (N : NetA) (a n m nonce mask : Int) (s : ByteArray) (w : World) (h : InvA w N) (hbig : N.hm + 4 ≤ 8796093022208) (hwn : N.wn ≤ 2199023255552) (o : Thing) (ho : N.os[N.S.en]? = some o) (hb : o.sent < (N.bud : Int)) :
    Calls Tryd.prog 36 #[.pointer (some ⟨N.bn, 0, none⟩), opV 4 a n m nonce mask s] w fun e w' => e = .returned (.bool true) ∧ ∃ N', StpA w N w' N' := by
  have hX := OpAt.mk' h.m 4 a n m nonce mask s
  have HS0 : Hid _ := (h.m.turn hX.turn).stp
  have HT : Hid _ := hX.turn
  have HI : Hid _ := h
  have hl5 := h.l.shape.n500
  have hk := (List.getElem?_eq_some_iff.1 ho).1
  have hpl := h.l.shape.len
  obtain ⟨hs0, _, hd⟩ := h.l.shape.sent N.S.en o (Nat.le_refl _) ho
  have hbu := h.l.bud2
  have hb1 := h.l.blk1
  have hb2 := h.l.blk2
  have hp : N.S.l[N.S.en]? = some o := by
    have e2 : N.S.l[N.S.en]? = some (N.S.l[N.S.en]'(by omega)) := List.getElem?_eq_getElem (by omega)
    rw [e2, h.l.shape.after N.S.en _ _ (Nat.le_refl _) ho e2]
  have HF : Hid _ := h.l.shape.find_some ho
  have HL : Hid (∀ F, InvL { N with F := F, S := N.S.sentOne o, os := N.os.set N.S.en { o with st := 2, sent := o.sent + 1 } }) := fun F => h.l.objs (Same.set ho 2 (o.sent + 1)) h.l.sblk h.l.sbud (h.l.shape.send ho hb)
  have h4 := h.l.four
  have nlt0 : N.bn < w.heap.size := lt_of_heap h.m.hold.net
  have c0 := h.m.cells.1
  have HO : Hid _ := ho
  have HP : Hid _ := hp
  have HB : Hid (o.sent < (N.S.bud : Int)) := by rw [Hid, h.l.sbud]; exact hb
  have HSB : Hid _ := h.l.sblk
  have k0 : (0 : Int) ≤ (N.S.en : Int) := by omega
  have fsz := frameOf_size (N.S.en + 1) N.blk o
  have hpos := h.m.net.pos
  clear h hX ho hp
  unfold opV
  go_enter Tryd.func36, Tryd.ntmps36
  go_wp2_with fail
  rw [show w.alloc (.cells #[.int .i64 4, .int .i64 a, .int .i64 n, .int .i64 m, .int .u64 nonce, .int .u32 mask, .string s] 89) = w.alloc (.cells (opCells 4 a n m nonce mask s) 89) from rfl]
  generalize w.alloc (.cells (opCells 4 a n m nonce mask s) 89) = W at *
  refine (nTick_send HS0.out.m.net HP.out HB.out).mono ?_
  rintro e w1 ⟨G, rfl, hG, hGc, F1', ha, hGF⟩
  rw [HSB.out] at hGc
  have hs1 := HS0.out.ends ha
  have HS1 : Hid _ := hs1
  have m3 : w1.cell? ⟨N.bn, 3, none⟩ = some (.int .i64 N.bud) := by rw [cell_of_row _ _ _ _ _ _ hs1.m.hold.net]; rfl
  have m4 : w1.cell? ⟨N.bn, 4, none⟩ = some (.slice N.rsl N.os.length N.rcap) := by rw [cell_of_row _ _ _ _ _ _ hs1.m.hold.net]; rfl
  have HGC : Hid _ := hGc
  have HGF : Hid _ := hGF
  clear hs1 ha hGc hGF
  go_wp2_with fail
  refine (refTick_send N.bn N.bud N.rsl N.os.length N.rcap N.S.en N.os o _ m3 m4 HS1.out.m.rth hl5 hk HO.out HF.out (cells_ne (by decide) HS1.out.m.hold.net HS1.out.m.rth.owns) hs0 hb (by omega)).mono ?_
  rintro e w2 ⟨rfl, T2, R2⟩
  have hGr : G ∉ (Value.slice N.rsl N.os.length N.rcap).ownBlock.toList := fun hm => cells_ne (by decide) HGC.out HS1.out.m.rth.owns (by simpa using hm)
  have HG2 : Hid _ := T2.cells HGC.out hGr
  have HS2 : Hid _ := HS1.out.objs T2 R2 (by simp)
  have HRO : Hid (G ∉ N.hs.filterMap Value.ownBlock) := fun hm => by
    have := HS0.out.m.ro_lt G (List.mem_append_left _ hm)
    omega
  clear T2 R2 hGr
  go_wp2_with fail
  refine (sentA_one false _ _ G (frameOf (N.S.en + 1) N.blk o) HS2.out h4 hbig hwn HG2.out (by omega) (by omega) hG HGF.out HRO.out HS0.out.m.net.pos).mono ?_
  rintro e w3 ⟨rfl, wsl, wcap, hsl, hcap, va, vb, vc, hs3⟩
  have HS3 : Hid _ := hs3
  clear hs3
  go_wp2_with fail
  go_ret
  refine ⟨rfl, _, StpA.of HT.out HI.out.m HS3.out ((HL.out F1').kept F1' wsl (N.wn + 1) wcap _ hsl hcap _ (posts_push HI.out.m.way.owns.1 (HL.out F1').posts false _ _ _ ?_)) (Nat.le_refl _) (Nat.le_refl _)⟩
  refine ⟨N.S.en, rfl, fun e => by simp at e, fun _ => ⟨o.sent.toNat, { o with st := 2, sent := o.sent + 1 }, by omega, by omega, ?_, ?_⟩⟩
  · show (N.os.set N.S.en _)[N.S.en]? = _
    rw [List.getElem?_set_self hk]
  · show bytesOf (frameOf (N.S.en + 1) N.blk o) = fText (N.S.en + 1) N.blk (Dz.rowOf o.nonce (blocksOf o.data.size N.blk) ((o.sent.toNat : Nat) : Int)) o.data
    rw [fText_frame, Int.toNat_of_nonneg hs0]

theorem stepA_tick (N : NetA) (a n m nonce mask : Int) (s : ByteArray) (w : World) (h : InvA w N) (hbig : N.hm + 4 ≤ 8796093022208) (hwn : N.wn ≤ 2199023255552) :
    Calls Tryd.prog 36 #[.pointer (some ⟨N.bn, 0, none⟩), opV 4 a n m nonce mask s] w fun e w' => e = .returned (.bool true) ∧ ∃ N', StpA w N w' N' := by
  have hle := h.l.shape.le
  by_cases he : N.S.en = N.os.length
  · exact stepA_tick_none N a n m nonce mask s w h hbig he
  · have ho : N.os[N.S.en]? = some (N.os[N.S.en]'(by omega)) := List.getElem?_eq_getElem (by omega)
    have hs := h.l.shape.sent N.S.en _ (Nat.le_refl _) ho
    by_cases hb : (N.os[N.S.en]'(by omega)).sent = (N.bud : Int)
    · exact stepA_tick_fail N a n m nonce mask s w h hbig _ ho hb
    · exact stepA_tick_send N a n m nonce mask s w h hbig hwn _ ho (by omega)
end Go.Proofs.YtafipndlfkklfaaDoor
