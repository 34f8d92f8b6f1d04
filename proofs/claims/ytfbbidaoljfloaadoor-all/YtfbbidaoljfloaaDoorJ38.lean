import Derived.Test.YtfbbidaoljfloaaDoorJ37
namespace Go.Proofs.YtfbbidaoljfloaaDoor
open Go.RowKit Go.MuLone

set_option maxRecDepth 100000 in
set_option maxHeartbeats 2000000 in
theorem submitA_no (N : NetA) (k a n m nonce mask : Int) (s : ByteArray) (w : World) (h : InvA w N) (hno : 32 * (N.blk : Int) < (s.size : Int) ∨ N.os.length = 500 ∨ 8 ≤ cntSt N.os 1) :
    Calls Tryd.prog 60 #[.pointer (some ⟨N.bn, 0, none⟩), opV k a n m nonce mask s] w fun e w' => e = .returned (.bool true) ∧ ∃ N', StpA w N w' N' := by
  have hX := OpAt.mk' h.m k a n m nonce mask s
  have hb1 := h.l.blk1
  have hb2 := h.l.blk2
  have hl5 := h.l.shape.n500
  have OK : ∀ (v : World) (M : NetA), StpM (w.alloc (.cells (opCells k a n m nonce mask s) 89)) N v M → M.bs = N.bs → v.cell? ⟨N.bn, 0, none⟩ = some (.pointer (some ⟨N.bs, 0, none⟩)) ∧ v.cell? ⟨w.heap.size, 6, none⟩ = some (.string s) ∧ v.cell? ⟨w.heap.size, 4, none⟩ = some (.int .u64 nonce) := fun v M st hb => by
    have q := st.m.cells.1
    rw [st.bn, hb] at q
    exact ⟨q, (hX.cell st 6).trans rfl, (hX.cell st 4).trans rfl⟩
  have hcd : cntSt (N.S.l.drop N.S.en) 1 = cntSt N.os 1 := by rw [h.l.shape.drops, ← h.l.shape.counts]
  have hc8 : cntSt (N.S.l.drop N.S.en) 1 ≤ 8 := by rw [h.l.shape.drops]; exact h.l.shape.cnt
  have HH : Hid (∀ v F, Net v N.bs N.br F N.S N.V → Calls Tryd.prog 17 #[.pointer (some ⟨N.bs, 0, none⟩), .string s, .int .u64 nonce] v fun e w' => e = .returned (.tuple #[.int .i64 0, .int .i64 (subErr N.blk s.size N.os.length)]) ∧ ∃ F', NAft v w' N.bs N.br F F' N.S N.V) := fun v F hv => by
    have := nSubmit_no s nonce hv hc8 (by rw [h.l.sblk, h.l.shape.len, hcd]; exact hno)
    rw [h.l.sblk, h.l.shape.len] at this
    exact this
  have HOK : Hid _ := OK
  have HT : Hid _ := hX.turn
  have HS0 : Hid _ := (h.m.turn hX.turn).stp
  have HI : Hid _ := h
  have HNO : Hid _ := hno
  clear h hX OK hcd hc8 hno
  unfold opV
  go_enter Tryd.func60, Tryd.ntmps60
  go_wp2_with fail
  rw [show w.alloc (.cells #[.int .i64 k, .int .i64 a, .int .i64 n, .int .i64 m, .int .u64 nonce, .int .u32 mask, .string s] 89) = w.alloc (.cells (opCells k a n m nonce mask s) 89) from rfl]
  generalize w.alloc (.cells (opCells k a n m nonce mask s) 89) = W at *
  generalize w.heap.size = X at *
  obtain ⟨y0, y6, y4⟩ := HOK.out _ _ HS0.out rfl
  go_region_held3 (fun v => v.cell? ⟨N.bn, 0, none⟩ = some (.pointer (some ⟨N.bs, 0, none⟩)) ∧ v.cell? ⟨X, 6, none⟩ = some (.string s) ∧ v.cell? ⟨X, 4, none⟩ = some (.int .u64 nonce))
    (first | exact ⟨y0, y6, y4⟩ | exact ⟨u0, u6, u4⟩)
    (first | (go_at_call 17; refine (HH.out _ _ HS0.out.m.net.drew).mono ?_; rintro e w1 ⟨rfl, F1, ha⟩; have hs1 := HS0.out.ends (ha.pre ((Turn.refl [] _).drew)); obtain ⟨u0, u6, u4⟩ := HOK.out _ _ hs1 rfl))
  have HS1 : Hid _ := hs1.then ((Turn.refl [] _).drew)
  have HR : Hid (Calls Tryd.prog 87 #[.pointer (some ⟨N.bn, 2, none⟩), .string s, .int .u64 nonce] w1.drew fun e w' => e = .returned (.tuple #[.int .i64 0, .int .i64 (subErr N.blk s.size N.os.length)]) ∧ w' = w1.drew) :=
    refSubmit_no N.bn N.blk s nonce N.rsl N.os.length N.rcap N.os w1.drew (by rw [cell_of_row _ _ _ _ _ _ HS1.out.m.hold.net]; rfl) (by rw [cell_of_row _ _ _ _ _ _ HS1.out.m.hold.net]; rfl) HS1.out.m.rth hl5 (by omega) (by omega) HNO.out
  clear hs1 ha u0 y0 y6 y4
  go_wp2_with fail
  go_region_held3 (fun v => v.cell? ⟨X, 6, none⟩ = some (.string s) ∧ v.cell? ⟨X, 4, none⟩ = some (.int .u64 nonce))
    (first | exact ⟨u6, u4⟩)
    (first | (go_at_call 87; refine (HR.out).mono ?_; rintro e w2 ⟨rfl, rfl⟩))
  go_wp2_with fail
  refine (num_any _ _).mono ?_
  rintro e w3 ⟨rfl, rfl⟩
  go_wp2_with fail
  go_ret
  have hl := HI.out.l
  exact ⟨rfl, _, StpA.of HT.out HI.out.m HS1.out ⟨hl.sblk, hl.sbud, hl.shape, hl.get, hl.odat, hl.tk, hl.ready, hl.posts, hl.blk1, hl.blk2, hl.bud1, hl.bud2, hl.four, hl.nrs⟩ (by show N.hm ≤ _; omega) (by show N.wn ≤ _; omega)⟩

set_option maxRecDepth 100000 in
set_option maxHeartbeats 2000000 in
theorem submitA_yes (N : NetA) (k a n m nonce mask : Int) (s : ByteArray) (w : World) (h : InvA w N) (y1 : s.size ≤ 32 * N.blk) (y2 : N.os.length < 500) (y3 : cntSt N.os 1 < 8) :
    Calls Tryd.prog 60 #[.pointer (some ⟨N.bn, 0, none⟩), opV k a n m nonce mask s] w fun e w' => e = .returned (.bool true) ∧ ∃ N', StpA w N w' N' := by
  have hX := OpAt.mk' h.m k a n m nonce mask s
  have hb1 := h.l.blk1
  have hb2 := h.l.blk2
  have OK : ∀ (v : World) (M : NetA), StpM (w.alloc (.cells (opCells k a n m nonce mask s) 89)) N v M → M.bs = N.bs → v.cell? ⟨N.bn, 0, none⟩ = some (.pointer (some ⟨N.bs, 0, none⟩)) ∧ v.cell? ⟨w.heap.size, 6, none⟩ = some (.string s) ∧ v.cell? ⟨w.heap.size, 4, none⟩ = some (.int .u64 nonce) := fun v M st hb => by
    have q := st.m.cells.1
    rw [st.bn, hb] at q
    exact ⟨q, (hX.cell st 6).trans rfl, (hX.cell st 4).trans rfl⟩
  have hcd : cntSt (N.S.l.drop N.S.en) 1 < 8 := by rw [h.l.shape.drops, ← h.l.shape.counts]; exact y3
  have HH : Hid (∀ v F, Net v N.bs N.br F N.S N.V → Calls Tryd.prog 17 #[.pointer (some ⟨N.bs, 0, none⟩), .string s, .int .u64 nonce] v fun e w' => e = .returned (.tuple #[.int .i64 ((N.os.length : Int) + 1), .int .i64 0]) ∧ ∃ F', NAft v w' N.bs N.br F F' { N.S with l := N.S.l ++ [⟨s, nonce, 1, 0⟩] } N.V) := fun v F hv => by
    have := nSubmit s nonce hv (by rw [h.l.sblk]; exact y1) (by rw [h.l.shape.len]; exact y2) hcd
    rw [h.l.shape.len] at this
    exact this
  have HOK : Hid _ := OK
  have HT : Hid _ := hX.turn
  have HS0 : Hid _ := (h.m.turn hX.turn).stp
  have HI : Hid _ := h
  have HY1 : Hid _ := y1
  clear h hX OK hcd y1
  unfold opV
  go_enter Tryd.func60, Tryd.ntmps60
  go_wp2_with fail
  rw [show w.alloc (.cells #[.int .i64 k, .int .i64 a, .int .i64 n, .int .i64 m, .int .u64 nonce, .int .u32 mask, .string s] 89) = w.alloc (.cells (opCells k a n m nonce mask s) 89) from rfl]
  generalize w.alloc (.cells (opCells k a n m nonce mask s) 89) = W at *
  generalize w.heap.size = X at *
  obtain ⟨y0, y6, y4⟩ := HOK.out _ _ HS0.out rfl
  go_region_held3 (fun v => v.cell? ⟨N.bn, 0, none⟩ = some (.pointer (some ⟨N.bs, 0, none⟩)) ∧ v.cell? ⟨X, 6, none⟩ = some (.string s) ∧ v.cell? ⟨X, 4, none⟩ = some (.int .u64 nonce))
    (first | exact ⟨y0, y6, y4⟩ | exact ⟨u0, u6, u4⟩)
    (first | (go_at_call 17; refine (HH.out _ _ HS0.out.m.net.drew).mono ?_; rintro e w1 ⟨rfl, F1, ha⟩; have hs1 := HS0.out.ends (ha.pre ((Turn.refl [] _).drew)); obtain ⟨u0, u6, u4⟩ := HOK.out _ _ hs1 rfl))
  have HS1 : Hid _ := hs1.then ((Turn.refl [] _).drew)
  have HR : Hid (Calls Tryd.prog 87 #[.pointer (some ⟨N.bn, 2, none⟩), .string s, .int .u64 nonce] w1.drew fun e w' =>
      e = .returned (.tuple #[.int .i64 ((N.os.length : Int) + 1), .int .i64 0]) ∧ ∃ rsl rcap, StpM W N w' { N with F := F1, S := { N.S with l := N.S.l ++ [⟨s, nonce, 1, 0⟩] }, os := N.os ++ [⟨s, nonce, 1, 0⟩], rsl := rsl, rcap := rcap }) := by
    refine (refSubmit_yes N.bn N.blk s nonce N.rsl N.os.length N.rcap N.os w1.drew (by rw [cell_of_row _ _ _ _ _ _ HS1.out.m.hold.net]; rfl) (by rw [cell_of_row _ _ _ _ _ _ HS1.out.m.hold.net]; rfl) (HS1.out.m.hold.froz 4) HS1.out.m.rth y2 (by omega) (by omega) (by have := HY1.out; omega) y3 (cells_ne (by decide) HS1.out.m.hold.net HS1.out.m.rth.owns)).mono ?_
    rintro e w' ⟨rfl, g, c, w2, T2, rfl, R2, a2⟩
    exact ⟨rfl, _, _, HS1.out.trans (HS1.out.m.objs2 T2 R2 a2)⟩
  clear hs1 ha u0 y0 y6 y4
  go_wp2_with fail
  go_region_held3 (fun v => v.cell? ⟨X, 6, none⟩ = some (.string s) ∧ v.cell? ⟨X, 4, none⟩ = some (.int .u64 nonce))
    (first | exact ⟨u6, u4⟩ | exact ⟨x6, x4⟩)
    (first | (go_at_call 87; refine (HR.out).mono ?_; rintro e w2 ⟨rfl, rsl, rcap, hs2⟩; obtain ⟨x0, x6, x4⟩ := HOK.out _ _ hs2 rfl))
  have HS2 : Hid _ := hs2
  clear hs2 x0 x6 x4 u6 u4
  go_wp2_with fail
  refine (num_any _ _).mono ?_
  rintro e w3 ⟨rfl, rfl⟩
  go_wp2_with fail
  go_ret
  exact ⟨rfl, _, StpA.of HT.out HI.out.m HS2.out (HI.out.l.submitted F1 s nonce rsl rcap HY1.out y2 y3) (by show N.hm ≤ _; omega) (by show N.wn ≤ _; omega)⟩

theorem submitA (N : NetA) (k a n m nonce mask : Int) (s : ByteArray) (w : World) (h : InvA w N) :
    Calls Tryd.prog 60 #[.pointer (some ⟨N.bn, 0, none⟩), opV k a n m nonce mask s] w fun e w' => e = .returned (.bool true) ∧ ∃ N', StpA w N w' N' := by
  have := h.l.shape.n500
  by_cases hno : 32 * (N.blk : Int) < (s.size : Int) ∨ N.os.length = 500 ∨ 8 ≤ cntSt N.os 1
  · exact submitA_no N k a n m nonce mask s w h hno
  · exact submitA_yes N k a n m nonce mask s w h (by omega) (by omega) (by omega)
end Go.Proofs.YtfbbidaoljfloaaDoor


namespace Go.Proofs.YtfbbidaoljfloaaDoor
open Go.RowKit Go.MuLone

theorem InvL.kept {N : NetA} (h : InvL N) (F : List Nat) (wsl : Option Addr) (wn wcap : Nat) (wx : List Value) (hsl : Option Addr) (hcap : Nat) (hs : List Value)
    (hp : ∀ i, i < wn → ∃ b s n d, wx[i * 4]? = some (.bool b) ∧ wx[i * 4 + 1]? = some (.string s) ∧ wx[i * 4 + 2]? = some (.int .i64 n) ∧ wx[i * 4 + 3]? = some (.int .i64 d) ∧ PostOk N b s n d) :
    InvL { N with F := F, wsl := wsl, wn := wn, wcap := wcap, wx := wx, hsl := hsl, hm := N.hm + 4, hcap := hcap, hs := hs } := by
  refine ⟨h.sblk, h.sbud, h.shape, h.get, h.odat, h.tk, h.ready, hp, h.blk1, h.blk2, h.bud1, h.bud2, ?_, ?_⟩
  · obtain ⟨q, hq⟩ := h.four
    exact ⟨q + 1, by show N.hm + 4 = _; omega⟩
  · have := h.nrs
    show 4 * N.rs.length ≤ N.hm + 4
    omega
theorem InvL.feet {N : NetA} (h : InvL N) (F : List Nat) : InvL { N with F := F } := ⟨h.sblk, h.sbud, h.shape, h.get, h.odat, h.tk, h.ready, h.posts, h.blk1, h.blk2, h.bud1, h.bud2, h.four, h.nrs⟩

set_option maxRecDepth 100000 in
set_option maxHeartbeats 2000000 in
theorem stepA_submit (N : NetA) (a n m nonce mask : Int) (s : ByteArray) (w : World) (h : InvA w N) :
    Calls Tryd.prog 36 #[.pointer (some ⟨N.bn, 0, none⟩), opV 3 a n m nonce mask s] w fun e w' => e = .returned (.bool true) ∧ ∃ N', StpA w N w' N' := by
  have hX := OpAt.mk' h.m 3 a n m nonce mask s
  have HI0 : Hid (InvA (w.alloc (.cells (opCells 3 a n m nonce mask s) 89)) N) := ⟨h.m.turn hX.turn, h.l⟩
  have HT : Hid _ := hX.turn
  clear hX h
  unfold opV
  go_enter Tryd.func36, Tryd.ntmps36
  go_wp2_with fail
  refine (submitA N 3 a n m nonce mask s _ HI0.out).mono ?_
  rintro e w1 ⟨rfl, N', st⟩
  have HS : Hid _ := st
  clear st
  go_wp2_with fail
  go_ret
  exact ⟨rfl, N', HS.out.pre HT.out⟩

set_option maxRecDepth 100000 in
set_option maxHeartbeats 2000000 in
theorem stepA_take (N : NetA) (a n m nonce mask : Int) (s : ByteArray) (w : World) (h : InvA w N) :
    Calls Tryd.prog 36 #[.pointer (some ⟨N.bn, 0, none⟩), opV 11 a n m nonce mask s] w fun e w' => e = .returned (.bool true) ∧ ∃ N', StpA w N w' N' := by
  have hX := OpAt.mk' h.m 11 a n m nonce mask s
  have HI0 : Hid (InvA (w.alloc (.cells (opCells 11 a n m nonce mask s) 89)) N) := ⟨h.m.turn hX.turn, h.l⟩
  have HT : Hid _ := hX.turn
  clear hX h
  unfold opV
  go_enter Tryd.func36, Tryd.ntmps36
  go_wp2_with fail
  refine (take_any N _ HI0.out).mono ?_
  rintro e w1 ⟨rfl, N', st⟩
  have HS : Hid _ := st
  clear st
  go_wp2_with fail
  go_ret
  exact ⟨rfl, N', HS.out.pre HT.out⟩

set_option maxRecDepth 100000 in
set_option maxHeartbeats 2000000 in
theorem stepA_tick_none (N : NetA) (a n m nonce mask : Int) (s : ByteArray) (w : World) (h : InvA w N) (hbig : N.hm + 4 ≤ 8796093022208) (he : N.S.en = N.os.length) :
    Calls Tryd.prog 36 #[.pointer (some ⟨N.bn, 0, none⟩), opV 4 a n m nonce mask s] w fun e w' => e = .returned (.bool true) ∧ ∃ N', StpA w N w' N' := by
  have hX := OpAt.mk' h.m 4 a n m nonce mask s
  have HS0 : Hid _ := (h.m.turn hX.turn).stp
  have HT : Hid _ := hX.turn
  have HI : Hid _ := h
  obtain ⟨f2, f1⟩ := h.l.shape.find_none he
  have F2 : Hid _ := f2
  have F1 : Hid _ := f1
  have hl5 := h.l.shape.n500
  have HE : Hid (N.S.en = N.S.l.length) := by rw [Hid, h.l.shape.len]; exact he
  have h4 := h.l.four
  have nlt0 : N.bn < w.heap.size := lt_of_heap h.m.hold.net
  have c0 := h.m.cells.1
  clear h hX he f1 f2
  unfold opV
  go_enter Tryd.func36, Tryd.ntmps36
  go_wp2_with fail
  rw [show w.alloc (.cells #[.int .i64 4, .int .i64 a, .int .i64 n, .int .i64 m, .int .u64 nonce, .int .u32 mask, .string s] 89) = w.alloc (.cells (opCells 4 a n m nonce mask s) 89) from rfl]
  generalize w.alloc (.cells (opCells 4 a n m nonce mask s) 89) = W at *
  refine (nTick_none HS0.out.m.net HE.out).mono ?_
  rintro e w1 ⟨rfl, F1', ha⟩
  have hs1 := HS0.out.ends ha
  have HS1 : Hid _ := hs1
  have m4 : w1.cell? ⟨N.bn, 4, none⟩ = some (.slice N.rsl N.os.length N.rcap) := by rw [cell_of_row _ _ _ _ _ _ hs1.m.hold.net]; rfl
  clear hs1 ha
  go_wp2_with fail
  refine (refTick_none N.bn N.rsl N.os.length N.rcap N.os _ m4 HS1.out.m.rth hl5 F2.out F1.out).mono ?_
  rintro e w2 ⟨rfl, hw2⟩
  subst hw2
  go_wp2_with fail
  refine (sentA_none false 0 0 HS1.out h4 hbig).mono ?_
  rintro e w3 ⟨rfl, hsl, hcap, va, vb, vc, hs3⟩
  have HS3 : Hid _ := hs3
  clear hs3
  go_wp2_with fail
  go_ret
  exact ⟨rfl, _, StpA.of HT.out HI.out.m HS3.out ((HI.out.l).kept F1' N.wsl N.wn N.wcap N.wx hsl hcap _ HI.out.l.posts) (Nat.le_refl _) (by show N.wn ≤ _; omega)⟩

set_option maxRecDepth 100000 in
set_option maxHeartbeats 2000000 in
theorem stepA_tick_fail (N : NetA) (a n m nonce mask : Int) (s : ByteArray) (w : World) (h : InvA w N) (hbig : N.hm + 4 ≤ 8796093022208) (o : Thing) (ho : N.os[N.S.en]? = some o) (hb : o.sent = (N.bud : Int)) :
    Calls Tryd.prog 36 #[.pointer (some ⟨N.bn, 0, none⟩), opV 4 a n m nonce mask s] w fun e w' => e = .returned (.bool true) ∧ ∃ N', StpA w N w' N' := by
  have hX := OpAt.mk' h.m 4 a n m nonce mask s
  have HS0 : Hid _ := (h.m.turn hX.turn).stp
  have HT : Hid _ := hX.turn
  have HI : Hid _ := h
  have hl5 := h.l.shape.n500
  have hk := (List.getElem?_eq_some_iff.1 ho).1
  have hpl := h.l.shape.len
  have hp : N.S.l[N.S.en]? = some o := by
    have e2 : N.S.l[N.S.en]? = some (N.S.l[N.S.en]'(by omega)) := List.getElem?_eq_getElem (by omega)
    rw [e2, h.l.shape.after N.S.en _ _ (Nat.le_refl _) ho e2]
  have HF : Hid _ := h.l.shape.find_some ho
  have HL : Hid (∀ F, InvL { N with F := F, S := N.S.done 4 o, os := N.os.set N.S.en { o with st := 4 } }) := fun F => h.l.objs (Same.set ho 4 o.sent) h.l.sblk h.l.sbud (h.l.shape.fail ho)
  have h4 := h.l.four
  have nlt0 : N.bn < w.heap.size := lt_of_heap h.m.hold.net
  have c0 := h.m.cells.1
  have HO : Hid _ := ho
  have HP : Hid _ := hp
  have HB : Hid (o.sent = (N.S.bud : Int)) := by rw [Hid, h.l.sbud]; exact hb
  have hb' : (N.bud : Int) ≤ o.sent := by omega
  clear h hX ho hp hb
  unfold opV
  go_enter Tryd.func36, Tryd.ntmps36
  go_wp2_with fail
  rw [show w.alloc (.cells #[.int .i64 4, .int .i64 a, .int .i64 n, .int .i64 m, .int .u64 nonce, .int .u32 mask, .string s] 89) = w.alloc (.cells (opCells 4 a n m nonce mask s) 89) from rfl]
  generalize w.alloc (.cells (opCells 4 a n m nonce mask s) 89) = W at *
  refine (nTick_fail HS0.out.m.net HP.out HB.out).mono ?_
  rintro e w1 ⟨rfl, F1', ha⟩
  have hs1 := HS0.out.ends ha
  have HS1 : Hid _ := hs1
  have m3 : w1.cell? ⟨N.bn, 3, none⟩ = some (.int .i64 N.bud) := by rw [cell_of_row _ _ _ _ _ _ hs1.m.hold.net]; rfl
  have m4 : w1.cell? ⟨N.bn, 4, none⟩ = some (.slice N.rsl N.os.length N.rcap) := by rw [cell_of_row _ _ _ _ _ _ hs1.m.hold.net]; rfl
  clear hs1 ha
  go_wp2_with fail
  refine (refTick_fail N.bn N.bud N.rsl N.os.length N.rcap N.S.en N.os o _ m3 m4 HS1.out.m.rth hl5 hk HO.out HF.out (cells_ne (by decide) HS1.out.m.hold.net HS1.out.m.rth.owns) hb').mono ?_
  rintro e w2 ⟨rfl, T2, R2⟩
  have HS2 : Hid _ := HS1.out.objs T2 R2 (by simp)
  clear T2 R2
  go_wp2_with fail
  refine (sentA_none false 0 0 HS2.out h4 hbig).mono ?_
  rintro e w3 ⟨rfl, hsl, hcap, va, vb, vc, hs3⟩
  have HS3 : Hid _ := hs3
  clear hs3
  go_wp2_with fail
  go_ret
  exact ⟨rfl, _, StpA.of HT.out HI.out.m HS3.out ((HL.out F1').kept F1' N.wsl N.wn N.wcap N.wx hsl hcap _ (HL.out F1').posts) (Nat.le_refl _) (by show N.wn ≤ _; omega)⟩

set_option maxRecDepth 100000 in
set_option maxHeartbeats 2000000 in
theorem stepA_tick_send (N : NetA) (a n m nonce mask : Int) (s : ByteArray) (w : World) (h : InvA w N) (hbig : N.hm + 4 ≤ 8796093022208) (hwn : N.wn ≤ 2199023255552) (o : Thing) (ho : N.os[N.S.en]? = some o) (hb : o.sent < (N.bud : Int)) :
    Calls Tryd.prog 36 #[.pointer (some ⟨N.bn, 0, none⟩), opV 4 a n m nonce mask s] w fun e w' => e = .returned (.bool true) ∧ ∃ N', StpA w N w' N' := by
  have hX := OpAt.mk' h.m 4 a n m nonce mask s
  have HS0 : Hid _ := (h.m.turn hX.turn).stp
  have HT : Hid _ := hX.turn
  have HI : Hid _ := h
  have hl5 := h.l.shape.n500
  have hk := (List.getElem?_eq_some_iff.1 ho).1
  have hpl := h.l.shape.len
  obtain ⟨hs0, _, hd⟩ := h.l.shape.sent N.S.en o (Nat.le_refl _) ho
  have hbu := h.l.bud2
  have hb1 := h.l.blk1
  have hb2 := h.l.blk2
  have hp : N.S.l[N.S.en]? = some o := by
    have e2 : N.S.l[N.S.en]? = some (N.S.l[N.S.en]'(by omega)) := List.getElem?_eq_getElem (by omega)
    rw [e2, h.l.shape.after N.S.en _ _ (Nat.le_refl _) ho e2]
  have HF : Hid _ := h.l.shape.find_some ho
  have HL : Hid (∀ F, InvL { N with F := F, S := N.S.sentOne o, os := N.os.set N.S.en { o with st := 2, sent := o.sent + 1 } }) := fun F => h.l.objs (Same.set ho 2 (o.sent + 1)) h.l.sblk h.l.sbud (h.l.shape.send ho hb)
  have h4 := h.l.four
  have nlt0 : N.bn < w.heap.size := lt_of_heap h.m.hold.net
  have c0 := h.m.cells.1
  have HO : Hid _ := ho
  have HP : Hid _ := hp
  have HB : Hid (o.sent < (N.S.bud : Int)) := by rw [Hid, h.l.sbud]; exact hb
  have HSB : Hid _ := h.l.sblk
  have k0 : (0 : Int) ≤ (N.S.en : Int) := by omega
  have fsz := frameOf_size (N.S.en + 1) N.blk o
  have hpos := h.m.net.pos
  clear h hX ho hp
  unfold opV
  go_enter Tryd.func36, Tryd.ntmps36
  go_wp2_with fail
  rw [show w.alloc (.cells #[.int .i64 4, .int .i64 a, .int .i64 n, .int .i64 m, .int .u64 nonce, .int .u32 mask, .string s] 89) = w.alloc (.cells (opCells 4 a n m nonce mask s) 89) from rfl]
  generalize w.alloc (.cells (opCells 4 a n m nonce mask s) 89) = W at *
  refine (nTick_send HS0.out.m.net HP.out HB.out).mono ?_
  rintro e w1 ⟨G, rfl, hG, hGc, F1', ha, hGF⟩
  rw [HSB.out] at hGc
  have hs1 := HS0.out.ends ha
  have HS1 : Hid _ := hs1
  have m3 : w1.cell? ⟨N.bn, 3, none⟩ = some (.int .i64 N.bud) := by rw [cell_of_row _ _ _ _ _ _ hs1.m.hold.net]; rfl
  have m4 : w1.cell? ⟨N.bn, 4, none⟩ = some (.slice N.rsl N.os.length N.rcap) := by rw [cell_of_row _ _ _ _ _ _ hs1.m.hold.net]; rfl
  have HGC : Hid _ := hGc
  have HGF : Hid _ := hGF
  clear hs1 ha hGc hGF
  go_wp2_with fail
  refine (refTick_send N.bn N.bud N.rsl N.os.length N.rcap N.S.en N.os o _ m3 m4 HS1.out.m.rth hl5 hk HO.out HF.out (cells_ne (by decide) HS1.out.m.hold.net HS1.out.m.rth.owns) hs0 hb (by omega)).mono ?_
  rintro e w2 ⟨rfl, T2, R2⟩
  have hGr : G ∉ (Value.slice N.rsl N.os.length N.rcap).ownBlock.toList := fun hm => cells_ne (by decide) HGC.out HS1.out.m.rth.owns (by simpa using hm)
  have HG2 : Hid _ := T2.cells HGC.out hGr
  have HS2 : Hid _ := HS1.out.objs T2 R2 (by simp)
  have HRO : Hid (G ∉ N.hs.filterMap Value.ownBlock) := fun hm => by
    have := HS0.out.m.ro_lt G (List.mem_append_left _ hm)
    omega
  clear T2 R2 hGr
  go_wp2_with fail
  refine (sentA_one false _ _ G (frameOf (N.S.en + 1) N.blk o) HS2.out h4 hbig hwn HG2.out (by omega) (by omega) hG HGF.out HRO.out HS0.out.m.net.pos).mono ?_
  rintro e w3 ⟨rfl, wsl, wcap, hsl, hcap, va, vb, vc, hs3⟩
  have HS3 : Hid _ := hs3
  clear hs3
  go_wp2_with fail
  go_ret
  refine ⟨rfl, _, StpA.of HT.out HI.out.m HS3.out ((HL.out F1').kept F1' wsl (N.wn + 1) wcap _ hsl hcap _ (posts_push HI.out.m.way.owns.1 (HL.out F1').posts false _ _ _ ?_)) (Nat.le_refl _) (Nat.le_refl _)⟩
  refine ⟨N.S.en, rfl, fun e => by simp at e, fun _ => ⟨o.sent.toNat, { o with st := 2, sent := o.sent + 1 }, by omega, by omega, ?_, ?_⟩⟩
  · show (N.os.set N.S.en _)[N.S.en]? = _
    rw [List.getElem?_set_self hk]
  · show bytesOf (frameOf (N.S.en + 1) N.blk o) = fText (N.S.en + 1) N.blk (Dz.rowOf o.nonce (blocksOf o.data.size N.blk) ((o.sent.toNat : Nat) : Int)) o.data
    rw [fText_frame, Int.toNat_of_nonneg hs0]

theorem stepA_tick (N : NetA) (a n m nonce mask : Int) (s : ByteArray) (w : World) (h : InvA w N) (hbig : N.hm + 4 ≤ 8796093022208) (hwn : N.wn ≤ 2199023255552) :
    Calls Tryd.prog 36 #[.pointer (some ⟨N.bn, 0, none⟩), opV 4 a n m nonce mask s] w fun e w' => e = .returned (.bool true) ∧ ∃ N', StpA w N w' N' := by
  have hle := h.l.shape.le
  by_cases he : N.S.en = N.os.length
  · exact stepA_tick_none N a n m nonce mask s w h hbig he
  · have ho : N.os[N.S.en]? = some (N.os[N.S.en]'(by omega)) := List.getElem?_eq_getElem (by omega)
    have hs := h.l.shape.sent N.S.en _ (Nat.le_refl _) ho
    by_cases hb : (N.os[N.S.en]'(by omega)).sent = (N.bud : Int)
    · exact stepA_tick_fail N a n m nonce mask s w h hbig _ ho hb
    · exact stepA_tick_send N a n m nonce mask s w h hbig hwn _ ho (by omega)
end Go.Proofs.YtfbbidaoljfloaaDoor
