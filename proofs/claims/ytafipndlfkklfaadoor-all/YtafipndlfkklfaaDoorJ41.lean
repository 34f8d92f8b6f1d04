import Derived.Test.YtafipndlfkklfaaDoorJ34
namespace Go.Proofs.YtafipndlfkklfaaDoor
open Go.RowKit Go.MuLone

theorem InvL.kept {N : NetA} (h : InvL N) (F : List Nat) (wsl : Option Addr) (wn wcap : Nat) (wx : List Value) (hsl : Option Addr) (hcap : Nat) (hs : List Value)
    (hp : ∀ i, i < wn → ∃ b s n d, wx[i * 4]? = some (.bool b) ∧ wx[i * 4 + 1]? = some (.string s) ∧ wx[i * 4 + 2]? = some (.int .i64 n) ∧ wx[i * 4 + 3]? = some (.int .i64 d) ∧ PostOk N b s n d) :
    InvL { N with F := F, wsl := wsl, wn := wn, wcap := wcap, wx := wx, hsl := hsl, hm := N.hm + 4, hcap := hcap, hs := hs } := by
  refine ⟨h.sblk, h.sbud, h.shape, h.get, h.odat, h.tk, h.ready, hp, h.blk1, h.blk2, h.bud1, h.bud2, ?_, ?_⟩
  · obtain ⟨q, hq⟩ := h.four
    exact ⟨q + 1, by show N.hm + 4 = _; omega⟩
  · have := h.nrs
    show 4 * N.rs.length ≤ N.hm + 4
    omega
theorem InvL.feet {N : NetA} (h : InvL N) (F : List Nat) : InvL { N with F := F } := ⟨h.sblk, h.sbud, h.shape, h.get, h.odat, h.tk, h.ready, h.posts, h.blk1, h.blk2, h.bud1, h.bud2, h.four, h.nrs⟩

set_option maxRecDepth 100000 in
set_option maxHeartbeats 2000000 in
theorem stepA_submit (N : NetA) (a n m nonce mask : Int) (s : ByteArray) (w : World) (h : InvA w N) :
    Calls Tryd.prog 36 #[.pointer (some ⟨N.bn, 0, none⟩), opV 3 a n m nonce mask s] w fun e w' => e = .returned (.bool true) ∧ ∃ N', StpA w N w' N' := by
  have hX := OpAt.mk' h.m 3 a n m nonce mask s
  have HI0 : Hid (InvA (w.alloc (.cells (opCells 3 a n m nonce mask s) 89)) N) := ⟨h.m.turn hX.turn, h.l⟩
  have HT : Hid _ := hX.turn
  clear hX h
  unfold opV
  go_enter Tryd.func36, Tryd.ntmps36
  go_wp2_with fail
  refine (submitA N 3 a n m nonce mask s _ HI0.out).mono ?_
  rintro e w1 ⟨rfl, N', st⟩
  have HS : Hid _ := st
  clear st
  go_wp2_with fail
  go_ret
  exact ⟨rfl, N', HS.out.pre HT.out⟩

set_option maxRecDepth 100000 in
set_option maxHeartbeats 2000000 in
theorem stepA_take (N : NetA) (a n m nonce mask : Int) (s : ByteArray) (w : World) (h : InvA w N) :
    Calls Tryd.prog 36 #[.pointer (some ⟨N.bn, 0, none⟩), opV 11 a n m nonce mask s] w fun e w' => e = .returned (.bool true) ∧ ∃ N', StpA w N w' N' := by
  have hX := OpAt.mk' h.m 11 a n m nonce mask s
  have HI0 : Hid (InvA (w.alloc (.cells (opCells 11 a n m nonce mask s) 89)) N) := ⟨h.m.turn hX.turn, h.l⟩
  have HT : Hid _ := hX.turn
  clear hX h
  unfold opV
  go_enter Tryd.func36, Tryd.ntmps36
  go_wp2_with fail
  refine (take_any N _ HI0.out).mono ?_
  rintro e w1 ⟨rfl, N', st⟩
  have HS : Hid _ := st
  clear st
  go_wp2_with fail
  go_ret
  exact ⟨rfl, N', HS.out.pre HT.out⟩

set_option maxRecDepth 100000 in
set_option maxHeartbeats 2000000 in
theorem stepA_tick_none (N : NetA) (a n m nonce mask : Int) (s : ByteArray) (w : World) (h : InvA w N) (hbig : N.hm + 4 ≤ 8796093022208) (he : N.S.en = N.os.length) :
    Calls Tryd.prog 36 #[.pointer (some ⟨N.bn, 0, none⟩), opV 4 a n m nonce mask s] w fun e w' => e = .returned (.bool true) ∧ ∃ N', StpA w N w' N' := by
  have hX := OpAt.mk' h.m 4 a n m nonce mask s
  have HS0 : Hid _ := (h.m.turn hX.turn).stp
  have HT : Hid _ := hX.turn
  have HI : Hid _ := h
  obtain ⟨f2, f1⟩ := h.l.shape.find_none he
  have F2 : Hid _ := f2
  have F1 : Hid _ := f1
  have hl5 := h.l.shape.n500
  have HE : Hid (N.S.en = N.S.l.length) := by rw [Hid, h.l.shape.len]; exact he
  have h4 := h.l.four
  have nlt0 : N.bn < w.heap.size := lt_of_heap h.m.hold.net
  have c0 := h.m.cells.1
  clear h hX he f1 f2
  unfold opV
  go_enter Tryd.func36, Tryd.ntmps36
  go_wp2_with fail
  rw [show w.alloc (.cells #[.int .i64 4, .int .i64 a, .int .i64 n, .int .i64 m, .int .u64 nonce, .int .u32 mask, .string s] 89) = w.alloc (.cells (opCells 4 a n m nonce mask s) 89) from rfl]
  generalize w.alloc (.cells (opCells 4 a n m nonce mask s) 89) = W at *
  refine (nTick_none HS0.out.m.net HE.out).mono ?_
  rintro e w1 ⟨rfl, F1', ha⟩
  have hs1 := HS0.out.ends ha
  have HS1 : Hid _ := hs1
  have m4 : w1.cell? ⟨N.bn, 4, none⟩ = some (.slice N.rsl N.os.length N.rcap) := by rw [cell_of_row _ _ _ _ _ _ hs1.m.hold.net]; rfl
  clear hs1 ha
  go_wp2_with fail
  refine (refTick_none N.bn N.rsl N.os.length N.rcap N.os _ m4 HS1.out.m.rth hl5 F2.out F1.out).mono ?_
  rintro e w2 ⟨rfl, hw2⟩
  subst hw2
  go_wp2_with fail
  refine (sentA_none false 0 0 HS1.out h4 hbig).mono ?_
  rintro e w3 ⟨rfl, hsl, hcap, va, vb, vc, hs3⟩
  have HS3 : Hid _ := hs3
  clear hs3
  go_wp2_with fail
  go_ret
  exact ⟨rfl, _, StpA.of HT.out HI.out.m HS3.out ((HI.out.l).kept F1' N.wsl N.wn N.wcap N.wx hsl hcap _ HI.out.l.posts) (Nat.le_refl _) (by show N.wn ≤ _; omega)⟩

set_option maxRecDepth 100000 in
set_option maxHeartbeats 2000000 in
theorem stepA_tick_fail (N : NetA) (a n m nonce mask : Int) (s : ByteArray) (w : World) (h : InvA w N) (hbig : N.hm + 4 ≤ 8796093022208) (o : Thing) (ho : N.os[N.S.en]? = some o) (hb : o.sent = (N.bud : Int)) :
    Calls Tryd.prog 36 #[.pointer (some ⟨N.bn, 0, none⟩), opV 4 a n m nonce mask s] w fun e w' => e = .returned (.bool true) ∧ ∃ N', StpA w N w' N' := by
  have hX := OpAt.mk' h.m 4 a n m nonce mask s
  have HS0 : Hid _ := (h.m.turn hX.turn).stp
  have HT : Hid _ := hX.turn
  have HI : Hid _ := h
  have hl5 := h.l.shape.n500
  have hk := (List.getElem?_eq_some_iff.1 ho).1
  have hpl := h.l.shape.len
  have hp : N.S.l[N.S.en]? = some o := by
    have e2 : N.S.l[N.S.en]? = some (N.S.l[N.S.en]'(by omega)) := List.getElem?_eq_getElem (by omega)
    rw [e2, h.l.shape.after N.S.en _ _ (Nat.le_refl _) ho e2]
  have HF : Hid _ := h.l.shape.find_some ho
  have HL : Hid (∀ F, InvL { N with F := F, S := N.S.done 4 o, os := N.os.set N.S.en { o with st := 4 } }) := fun F => h.l.objs (Same.set ho 4 o.sent) h.l.sblk h.l.sbud (h.l.shape.fail ho)
  have h4 := h.l.four
  have nlt0 : N.bn < w.heap.size := lt_of_heap h.m.hold.net
  have c0 := h.m.cells.1
  have HO : Hid _ := ho
  have HP : Hid _ := hp
  have HB : Hid (o.sent = (N.S.bud : Int)) := by rw [Hid, h.l.sbud]; exact hb
  have hb' : (N.bud : Int) ≤ o.sent := by omega
  clear h hX ho hp hb
  unfold opV
  go_enter Tryd.func36, Tryd.ntmps36
  go_wp2_with fail
  rw [show w.alloc (.cells #[.int .i64 4, .int .i64 a, .int .i64 n, .int .i64 m, .int .u64 nonce, .int .u32 mask, .string s] 89) = w.alloc (.cells (opCells 4 a n m nonce mask s) 89) from rfl]
  generalize w.alloc (.cells (opCells 4 a n m nonce mask s) 89) = W at *
  refine (nTick_fail HS0.out.m.net HP.out HB.out).mono ?_
  rintro e w1 ⟨rfl, F1', ha⟩
  have hs1 := HS0.out.ends ha
  have HS1 : Hid _ := hs1
  have m3 : w1.cell? ⟨N.bn, 3, none⟩ = some (.int .i64 N.bud) := by rw [cell_of_row _ _ _ _ _ _ hs1.m.hold.net]; rfl
  have m4 : w1.cell? ⟨N.bn, 4, none⟩ = some (.slice N.rsl N.os.length N.rcap) := by rw [cell_of_row _ _ _ _ _ _ hs1.m.hold.net]; rfl
  clear hs1 ha
  go_wp2_with fail
  refine (refTick_fail N.bn N.bud N.rsl N.os.length N.rcap N.S.en N.os o _ m3 m4 HS1.out.m.rth hl5 hk HO.out HF.out (cells_ne (by decide) HS1.out.m.hold.net HS1.out.m.rth.owns) hb').mono ?_
  rintro e w2 ⟨rfl, T2, R2⟩
  have HS2 : Hid _ := HS1.out.objs T2 R2 (by simp)
  clear T2 R2
  go_wp2_with fail
  refine (sentA_none false 0 0 HS2.out h4 hbig).mono ?_
  rintro e w3 ⟨rfl, hsl, hcap, va, vb, vc, hs3⟩
  have HS3 : Hid _ := hs3
  clear hs3
  go_wp2_with fail
  go_ret
  exact ⟨rfl, _, StpA.of HT.out HI.out.m HS3.out ((HL.out F1').kept F1' N.wsl N.wn N.wcap N.wx hsl hcap _ (HL.out F1').posts) (Nat.le_refl _) (by show N.wn ≤ _; omega)⟩

set_option maxRecDepth 100000 in
set_option maxHeartbeats 2000000 in
theorem stepA_tick_send (N : NetA) (a n m nonce mask : Int) (s : ByteArray) (w : World) (h : InvA w N) (hbig : N.hm + 4 ≤ 8796093022208) (hwn : N.wn ≤ 2199023255552) (o : Thing) (ho : N.os[N.S.en]? = some o) (hb : o.sent < (N.bud : Int)) :
    Calls Tryd.prog 36 #[.pointer (some ⟨N.bn, 0, none⟩), opV 4 a n m nonce mask s] w fun e w' => e = .returned (.bool true) ∧ ∃ N', StpA w N w' N' := by
  have hX := OpAt.mk' h.m 4 a n m nonce mask s
  have HS0 : Hid _ := (h.m.turn hX.turn).stp
  have HT : Hid _ := hX.turn
  have HI : Hid _ := h
  have hl5 := h.l.shape.n500
  have hk := (List.getElem?_eq_some_iff.1 ho).1
  have hpl := h.l.shape.len
  obtain ⟨hs0, _, hd⟩ := h.l.shape.sent N.S.en o (Nat.le_refl _) ho
  have hbu := h.l.bud2
  have hb1 := h.l.blk1
  have hb2 := h.l.blk2
  have hp : N.S.l[N.S.en]? = some o := by
    have e2 : N.S.l[N.S.en]? = some (N.S.l[N.S.en]'(by omega)) := List.getElem?_eq_getElem (by omega)
    rw [e2, h.l.shape.after N.S.en _ _ (Nat.le_refl _) ho e2]
  have HF : Hid _ := h.l.shape.find_some ho
  have HL : Hid (∀ F, InvL { N with F := F, S := N.S.sentOne o, os := N.os.set N.S.en { o with st := 2, sent := o.sent + 1 } }) := fun F => h.l.objs (Same.set ho 2 (o.sent + 1)) h.l.sblk h.l.sbud (h.l.shape.send ho hb)
  have h4 := h.l.four
  have nlt0 : N.bn < w.heap.size := lt_of_heap h.m.hold.net
  have c0 := h.m.cells.1
  have HO : Hid _ := ho
  have HP : Hid _ := hp
  have HB : Hid (o.sent < (N.S.bud : Int)) := by rw [Hid, h.l.sbud]; exact hb
  have HSB : Hid _ := h.l.sblk
  have k0 : (0 : Int) ≤ (N.S.en : Int) := by omega
  have fsz := frameOf_size (N.S.en + 1) N.blk o
  have hpos := h.m.net.pos
  clear h hX ho hp
  unfold opV
  go_enter Tryd.func36, Tryd.ntmps36
  go_wp2_with fail
  rw [show w.alloc (.cells #[.int .i64 4, .int .i64 a, .int .i64 n, .int .i64 m, .int .u64 nonce, .int .u32 mask, .string s] 89) = w.alloc (.cells (opCells 4 a n m nonce mask s) 89) from rfl]
  generalize w.alloc (.cells (opCells 4 a n m nonce mask s) 89) = W at *
  refine (nTick_send HS0.out.m.net HP.out HB.out).mono ?_
  rintro e w1 ⟨G, rfl, hG, hGc, F1', ha, hGF⟩
  rw [HSB.out] at hGc
  have hs1 := HS0.out.ends ha
  have HS1 : Hid _ := hs1
  have m3 : w1.cell? ⟨N.bn, 3, none⟩ = some (.int .i64 N.bud) := by rw [cell_of_row _ _ _ _ _ _ hs1.m.hold.net]; rfl
  have m4 : w1.cell? ⟨N.bn, 4, none⟩ = some (.slice N.rsl N.os.length N.rcap) := by rw [cell_of_row _ _ _ _ _ _ hs1.m.hold.net]; rfl
  have HGC : Hid _ := hGc
  have HGF : Hid _ := hGF
  clear hs1 ha hGc hGF
  go_wp2_with fail
  refine (refTick_send N.bn N.bud N.rsl N.os.length N.rcap N.S.en N.os o _ m3 m4 HS1.out.m.rth hl5 hk HO.out HF.out (cells_ne (by decide) HS1.out.m.hold.net HS1.out.m.rth.owns) hs0 hb (by omega)).mono ?_
  rintro e w2 ⟨rfl, T2, R2⟩
  have hGr : G ∉ (Value.slice N.rsl N.os.length N.rcap).ownBlock.toList := fun hm => cells_ne (by decide) HGC.out HS1.out.m.rth.owns (by simpa using hm)
  have HG2 : Hid _ := T2.cells HGC.out hGr
  have HS2 : Hid _ := HS1.out.objs T2 R2 (by simp)
  have HRO : Hid (G ∉ N.hs.filterMap Value.ownBlock) := fun hm => by
    have := HS0.out.m.ro_lt G (List.mem_append_left _ hm)
    omega
  clear T2 R2 hGr
  go_wp2_with fail
  refine (sentA_one false _ _ G (frameOf (N.S.en + 1) N.blk o) HS2.out h4 hbig hwn HG2.out (by omega) (by omega) hG HGF.out HRO.out HS0.out.m.net.pos).mono ?_
  rintro e w3 ⟨rfl, wsl, wcap, hsl, hcap, va, vb, vc, hs3⟩
  have HS3 : Hid _ := hs3
  clear hs3
  go_wp2_with fail
  go_ret
  refine ⟨rfl, _, StpA.of HT.out HI.out.m HS3.out ((HL.out F1').kept F1' wsl (N.wn + 1) wcap _ hsl hcap _ (posts_push HI.out.m.way.owns.1 (HL.out F1').posts false _ _ _ ?_)) (Nat.le_refl _) (Nat.le_refl _)⟩
  refine ⟨N.S.en, rfl, fun e => by simp at e, fun _ => ⟨o.sent.toNat, { o with st := 2, sent := o.sent + 1 }, by omega, by omega, ?_, ?_⟩⟩
  · show (N.os.set N.S.en _)[N.S.en]? = _
    rw [List.getElem?_set_self hk]
  · show bytesOf (frameOf (N.S.en + 1) N.blk o) = fText (N.S.en + 1) N.blk (Dz.rowOf o.nonce (blocksOf o.data.size N.blk) ((o.sent.toNat : Nat) : Int)) o.data
    rw [fText_frame, Int.toNat_of_nonneg hs0]

theorem stepA_tick (N : NetA) (a n m nonce mask : Int) (s : ByteArray) (w : World) (h : InvA w N) (hbig : N.hm + 4 ≤ 8796093022208) (hwn : N.wn ≤ 2199023255552) :
    Calls Tryd.prog 36 #[.pointer (some ⟨N.bn, 0, none⟩), opV 4 a n m nonce mask s] w fun e w' => e = .returned (.bool true) ∧ ∃ N', StpA w N w' N' := by
  have hle := h.l.shape.le
  by_cases he : N.S.en = N.os.length
  · exact stepA_tick_none N a n m nonce mask s w h hbig he
  · have ho : N.os[N.S.en]? = some (N.os[N.S.en]'(by omega)) := List.getElem?_eq_getElem (by omega)
    have hs := h.l.shape.sent N.S.en _ (Nat.le_refl _) ho
    by_cases hb : (N.os[N.S.en]'(by omega)).sent = (N.bud : Int)
    · exact stepA_tick_fail N a n m nonce mask s w h hbig _ ho hb
    · exact stepA_tick_send N a n m nonce mask s w h hbig hwn _ ho (by omega)
end Go.Proofs.YtafipndlfkklfaaDoor


namespace Go.Proofs.YtafipndlfkklfaaDoor
open Go.RowKit Go.MuLone

set_option maxHeartbeats 400000 in
theorem read_len2 (text : ByteArray) (blk : Nat) (w : World) (h1 : 1 ≤ blk) (h2 : blk ≤ 32) (hl : text.size ≠ blk + 13) :
    Calls Tryd.prog 45 #[.string text, .int .i64 blk] w fun e w' => e = .returned (.tuple #[.agg #[.int .i64 0, .int .i64 0, .int .u32 0, .slice none 0 0], .bool false]) ∧ Below w.heap.size w w' := by
  have q : ((text.size : Int) != 9 + (blk : Int) + 4) = true := by rw [bne_iff_ne]; omega
  go_enter Tryd.func45, Tryd.ntmps45
  go_wp2
  exact bodyPost_ret (v := .tuple #[.agg #[.int .i64 0, .int .i64 0, .int .u32 0, .slice none 0 0], .bool false]) (by simp [results, Tryd.results45, go_sem]) rfl ⟨rfl, (Below.refl _ _).alloc (Nat.le_refl _) _⟩

set_option maxRecDepth 100000 in
set_option maxHeartbeats 1600000 in
theorem rhandle_short (br : Nat) (R : RC) (V : RV) (text : ByteArray) (w : World) (h : Recv w br R V) (hlk : R.lk = 0) (hv : RVOk V) (hs : text.size ≠ V.blk + 13) :
    Calls Tryd.prog 20 #[.pointer (some ⟨br, 0, none⟩), .string text] w fun e w' => e = .returned (.slice none 0 0) ∧ ∃ R', Aft w w' br R R' V := by
  have hread : ∀ w, Calls Tryd.prog 45 #[.string text, .int .i64 V.blk] w fun e w' => e = .returned (.tuple #[.agg #[.int .i64 0, .int .i64 0, .int .u32 0, .slice none 0 0], .bool false]) ∧ Below w.heap.size w w' := fun w => read_len2 text V.blk w hv.b1 hv.b2 hs
  have s0 := h.held.at_.c0
  rw [hlk] at s0
  have sf := h.held.at_.frozen 0
  have hL := h.setLk 1
  have s2 := hL.held.at_.c2
  rw [show ({ R with lk := 1 } : RC).blk = V.blk from h.eblk] at s2
  have HL : Hid _ := hL
  have HK : Hid (R.lk = 0) := hlk
  have HH : Hid _ := h
  have hlt := h.held.at_.lt
  clear hL h hlk
  go_enter_defers Tryd.func20, Tryd.ntmps20
  go_wp2_with fail
  refine (lock_free muLib ⟨br, 0, none⟩ _ s0 sf).mono ?_
  rintro e w1 ⟨rfl, rfl⟩
  go_wp2_with fail
  refine (hread _).mono ?_
  rintro e w2 ⟨rfl, hb2⟩
  have HB2 : Hid _ := hb2
  clear hb2
  go_wp2_with fail
  go_quiet (fail)
  go_wp2_with fail
  have hA3 := Aft.below HL.out ((HB2.out.alloc HB2.out.size (.cells #[.int .i64 0, .int .i64 0, .int .u32 0, .slice none 0 0] 125)).drewN nq)
  refine leaves_cons (f := 40) (args := #[.pointer (some ⟨br, 0, none⟩)]) (by simp) (by simp [go_sem]) ?_
  refine (unlock_deferred muLib ⟨br, 0, none⟩ .returning _ hA3.recv.held.at_.c0 (hA3.recv.held.at_.frozen 0)).mono ?_
  rintro e u' w'' ⟨rfl, rfl, rfl⟩
  exact ⟨_, results_tmp rfl _ _ _, rfl, _, Aft.unlock HK.out hA3⟩
theorem nHandle_short {w : World} {bs br : Nat} {F : List Nat} {S : SV} {V : RV} (text : ByteArray) (h : Net w bs br F S V) (hs : text.size ≠ V.blk + 13) :
    Calls Tryd.prog 20 #[.pointer (some ⟨br, 0, none⟩), .string text] w fun e w' => e = .returned (.slice none 0 0) ∧ ∃ F', NAft w w' bs br F F' S V := by
  obtain ⟨sl, cap, R, hn, rfl⟩ := h
  refine (rhandle_short br R V text w hn.recv hn.lk hn.rok hs).mono ?_
  rintro e w' ⟨rfl, R', ha⟩
  exact ⟨rfl, _, hn.receiver ha hn.rok⟩

set_option maxRecDepth 100000 in
set_option maxHeartbeats 800000 in
theorem nothing_short (N : NetA) (s : ByteArray) (w : World) (h : InvA w N) (hs : s.size ≠ N.blk + 13) :
    Calls Tryd.prog 66 #[.pointer (some ⟨N.bn, 0, none⟩), .bool false, .string s] w fun e w' => e = .returned (.bool true) ∧ ∃ N', StpA w N w' N' ∧ N'.hm = N.hm ∧ N'.wn = N.wn := by
  obtain ⟨c0, c1⟩ := h.m.cells
  have HI : Hid _ := h
  have hV : s.size ≠ N.V.blk + 13 := by rw [h.l.get.eblk]; exact hs
  clear h hs
  go_enter Tryd.func66, Tryd.ntmps66
  go_wp2_with fail
  refine (nHandle_short s HI.out.m.net hV).mono ?_
  rintro e1 w1 ⟨rfl, F1, ha⟩
  have HS : Hid _ := HI.out.same ha
  clear ha
  go_wp2_with fail
  go_ret
  exact ⟨rfl, _, HS.out, rfl, rfl⟩
set_option maxRecDepth 100000 in
set_option maxHeartbeats 800000 in
theorem nothing_short_up (N : NetA) (s : ByteArray) (w : World) (h : InvA w N) (hs : s.size ≠ 8) :
    Calls Tryd.prog 66 #[.pointer (some ⟨N.bn, 0, none⟩), .bool true, .string s] w fun e w' => e = .returned (.bool true) ∧ ∃ F', StpA w N w' { N with F := F' } := by
  obtain ⟨c0, c1⟩ := h.m.cells
  have HI : Hid _ := h
  have hS : N.S.handle (bytesOf s) = N.S := short_sender (by rw [bytesOf_len]; exact hs)
  clear h hs
  go_enter Tryd.func66, Tryd.ntmps66
  go_wp2_with fail
  refine (nSHandle s HI.out.m.net).mono ?_
  rintro e1 w1 ⟨rfl, F1, ha⟩
  rw [hS] at ha
  have HS : Hid _ := HI.out.same ha
  clear ha
  go_wp2_with fail
  go_ret
  exact ⟨rfl, _, HS.out⟩

theorem StpA.m {w w' : World} {N N' : NetA} (s : StpA w N w' N') : StpM w N w' N' := ⟨s.inv.m, s.turn, s.bn, s.blocks, s.ros⟩
theorem StpA.still {w w' : World} {N : NetA} (h : InvA w N) (T : Turn [] w w') : StpA w N w' N := (StpM.of_turn h.m T).to h.l (by omega) (by omega)

set_option maxRecDepth 100000 in
set_option maxHeartbeats 2000000 in
theorem stepA_bytes (N : NetA) (a n m nonce mask : Int) (s : ByteArray) (w : World) (h : InvA w N) :
    Calls Tryd.prog 36 #[.pointer (some ⟨N.bn, 0, none⟩), opV 10 a n m nonce mask s] w fun e w' => e = .returned (.bool true) ∧ ∃ N', StpA w N w' N' := by
  have hX := OpAt.mk' h.m 10 a n m nonce mask s
  have HT : Hid _ := hX.turn
  have HI : Hid _ := h
  have hb1 := h.l.blk1
  have hb2 := h.l.blk2
  have HX : Hid _ := hX
  clear hX h
  unfold opV
  by_cases g1 : 5 ≤ s.size
  · by_cases g2 : s.size ≤ 80
    · have q1 : decide ((5 : Int) ≤ (s.size : Int)) = true := by simp; omega
      have q2 : decide ((s.size : Int) ≤ 80) = true := by simp; omega
      go_enter Tryd.func36, Tryd.ntmps36
      go_wp2_with fail
      go_ret
      exact ⟨rfl, _, StpA.still HI.out HT.out⟩
    · have q1 : decide ((5 : Int) ≤ (s.size : Int)) = true := by simp; omega
      have q2 : decide ((s.size : Int) ≤ 80) = false := by simp; omega
      have HI0 : Hid (InvA (w.alloc (.cells (opCells 10 a n m nonce mask s) 89)) N) := ⟨HI.out.m.turn HT.out, HI.out.l⟩
      go_enter Tryd.func36, Tryd.ntmps36
      go_wp2_with fail
      refine (nothing_short_up N s _ HI0.out (by omega)).mono ?_
      rintro e w1 ⟨rfl, F1, st⟩
      have c6 : w1.cell? ⟨w.heap.size, 6, none⟩ = some (.string s) := (HX.out.cell st.m 6).trans rfl
      have HS : Hid _ := st
      clear st
      go_wp2_with fail
      refine (nothing_short _ s _ HS.out.inv (by show _ ≠ N.blk + 13; omega)).mono ?_
      rintro e w2 ⟨rfl, N2, st2, e1, e2⟩
      have HS2 : Hid _ := st2
      clear st2
      go_wp2_with fail
      go_ret
      refine ⟨rfl, N2, StpA.of HT.out HI.out.m (HS.out.m.trans HS2.out.m) HS2.out.inv.l ?_ ?_⟩
      · rw [e1]; show N.hm ≤ _; omega
      · rw [e2]; show N.wn ≤ _; omega
  · have q1 : decide ((5 : Int) ≤ (s.size : Int)) = false := by simp; omega
    have HI0 : Hid (InvA (w.alloc (.cells (opCells 10 a n m nonce mask s) 89)) N) := ⟨HI.out.m.turn HT.out, HI.out.l⟩
    go_enter Tryd.func36, Tryd.ntmps36
    go_wp2_with fail
    refine (nothing_short_up N s _ HI0.out (by omega)).mono ?_
    rintro e w1 ⟨rfl, F1, st⟩
    have c6 : w1.cell? ⟨w.heap.size, 6, none⟩ = some (.string s) := (HX.out.cell st.m 6).trans rfl
    have HS : Hid _ := st
    clear st
    go_wp2_with fail
    refine (nothing_short _ s _ HS.out.inv (by show _ ≠ N.blk + 13; omega)).mono ?_
    rintro e w2 ⟨rfl, N2, st2, e1, e2⟩
    have HS2 : Hid _ := st2
    clear st2
    go_wp2_with fail
    go_ret
    refine ⟨rfl, N2, StpA.of HT.out HI.out.m (HS.out.m.trans HS2.out.m) HS2.out.inv.l ?_ ?_⟩
    · rw [e1]; show N.hm ≤ _; omega
    · rw [e2]; show N.wn ≤ _; omega

set_option maxRecDepth 100000 in
set_option maxHeartbeats 2000000 in
theorem stepA_rank (N : NetA) (a n m nonce mask : Int) (s : ByteArray) (w : World) (h : InvA w N) (hbig : N.hm + 4 ≤ 8796093022208) :
    Calls Tryd.prog 36 #[.pointer (some ⟨N.bn, 0, none⟩), opV 12 a n m nonce mask s] w fun e w' => e = .returned (.bool true) ∧ ∃ N', StpA w N w' N' := by
  have hX := OpAt.mk' h.m 12 a n m nonce mask s
  have HT : Hid _ := hX.turn
  have HI : Hid _ := h
  have HS0 : Hid _ := (h.m.turn hX.turn).stp
  have nlt0 : N.bn < w.heap.size := lt_of_heap h.m.hold.net
  obtain ⟨c0, c1⟩ := h.m.cells
  have v1 : N.V.num = N.last := h.l.get.num
  have v2 : N.V.bks = N.K := h.l.get.bks
  have v3 : N.V.rnk = rankL N.rs := h.l.get.rnk
  have hK : N.K ≤ 32 := by rw [← v2]; exact h.m.net.rok.bks
  have hrs : N.rs.length ≤ 4398046511104 := by have := h.l.nrs; omega
  clear hX h
  unfold opV
  go_enter Tryd.func36, Tryd.ntmps36
  go_wp2_with fail
  rw [show w.alloc (.cells #[.int .i64 12, .int .i64 a, .int .i64 n, .int .i64 m, .int .u64 nonce, .int .u32 mask, .string s] 89) = w.alloc (.cells (opCells 12 a n m nonce mask s) 89) from rfl]
  generalize w.alloc (.cells (opCells 12 a n m nonce mask s) 89) = W at *
  refine (nRank HS0.out.m.net).mono ?_
  rintro e w1 ⟨rfl, F1, ha⟩
  rw [v1, v2, v3]
  have hs1 := HS0.out.ends ha
  have T1 : Turn [] w1 (w1.alloc (.cells #[.int .i64 N.last, .int .i64 (rankL N.rs), .int .i64 N.K] 63)) := (Turn.refl [] w1).alloc _
  have hs2 := hs1.then T1
  have hq2 := heap_alloc_new w1 (.cells #[.int .i64 N.last, .int .i64 (rankL N.rs), .int .i64 N.K] 63)
  have nlt1 : N.bn < w1.heap.size := lt_of_heap hs1.m.hold.net
  have c7 : w1.cell? ⟨N.bn, 7, none⟩ = some N.gv := by rw [cell_of_row _ _ _ _ _ _ hs1.m.hold.net]; rfl
  have HS2 : Hid _ := hs2
  have HQ2 : Hid _ := hq2
  clear hs1 ha T1 hs2 hq2
  go_wp2_with fail
  refine (refRank_any N.gv 0 N.K N.gs N.rs _ HS2.out.m.rl HS2.out.m.r0 hK hrs).mono ?_
  rintro e w3 ⟨rfl, hB⟩
  have T3 : Turn [] (w1.alloc (.cells #[.int .i64 N.last, .int .i64 (rankL N.rs), .int .i64 N.K] 63)) w3 := Turn.below hB (Nat.le_refl _)
  have hs3 := HS2.out.then T3
  have hq3 := T3.cells HQ2.out (by simp)
  have HS3 : Hid _ := hs3
  have z0 : w3.cell? ⟨w1.heap.size, 0, none⟩ = some (.int .i64 N.last) := by rw [cell_of_row _ _ _ _ _ _ hq3]; rfl
  have z1 : w3.cell? ⟨w1.heap.size, 1, none⟩ = some (.int .i64 (rankL N.rs)) := by rw [cell_of_row _ _ _ _ _ _ hq3]; rfl
  have z2 : w3.cell? ⟨w1.heap.size, 2, none⟩ = some (.int .i64 N.K) := by rw [cell_of_row _ _ _ _ _ _ hq3]; rfl
  have y5 : w3.cell? ⟨N.bn, 5, none⟩ = some (.int .i64 N.last) := by rw [cell_of_row _ _ _ _ _ _ hs3.m.hold.net]; rfl
  have y6 : w3.cell? ⟨N.bn, 6, none⟩ = some (.int .i64 N.K) := by rw [cell_of_row _ _ _ _ _ _ hs3.m.hold.net]; rfl
  clear hs3 hq3 T3 hB c7 HS2 HQ2
  go_wp2_with fail
  go_quiet (fail)
  go_wp2_with fail
  go_ret
  exact ⟨rfl, _, StpA.of HT.out HI.out.m (HS3.out.then ((Turn.refl [] _).drewN _)) (HI.out.l.feet F1) (by show N.hm ≤ _; omega) (by show N.wn ≤ _; omega)⟩
end Go.Proofs.YtafipndlfkklfaaDoor
