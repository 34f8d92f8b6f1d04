import Derived.Test.YtfbbidaoljfloaaDoorJ38
namespace Go.Proofs.YtfbbidaoljfloaaDoor
open Go.RowKit Go.MuLone

set_option maxHeartbeats 400000 in
theorem read_len2 (text : ByteArray) (blk : Nat) (w : World) (h1 : 1 ≤ blk) (h2 : blk ≤ 32) (hl : text.size ≠ blk + 13) :
    Calls Tryd.prog 45 #[.string text, .int .i64 blk] w fun e w' => e = .returned (.tuple #[.agg #[.int .i64 0, .int .i64 0, .int .u32 0, .slice none 0 0], .bool false]) ∧ Below w.heap.size w w' := by
  have q : ((text.size : Int) != 9 + (blk : Int) + 4) = true := by rw [bne_iff_ne]; omega
  go_enter Tryd.func45, Tryd.ntmps45
  go_wp2
  exact bodyPost_ret (v := .tuple #[.agg #[.int .i64 0, .int .i64 0, .int .u32 0, .slice none 0 0], .bool false]) (by simp [results, Tryd.results45, go_sem]) rfl ⟨rfl, (Below.refl _ _).alloc (Nat.le_refl _) _⟩

set_option maxRecDepth 100000 in
set_option maxHeartbeats 1600000 in
theorem rhandle_short (br : Nat) (R : RC) (V : RV) (text : ByteArray) (w : World) (h : Recv w br R V) (hlk : R.lk = 0) (hv : RVOk V) (hs : text.size ≠ V.blk + 13) :
    Calls Tryd.prog 20 #[.pointer (some ⟨br, 0, none⟩), .string text] w fun e w' => e = .returned (.slice none 0 0) ∧ ∃ R', Aft w w' br R R' V := by
  have hread : ∀ w, Calls Tryd.prog 45 #[.string text, .int .i64 V.blk] w fun e w' => e = .returned (.tuple #[.agg #[.int .i64 0, .int .i64 0, .int .u32 0, .slice none 0 0], .bool false]) ∧ Below w.heap.size w w' := fun w => read_len2 text V.blk w hv.b1 hv.b2 hs
  have s0 := h.held.at_.c0
  rw [hlk] at s0
  have sf := h.held.at_.frozen 0
  have hL := h.setLk 1
  have s2 := hL.held.at_.c2
  rw [show ({ R with lk := 1 } : RC).blk = V.blk from h.eblk] at s2
  have HL : Hid _ := hL
  have HK : Hid (R.lk = 0) := hlk
  have HH : Hid _ := h
  have hlt := h.held.at_.lt
  clear hL h hlk
  go_enter_defers Tryd.func20, Tryd.ntmps20
  go_wp2_with fail
  refine (lock_free muLib ⟨br, 0, none⟩ _ s0 sf).mono ?_
  rintro e w1 ⟨rfl, rfl⟩
  go_wp2_with fail
  refine (hread _).mono ?_
  rintro e w2 ⟨rfl, hb2⟩
  have HB2 : Hid _ := hb2
  clear hb2
  go_wp2_with fail
  go_quiet (fail)
  go_wp2_with fail
  have hA3 := Aft.below HL.out ((HB2.out.alloc HB2.out.size (.cells #[.int .i64 0, .int .i64 0, .int .u32 0, .slice none 0 0] 125)).drewN nq)
  refine leaves_cons (f := 40) (args := #[.pointer (some ⟨br, 0, none⟩)]) (by simp) (by simp [go_sem]) ?_
  refine (unlock_deferred muLib ⟨br, 0, none⟩ .returning _ hA3.recv.held.at_.c0 (hA3.recv.held.at_.frozen 0)).mono ?_
  rintro e u' w'' ⟨rfl, rfl, rfl⟩
  exact ⟨_, results_tmp rfl _ _ _, rfl, _, Aft.unlock HK.out hA3⟩
theorem nHandle_short {w : World} {bs br : Nat} {F : List Nat} {S : SV} {V : RV} (text : ByteArray) (h : Net w bs br F S V) (hs : text.size ≠ V.blk + 13) :
    Calls Tryd.prog 20 #[.pointer (some ⟨br, 0, none⟩), .string text] w fun e w' => e = .returned (.slice none 0 0) ∧ ∃ F', NAft w w' bs br F F' S V := by
  obtain ⟨sl, cap, R, hn, rfl⟩ := h
  refine (rhandle_short br R V text w hn.recv hn.lk hn.rok hs).mono ?_
  rintro e w' ⟨rfl, R', ha⟩
  exact ⟨rfl, _, hn.receiver ha hn.rok⟩

set_option maxRecDepth 100000 in
set_option maxHeartbeats 800000 in
theorem nothing_short (N : NetA) (s : ByteArray) (w : World) (h : InvA w N) (hs : s.size ≠ N.blk + 13) :
    Calls Tryd.prog 66 #[.pointer (some ⟨N.bn, 0, none⟩), .bool false, .string s] w fun e w' => e = .returned (.bool true) ∧ ∃ N', StpA w N w' N' ∧ N'.hm = N.hm ∧ N'.wn = N.wn := by
  obtain ⟨c0, c1⟩ := h.m.cells
  have HI : Hid _ := h
  have hV : s.size ≠ N.V.blk + 13 := by rw [h.l.get.eblk]; exact hs
  clear h hs
  go_enter Tryd.func66, Tryd.ntmps66
  go_wp2_with fail
  refine (nHandle_short s HI.out.m.net hV).mono ?_
  rintro e1 w1 ⟨rfl, F1, ha⟩
  have HS : Hid _ := HI.out.same ha
  clear ha
  go_wp2_with fail
  go_ret
  exact ⟨rfl, _, HS.out, rfl, rfl⟩
set_option maxRecDepth 100000 in
set_option maxHeartbeats 800000 in
theorem nothing_short_up (N : NetA) (s : ByteArray) (w : World) (h : InvA w N) (hs : s.size ≠ 8) :
    Calls Tryd.prog 66 #[.pointer (some ⟨N.bn, 0, none⟩), .bool true, .string s] w fun e w' => e = .returned (.bool true) ∧ ∃ F', StpA w N w' { N with F := F' } := by
  obtain ⟨c0, c1⟩ := h.m.cells
  have HI : Hid _ := h
  have hS : N.S.handle (bytesOf s) = N.S := short_sender (by rw [bytesOf_len]; exact hs)
  clear h hs
  go_enter Tryd.func66, Tryd.ntmps66
  go_wp2_with fail
  refine (nSHandle s HI.out.m.net).mono ?_
  rintro e1 w1 ⟨rfl, F1, ha⟩
  rw [hS] at ha
  have HS : Hid _ := HI.out.same ha
  clear ha
  go_wp2_with fail
  go_ret
  exact ⟨rfl, _, HS.out⟩

theorem StpA.m {w w' : World} {N N' : NetA} (s : StpA w N w' N') : StpM w N w' N' := ⟨s.inv.m, s.turn, s.bn, s.blocks, s.ros⟩
theorem StpA.still {w w' : World} {N : NetA} (h : InvA w N) (T : Turn [] w w') : StpA w N w' N := (StpM.of_turn h.m T).to h.l (by omega) (by omega)

set_option maxRecDepth 100000 in
set_option maxHeartbeats 2000000 in
theorem stepA_bytes (N : NetA) (a n m nonce mask : Int) (s : ByteArray) (w : World) (h : InvA w N) :
    Calls Tryd.prog 36 #[.pointer (some ⟨N.bn, 0, none⟩), opV 10 a n m nonce mask s] w fun e w' => e = .returned (.bool true) ∧ ∃ N', StpA w N w' N' := by
  have hX := OpAt.mk' h.m 10 a n m nonce mask s
  have HT : Hid _ := hX.turn
  have HI : Hid _ := h
  have hb1 := h.l.blk1
  have hb2 := h.l.blk2
  have HX : Hid _ := hX
  clear hX h
  unfold opV
  by_cases g1 : 5 ≤ s.size
  · by_cases g2 : s.size ≤ 80
    · have q1 : decide ((5 : Int) ≤ (s.size : Int)) = true := by simp; omega
      have q2 : decide ((s.size : Int) ≤ 80) = true := by simp; omega
      go_enter Tryd.func36, Tryd.ntmps36
      go_wp2_with fail
      go_ret
      exact ⟨rfl, _, StpA.still HI.out HT.out⟩
    · have q1 : decide ((5 : Int) ≤ (s.size : Int)) = true := by simp; omega
      have q2 : decide ((s.size : Int) ≤ 80) = false := by simp; omega
      have HI0 : Hid (InvA (w.alloc (.cells (opCells 10 a n m nonce mask s) 89)) N) := ⟨HI.out.m.turn HT.out, HI.out.l⟩
      go_enter Tryd.func36, Tryd.ntmps36
      go_wp2_with fail
      refine (nothing_short_up N s _ HI0.out (by omega)).mono ?_
      rintro e w1 ⟨rfl, F1, st⟩
      have c6 : w1.cell? ⟨w.heap.size, 6, none⟩ = some (.string s) := (HX.out.cell st.m 6).trans rfl
      have HS : Hid _ := st
      clear st
      go_wp2_with fail
      refine (nothing_short _ s _ HS.out.inv (by show _ ≠ N.blk + 13; omega)).mono ?_
      rintro e w2 ⟨rfl, N2, st2, e1, e2⟩
      have HS2 : Hid _ := st2
      clear st2
      go_wp2_with fail
      go_ret
      refine ⟨rfl, N2, StpA.of HT.out HI.out.m (HS.out.m.trans HS2.out.m) HS2.out.inv.l ?_ ?_⟩
      · rw [e1]; show N.hm ≤ _; omega
      · rw [e2]; show N.wn ≤ _; omega
  · have q1 : decide ((5 : Int) ≤ (s.size : Int)) = false := by simp; omega
    have HI0 : Hid (InvA (w.alloc (.cells (opCells 10 a n m nonce mask s) 89)) N) := ⟨HI.out.m.turn HT.out, HI.out.l⟩
    go_enter Tryd.func36, Tryd.ntmps36
    go_wp2_with fail
    refine (nothing_short_up N s _ HI0.out (by omega)).mono ?_
    rintro e w1 ⟨rfl, F1, st⟩
    have c6 : w1.cell? ⟨w.heap.size, 6, none⟩ = some (.string s) := (HX.out.cell st.m 6).trans rfl
    have HS : Hid _ := st
    clear st
    go_wp2_with fail
    refine (nothing_short _ s _ HS.out.inv (by show _ ≠ N.blk + 13; omega)).mono ?_
    rintro e w2 ⟨rfl, N2, st2, e1, e2⟩
    have HS2 : Hid _ := st2
    clear st2
    go_wp2_with fail
    go_ret
    refine ⟨rfl, N2, StpA.of HT.out HI.out.m (HS.out.m.trans HS2.out.m) HS2.out.inv.l ?_ ?_⟩
    · rw [e1]; show N.hm ≤ _; omega
    · rw [e2]; show N.wn ≤ _; omega

set_option maxRecDepth 100000 in
set_option maxHeartbeats 2000000 in
theorem stepA_rank (N : NetA) (a n m nonce mask : Int) (s : ByteArray) (w : World) (h : InvA w N) (hbig : N.hm + 4 ≤ 8796093022208) :
    Calls Tryd.prog 36 #[.pointer (some ⟨N.bn, 0, none⟩), opV 12 a n m nonce mask s] w fun e w' => e = .returned (.bool true) ∧ ∃ N', StpA w N w' N' := by
  have hX := OpAt.mk' h.m 12 a n m nonce mask s
  have HT : Hid _ := hX.turn
  have HI : Hid _ := h
  have HS0 : Hid _ := (h.m.turn hX.turn).stp
  have nlt0 : N.bn < w.heap.size := lt_of_heap h.m.hold.net
  obtain ⟨c0, c1⟩ := h.m.cells
  have v1 : N.V.num = N.last := h.l.get.num
  have v2 : N.V.bks = N.K := h.l.get.bks
  have v3 : N.V.rnk = rankL N.rs := h.l.get.rnk
  have hK : N.K ≤ 32 := by rw [← v2]; exact h.m.net.rok.bks
  have hrs : N.rs.length ≤ 4398046511104 := by have := h.l.nrs; omega
  clear hX h
  unfold opV
  go_enter Tryd.func36, Tryd.ntmps36
  go_wp2_with fail
  rw [show w.alloc (.cells #[.int .i64 12, .int .i64 a, .int .i64 n, .int .i64 m, .int .u64 nonce, .int .u32 mask, .string s] 89) = w.alloc (.cells (opCells 12 a n m nonce mask s) 89) from rfl]
  generalize w.alloc (.cells (opCells 12 a n m nonce mask s) 89) = W at *
  refine (nRank HS0.out.m.net).mono ?_
  rintro e w1 ⟨rfl, F1, ha⟩
  rw [v1, v2, v3]
  have hs1 := HS0.out.ends ha
  have T1 : Turn [] w1 (w1.alloc (.cells #[.int .i64 N.last, .int .i64 (rankL N.rs), .int .i64 N.K] 63)) := (Turn.refl [] w1).alloc _
  have hs2 := hs1.then T1
  have hq2 := heap_alloc_new w1 (.cells #[.int .i64 N.last, .int .i64 (rankL N.rs), .int .i64 N.K] 63)
  have nlt1 : N.bn < w1.heap.size := lt_of_heap hs1.m.hold.net
  have c7 : w1.cell? ⟨N.bn, 7, none⟩ = some N.gv := by rw [cell_of_row _ _ _ _ _ _ hs1.m.hold.net]; rfl
  have HS2 : Hid _ := hs2
  have HQ2 : Hid _ := hq2
  clear hs1 ha T1 hs2 hq2
  go_wp2_with fail
  refine (refRank_any N.gv 0 N.K N.gs N.rs _ HS2.out.m.rl HS2.out.m.r0 hK hrs).mono ?_
  rintro e w3 ⟨rfl, hB⟩
  have T3 : Turn [] (w1.alloc (.cells #[.int .i64 N.last, .int .i64 (rankL N.rs), .int .i64 N.K] 63)) w3 := Turn.below hB (Nat.le_refl _)
  have hs3 := HS2.out.then T3
  have hq3 := T3.cells HQ2.out (by simp)
  have HS3 : Hid _ := hs3
  have z0 : w3.cell? ⟨w1.heap.size, 0, none⟩ = some (.int .i64 N.last) := by rw [cell_of_row _ _ _ _ _ _ hq3]; rfl
  have z1 : w3.cell? ⟨w1.heap.size, 1, none⟩ = some (.int .i64 (rankL N.rs)) := by rw [cell_of_row _ _ _ _ _ _ hq3]; rfl
  have z2 : w3.cell? ⟨w1.heap.size, 2, none⟩ = some (.int .i64 N.K) := by rw [cell_of_row _ _ _ _ _ _ hq3]; rfl
  have y5 : w3.cell? ⟨N.bn, 5, none⟩ = some (.int .i64 N.last) := by rw [cell_of_row _ _ _ _ _ _ hs3.m.hold.net]; rfl
  have y6 : w3.cell? ⟨N.bn, 6, none⟩ = some (.int .i64 N.K) := by rw [cell_of_row _ _ _ _ _ _ hs3.m.hold.net]; rfl
  clear hs3 hq3 T3 hB c7 HS2 HQ2
  go_wp2_with fail
  go_quiet (fail)
  go_wp2_with fail
  go_ret
  exact ⟨rfl, _, StpA.of HT.out HI.out.m (HS3.out.then ((Turn.refl [] _).drewN _)) (HI.out.l.feet F1) (by show N.hm ≤ _; omega) (by show N.wn ≤ _; omega)⟩
end Go.Proofs.YtfbbidaoljfloaaDoor
