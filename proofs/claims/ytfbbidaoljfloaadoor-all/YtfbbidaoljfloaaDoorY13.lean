import Derived.Test.YtfbbidaoljfloaaDoorJ26
namespace Go.Proofs.YtfbbidaoljfloaaDoor
open Go.RowKit Go.MuLone

def sumObj (x1 x2 x3 g blk cap : Nat) : Obj := .cells #[.int .i64 x1, .int .i64 x2, .int .u32 x3, .slice (some ⟨g, 9, none⟩) blk cap] 125

structure MidA (W1 wx : World) (br B g : Nat) (RL R' : RC) (V' : RV) (O : Obj) (ns : List Nat) : Prop where
  aft : Aft W1 wx br RL R' V'
  obj : wx.heap[B]? = some O
  cells : CellsAt wx g 9 ns

set_option maxRecDepth 100000 in
set_option maxHeartbeats 2000000 in
theorem rhandle_can (br : Nat) (R : RC) (V : RV) (text : ByteArray) (w : World) (x1 x2 x3 : Nat) (ns : List Nat) (h : Recv w br R V) (hlk : R.lk = 0) (hv : RVOk V) (ht : Tab w) (h0 : 0 ∉ R.foot br) (hr : Read text V x1 x2 x3 ns) (hc : canB x1 x2 x3 V.blk = true) :
    Calls Tryd.prog 20 #[.pointer (some ⟨br, 0, none⟩), .string text] w fun e w' => ∃ R', Aft w w' br R R' (V.gone x1 x2 x3 ns) ∧ Ans w w' R' br e (if (V.gone x1 x2 x3 ns).dlv x1 then some (doneB x1 V.blk) else none) := by
  have HN : Hid (∃ an, an = (if (V.gone x1 x2 x3 ns).dlv x1 then some (doneB x1 V.blk) else none)) := ⟨_, rfl⟩
  obtain ⟨an, han⟩ := HN.out
  rw [← han]
  have HAN : Hid (an = (if (V.gone x1 x2 x3 ns).dlv x1 then some (doneB x1 V.blk) else none)) := han
  clear han HN
  obtain ⟨hread, b1, b2, b3, hln⟩ := hr
  obtain ⟨cb1, cb2, cb3, cb4, cb5⟩ := canB_iff.1 hc
  have s0 := h.held.at_.c0
  rw [hlk] at s0
  have sf := h.held.at_.frozen 0
  have hL := h.setLk 1
  have s2 := hL.held.at_.c2
  rw [show ({ R with lk := 1 } : RC).blk = V.blk from h.eblk] at s2
  have HL : Hid _ := hL
  have HK : Hid (R.lk = 0) := hlk
  have hlt := h.held.at_.lt
  have hflt := h.lt
  have hv1 := hv.b1
  have hv2 := hv.b2
  have htL : Tab (w.setCell ⟨br, 0, none⟩ (.int .i32 1)) := ht.turn ((Turn.refl [br] w).setCell (.inl (by simp)) _) (by intro hm; simp at hm; exact h0 (by simp [RC.foot, hm]))
  clear hL h hlk cb3 cb4 cb5
  go_enter_defers Tryd.func20, Tryd.ntmps20
  go_wp2_with fail
  refine (lock_free muLib ⟨br, 0, none⟩ _ s0 sf).mono ?_
  rintro e w1 ⟨rfl, rfl⟩
  go_wp2_with fail
  refine (hread _).mono ?_
  rintro e w2 ⟨g, cap, rfl, hb2, hce, hg, hcp1, hcp2⟩
  have t2 : w2.cell? ⟨br, 2, none⟩ = some (.int .i64 V.blk) := (hb2.cell (p := ⟨br, 2, none⟩) (by simpa using hlt)).trans s2
  have HB2 : Hid _ := hb2
  have hsz2 : w.heap.size ≤ w2.heap.size := by have := hb2.size; simpa using this
  have hlt2 : br < w2.heap.size := by omega
  have HCE : Hid _ := hce
  have hg2 : w.heap.size ≤ g := by simpa using hg
  have hglt : g < w2.heap.size := by
    have : 0 < ns.length := by omega
    exact World.block_lt_of_cell? w2 _ (hce.cell 0 ns[0] (by simp))
  clear hb2 hce
  go_upto_region 4 with fail
  have HB3 : Hid (Below (w.setCell ⟨br, 0, none⟩ (.int .i32 1)).heap.size (w.setCell ⟨br, 0, none⟩ (.int .i32 1)) ((w2.alloc (sumObj x1 x2 x3 g V.blk cap)).drew)) := (HB2.out.alloc HB2.out.size _).drew
  have HO3 : Hid (((w2.alloc (sumObj x1 x2 x3 g V.blk cap)).drew).heap[w2.heap.size]? = some (sumObj x1 x2 x3 g V.blk cap)) := heap_alloc_new w2 _
  generalize hB : w2.heap.size = B at *
  go_cut [5, 33] from 23 to 33 (fun p c wx => p = .pointer (some ⟨B, 0, none⟩) ∧ c = .bool false ∧ MidA (w.setCell ⟨br, 0, none⟩ (.int .i32 1)) wx br B g { R with lk := 1 } { R with lk := 1 } V (sumObj x1 x2 x3 g V.blk cap) ns)
  case first =>
    refine wp_region_noPanic ?_
    go_region_law (first
      | (go_simp; go_at_call 46; refine (canBe_any x1 x2 x3 V.blk _ _ rfl hv1 hv2 b1 b2 b3).mono ?_; rintro e w3 ⟨rfl, hb3⟩; rw [hc]))
    all_goals
      refine NoPanic.normal ?_
      go_wp2_with fail
      go_meet
      have hbb := HB3.out.trans (hb3.mono HB3.out.size)
      refine ⟨rfl, rfl, Aft.below HL.out hbb, (hb3.block B (lt_of_heap HO3.out)).trans HO3.out, HCE.out.turn ((((Turn.refl [] w2).alloc _).drew).trans (Turn.below (S := []) hb3 (Nat.le_refl _)) (by simp)) (by simp)⟩
  case rest =>
    obtain ⟨rfl, rfl, hM⟩ := hcut
    have HM : Hid _ := hM
    have o0 : wc.cell? ⟨B, 0, none⟩ = some (.int .i64 x1) := by rw [cell_of_row _ _ _ _ _ _ hM.obj]; rfl
    have o1 : wc.cell? ⟨B, 1, none⟩ = some (.int .i64 x2) := by rw [cell_of_row _ _ _ _ _ _ hM.obj]; rfl
    have o2 : wc.cell? ⟨B, 2, none⟩ = some (.int .u32 x3) := by rw [cell_of_row _ _ _ _ _ _ hM.obj]; rfl
    have o3 : wc.cell? ⟨B, 3, none⟩ = some (.slice (some ⟨g, 9, none⟩) V.blk cap) := by rw [cell_of_row _ _ _ _ _ _ hM.obj]; rfl
    have dd := hM.aft.recv.held.at_.dlvAt (show x1 < 501 by omega)
    rw [hM.aft.recv.edlv] at dd
    have n0 : (0 : Int) ≤ (x1 : Int) := by omega
    have n1 : (x1 : Int) < 501 := by omega
    have hBf : B ∉ R.foot br := fun hm => by have := hflt B hm; omega
    have hgf : g ∉ R.foot br := fun hm => by have := hflt g hm; omega
    have htab : Tab wc := htL.turn hM.aft.turn h0
    clear hM
    go_upto_region 6 with fail
    go_quiet (fail)
    go_upto_if 41 with fail
    have HM4 : Hid (MidA (w.setCell ⟨br, 0, none⟩ (.int .i32 1)) (wc.drewN nq) br B g { R with lk := 1 } { R with lk := 1 } V (sumObj x1 x2 x3 g V.blk cap) ns) :=
      ⟨⟨HM.out.aft.recv.turn ((Turn.refl [] _).drewN nq) (by simp), rfl, HM.out.aft.turn.drewN nq, HM.out.aft.foot⟩, HM.out.obj, HM.out.cells.turn ((Turn.refl [] wc).drewN nq) (by simp)⟩
    have htab4 : Tab (wc.drewN nq) := htab
    have o0' : (wc.drewN nq).cell? ⟨B, 0, none⟩ = some (.int .i64 x1) := o0
    have o1' : (wc.drewN nq).cell? ⟨B, 1, none⟩ = some (.int .i64 x2) := o1
    have o2' : (wc.drewN nq).cell? ⟨B, 2, none⟩ = some (.int .u32 x3) := o2
    have o3' : (wc.drewN nq).cell? ⟨B, 3, none⟩ = some (.slice (some ⟨g, 9, none⟩) V.blk cap) := o3
    clear HM o0 o1 o2 o3 dd htab
    generalize wc.drewN nq = w4 at *
    go_cut [5] from 34 to 44 (fun p wx => p = .pointer (some ⟨B, 0, none⟩) ∧ ∃ R', MidA (w.setCell ⟨br, 0, none⟩ (.int .i32 1)) wx br B g { R with lk := 1 } R' (V.gone x1 x2 x3 ns) (sumObj x1 x2 x3 g V.blk cap) ns)
    case first =>
      by_cases hd : V.dlv x1 = true
      · have e : V.gone x1 x2 x3 ns = V := by rw [RV.gone, if_pos hd]
        have HE : Hid _ := e
        clear e
        simp only [hd, Bool.not_true]
        go_wp2_with fail
        go_meet
        refine ⟨rfl, { R with lk := 1 }, ?_⟩
        rw [HE.out]
        exact HM4.out
      · have hd' : V.dlv x1 = false := by simpa using hd
        have e : V.gone x1 x2 x3 ns = V.gather x1 x2 x3 ns := by rw [RV.gone, if_neg hd]
        have HE : Hid _ := e
        clear e hd
        simp only [hd', Bool.not_false]
        go_wp2_with fail
        refine (gather_any br { R with lk := 1 } V x1 x2 x3 g 9 cap ns w4 HM4.out.aft.recv hv htab4 h0 hc b1 b2 hd' HM4.out.cells hln hgf).mono ?_
        rintro e w5 ⟨rfl, R', hA5⟩
        have HA5 : Hid _ := hA5
        clear hA5
        go_wp2_with fail
        go_meet
        refine ⟨rfl, R', ?_⟩
        rw [HE.out]
        exact ⟨HM4.out.aft.trans HA5.out, (HA5.out.turn.block B (lt_of_heap HM4.out.obj) hBf).trans HM4.out.obj, HM4.out.cells.turn HA5.out.turn hgf⟩
    case rest =>
      obtain ⟨rfl, R', hM⟩ := hcut
      have HM : Hid _ := hM
      have o0 : wc.cell? ⟨B, 0, none⟩ = some (.int .i64 x1) := by rw [cell_of_row _ _ _ _ _ _ hM.obj]; rfl
      have dd := hM.aft.recv.held.at_.dlvAt (show x1 < 501 by omega)
      rw [hM.aft.recv.edlv] at dd
      have r2 := hM.aft.recv.held.at_.c2
      have ebl : (V.gone x1 x2 x3 ns).blk = V.blk := by
        unfold RV.gone
        split
        · rfl
        · exact gather_blk _ _ _ _ _
      rw [hM.aft.recv.eblk, ebl] at r2
      have hwlt : br < wc.heap.size := hM.aft.recv.held.at_.lt
      have hBlt : B < wc.heap.size := lt_of_heap hM.obj
      clear hM htab4 o0' o1' o2' o3' HM4 ebl
      by_cases hd : (V.gone x1 x2 x3 ns).dlv x1 = true
      · rw [hd] at dd
        have e : an = some (doneB x1 V.blk) := by rw [HAN.out, if_pos hd]
        have HE : Hid _ := e
        clear e hd
        go_upto_region 8 with fail
        go_quiet (fail)
        go_upto_region 10 with fail
        refine wp_region_noPanic ?_
        go_region_law (first
          | (go_simp; go_at_call 48; refine (doneText_any x1 V.blk _ b1 hv2).mono ?_; rintro e w6 ⟨rfl, hb6⟩))
        all_goals
          refine NoPanic.normal ?_
          go_wp2_with fail
          have hsz6 : wc.heap.size ≤ w6.heap.size := hb6.size
          have hb7 : Below wc.heap.size wc (w6.alloc (.cells #[.string (strOf (doneB x1 V.blk))] 9)) := ((((Below.refl wc.heap.size wc).drewN nq).drew).trans hb6).alloc hsz6 _
          have hA3 : Aft (w.setCell ⟨br, 0, none⟩ (.int .i32 1)) (w6.alloc (.cells #[.string (strOf (doneB x1 V.blk))] 9)) br { R with lk := 1 } R' (V.gone x1 x2 x3 ns) := HM.out.aft.trans (Aft.below HM.out.aft.recv hb7)
          have hl1 : R'.lk = 1 := hA3.lk
          have hGn : w6.heap.size ∉ R'.foot br := fun hm => by
            have := HM.out.aft.recv.lt _ hm
            omega
          refine leaves_cons (f := 40) (args := #[.pointer (some ⟨br, 0, none⟩)]) (by simp) (by simp [go_sem]) ?_
          refine (unlock_deferred muLib ⟨br, 0, none⟩ .returning _ (by rw [hA3.recv.held.at_.c0, hl1]) (hA3.recv.held.at_.frozen 0)).mono ?_
          rintro e u' w'' ⟨rfl, rfl, rfl⟩
          refine ⟨_, results_tmp rfl _ _ _, _, Aft.unlock HK.out hA3, ⟨(fun hq => by rw [HE.out] at hq; cases hq), fun d hq => ?_⟩⟩
          rw [HE.out] at hq
          cases hq
          refine ⟨w6.heap.size, rfl, ?_, ?_, hGn⟩
          · rw [heap_setCell_other _ _ _ _ (by simp; omega)]
            exact heap_alloc_new w6 _
          · have := HM.out.aft.turn.size
            simp at this
            omega
      · have hd' : (V.gone x1 x2 x3 ns).dlv x1 = false := by simpa using hd
        rw [hd'] at dd
        have e : an = none := by rw [HAN.out, if_neg hd]
        have HE : Hid _ := e
        clear e hd hd'
        go_upto_region 8 with fail
        go_quiet (fail)
        go_wp2_with fail
        have hA3 : Aft (w.setCell ⟨br, 0, none⟩ (.int .i32 1)) (wc.drewN nq) br { R with lk := 1 } R' (V.gone x1 x2 x3 ns) := ⟨HM.out.aft.recv.turn ((Turn.refl [] _).drewN nq) (by simp), HM.out.aft.lk, HM.out.aft.turn.drewN nq, HM.out.aft.foot⟩
        have hl1 : R'.lk = 1 := hA3.lk
        refine leaves_cons (f := 40) (args := #[.pointer (some ⟨br, 0, none⟩)]) (by simp) (by simp [go_sem]) ?_
        refine (unlock_deferred muLib ⟨br, 0, none⟩ .returning _ (by rw [hA3.recv.held.at_.c0, hl1]) (hA3.recv.held.at_.frozen 0)).mono ?_
        rintro e u' w'' ⟨rfl, rfl, rfl⟩
        exact ⟨_, results_tmp rfl _ _ _, _, Aft.unlock HK.out hA3, ⟨fun _ => rfl, fun d hq => by rw [HE.out] at hq; cases hq⟩⟩

theorem rhandle_any (br : Nat) (R : RC) (V : RV) (text : ByteArray) (w : World) (h : Recv w br R V) (hlk : R.lk = 0) (hv : RVOk V) (ht : Tab w) (h0 : 0 ∉ R.foot br) (hm : text.size ≤ 4611686018427387904) :
    Calls Tryd.prog 20 #[.pointer (some ⟨br, 0, none⟩), .string text] w fun e w' => ∃ R', Aft w w' br R R' (V.handle (bytesOf text)).1 ∧ Ans w w' R' br e (V.handle (bytesOf text)).2 := by
  unfold RV.handle
  cases hr : readS (bytesOf text) V.blk with
  | none =>
    refine (rhandle_none br R V text w h hlk hv hm hr).mono ?_
    rintro e w' ⟨rfl, R', hA⟩
    exact ⟨R', hA, ⟨fun _ => rfl, fun d hd => by cases hd⟩⟩
  | some p =>
    obtain ⟨x1, x2, x3, ns⟩ := p
    have hrd := read_of hv hr
    simp only
    by_cases hc : canB x1 x2 x3 V.blk = true
    · rw [if_pos hc]
      exact rhandle_can br R V text w x1 x2 x3 ns h hlk hv ht h0 hrd hc
    · rw [if_neg hc]
      refine (rhandle_cannot br R V text w x1 x2 x3 ns h hlk hv hrd (by simpa using hc)).mono ?_
      rintro e w' ⟨rfl, R', hA⟩
      exact ⟨R', hA, ⟨fun _ => rfl, fun d hd => by cases hd⟩⟩

end Go.Proofs.YtfbbidaoljfloaaDoor
