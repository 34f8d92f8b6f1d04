import Derived.Test.YtfbbidaoljfloaaDoorJ25
import Derived.Deep.DeepCutAuto
import Derived.Test.YtfbbidaoljfloaaDoorP4
namespace Go.Proofs.YtfbbidaoljfloaaDoor
open Go.RowKit

set_option maxHeartbeats 400000 in
theorem setRank_any (br : Nat) (R : RC) (w : World) (h : RAt w br R) :
    Calls Tryd.prog 79 #[.pointer (some ⟨br, 7, none⟩)] w fun e w' => e = .returned (.int .i64 R.srk) ∧ w' = w := by
  have c := h.c71
  go_enter Tryd.func79, Tryd.ntmps79
  go_wp2
  go_ret
  exact ⟨rfl, rfl⟩

theorem Recv.add {w w' : World} {br : Nat} {R : RC} {V : RV} {A : Rx.SetV × Bool} (h : Recv w br R V) {rows' : Nat → Nat} {sls' : Nat → Value} (hh : Held w' br { R with rows := rows', sls := sls', srk := R.srk + bitN A.2 } A.1) (ht : Turn [br] w w')
    (hs : ∀ j g, j < 32 → (sls' j).ownBlock = some g → (R.sls j).ownBlock = some g ∨ w.heap.size ≤ g) :
    Aft w (w'.setCell ⟨br, 4, none⟩ (.int .i64 (R.srk + bitN A.2 : Nat))) br R { R with rows := rows', sls := sls', srk := R.srk + bitN A.2, rnk := R.srk + bitN A.2 } { V with set := A.1, srk := V.srk + bitN A.2, rnk := V.srk + bitN A.2 } := by
  have hT : Turn [br] w' (w'.setCell ⟨br, 4, none⟩ (.int .i64 (R.srk + bitN A.2 : Nat))) := (Turn.refl [br] w').setCell (.inl (by simp)) _
  have hbl : ∀ g, g ∈ RC.blocks { R with rows := rows', sls := sls', srk := R.srk + bitN A.2, rnk := R.srk + bitN A.2 } → g ∈ R.blocks ∨ w.heap.size ≤ g := fun g hg => by
    obtain ⟨j, hj, e⟩ := RC.mem_blocks.1 hg
    rcases hs j g hj e with q | q
    · exact .inl (RC.mem_blocks.2 ⟨j, hj, q⟩)
    · exact .inr q
  refine ⟨⟨⟨?_, hh.row, fun j hj => ?_, hh.apart⟩, h.eblk, h.enum, by show R.srk + _ = V.srk + _; rw [h.esrk], h.ebks, h.elen, by show R.srk + _ = V.srk + _; rw [h.esrk], h.edlv, ?_, h.rn1, fun g hg e => ?_⟩, rfl, ?_, fun g hg => ?_⟩
  · exact RAt.setRnk hh.at_ _
  · rcases hh.sl j hj with q | ⟨q1, g, c, q2, q3, q4⟩
    · exact .inl q
    · exact .inr ⟨q1, g, c, q2, q3.turn hT (by simpa using q4), q4⟩
  · exact (ht.trans hT (fun x hx => .inl hx)).owns h.owns (fun k hk => by
      intro hm
      simp at hm
      rw [hm] at hk
      exact h.rn1 hk)
  · have e' : R.rdy.ownBlock = some g := e
    rcases hbl g hg with q | q
    · exact h.rn2 g q e'
    · have := (h.owns.lt g e').2
      omega
  · exact (ht.trans hT (fun x hx => .inl hx)).mono (by simp [RC.foot])
  · simp only [RC.foot, List.mem_cons, List.mem_append] at hg ⊢
    rcases hg with q | q | q
    · simp [q]
    · rcases hbl g q with q | q
      · simp [q]
      · exact .inr q
    · have q' : g ∈ R.rdy.ownBlock.toList := q
      simp at q'
      simp [q']

theorem Recv.deliver {w w' : World} {br : Nat} {R : RC} {V : RV} (h : Recv w br R V) {rdy' : Value} (hd : DelAft w w' br R (V.ready ++ [(strOf ((Rx.joinF V.set V.bks).take V.len), V.num)]) rdy') :
    Aft w w' br R (RC.emptied { R with rdy := rdy', dlv := fun i => if i = R.num then true else R.dlv i }) V.deliver := by
  have hbl : (RC.emptied { R with rdy := rdy', dlv := fun i => if i = R.num then true else R.dlv i }).blocks = [] := by
    rw [List.eq_nil_iff_forall_not_mem]
    intro g hg
    obtain ⟨j, _, e⟩ := RC.mem_blocks.1 hg
    cases e
  refine ⟨⟨⟨hd.at_, fun j _ => rfl, fun j _ => .inl ⟨rfl, rfl⟩, fun i j g _ _ _ e => by cases e⟩, h.eblk, h.enum, h.ernk, h.ebks, h.elen, rfl, ?_, hd.owns, fun e => ?_, by rw [hbl]; simp⟩, rfl, hd.turn, fun g hg => ?_⟩
  · show (fun i => if i = R.num then true else R.dlv i) = (fun i => if i = V.num then true else V.dlv i)
    rw [h.enum, h.edlv]
  · have e' : rdy'.ownBlock = some br := e
    rcases hd.new br e' with q | q
    · exact h.rn1 q
    · have := h.held.at_.lt
      omega
  · unfold RC.foot at hg ⊢
    rw [hbl] at hg
    simp only [List.nil_append, List.mem_cons] at hg
    rcases hg with q | q
    · simp [q]
    · have q' : g ∈ rdy'.ownBlock.toList := q
      simp at q'
      rcases hd.new g q' with q | q
      · simp [q]
      · exact .inr q

structure RC.enumOk (R : RC) (V : RV) : Prop where
  num : R.num = V.num
  bks : R.bks = V.bks
  len : R.len = V.len
  blk : R.blk = V.blk

theorem addIn_blk (br : Nat) (R : RC) (S : Rx.SetV) (K row gs off cap b : Nat) (ns : List Nat) (w : World) (hb : b = R.blk) (h : Held w br R S) (hok : Rx.SetOk R.blk K S) (hK : K ≤ 32) (ht : Tab w) (hr : row < 2 ^ K) (hc : CellsAt w gs off ns) (hl : ns.length = R.blk) (h1 : 1 ≤ R.blk) (h2 : R.blk ≤ 32) (hsr : R.srk ≤ 1000) :
    Calls Tryd.prog 78 #[.pointer (some ⟨br, 7, none⟩), .int .u32 row, .slice (some ⟨gs, off, none⟩) b cap] w fun e w' => e = .returned (.tuple #[]) ∧ ∃ rows' sls', Held w' br { R with rows := rows', sls := sls', srk := R.srk + bitN (Rx.addF 33 S row ns).2 } (Rx.addF 33 S row ns).1 ∧ Turn [br] w w' ∧
      (∀ j g, j < 32 → (sls' j).ownBlock = some g → (R.sls j).ownBlock = some g ∨ w.heap.size ≤ g) := by
  subst hb
  exact addIn_any br R S K row gs off cap ns w h hok hK ht hr hc hl h1 h2 hsr

set_option maxRecDepth 100000 in
set_option maxHeartbeats 1600000 in
theorem gather_any (br : Nat) (R : RC) (V : RV) (x1 x2 x3 gs off cap : Nat) (ns : List Nat) (w : World) (h : Recv w br R V) (hv : RVOk V) (ht : Tab w) (h0 : 0 ∉ R.foot br) (hc : canB x1 x2 x3 V.blk = true) (hx1 : x1 < 65536) (hx2 : x2 < 65536) (hnd : V.dlv x1 = false)
    (hce : CellsAt w gs off ns) (hl : ns.length = V.blk) (hgf : gs ∉ R.foot br) :
    Calls Tryd.prog 47 #[.pointer (some ⟨br, 0, none⟩), .agg #[.int .i64 x1, .int .i64 x2, .int .u32 x3, .slice (some ⟨gs, off, none⟩) V.blk cap]] w fun e w' => e = .returned (.tuple #[]) ∧ ∃ R', Aft w w' br R R' (V.gather x1 x2 x3 ns) := by
  obtain ⟨f1, f2, f3, f4, f5⟩ := hv.first hc hx2
  have c3 := h.held.at_.c3
  rw [h.enum] at c3
  have hh2 := h.turn ((Turn.refl [] w).alloc (.cells #[.int .i64 x1, .int .i64 x2, .int .u32 x3, .slice (some ⟨gs, off, none⟩) V.blk cap] 125)) (by simp)
  have hlt := h.lt
  have hb1 : 1 ≤ R.blk := by rw [h.eblk]; exact hv.b1
  have hb2 : R.blk ≤ 32 := by rw [h.eblk]; exact hv.b2
  have hblt : br < w.heap.size := h.held.at_.lt
  have hBn : w.heap.size ∉ R.foot br := fun hm => by have := hlt _ hm; omega
  have HH : Hid _ := h
  have HH2 : Hid _ := hh2
  have HF : Hid (∃ VF, VF = V.first x1 x2) := ⟨_, rfl⟩
  obtain ⟨VF, hVF⟩ := HF.out
  have HG : Hid (V.gather x1 x2 x3 ns = if x1 < VF.num ∨ x2 ≠ VF.len then VF else (VF.add x3 ns).last) := by rw [Hid, hVF]; rfl
  rw [← hVF] at f1 f2 f3 f4 f5
  have F2 : Hid (VF.blk = V.blk) := f2
  have F4 : Hid (VF.dlv = V.dlv) := f4
  clear f2 f4 f5
  have HVF : Hid (VF = V.first x1 x2) := hVF
  clear hVF h hh2 HF
  go_enter Tryd.func47, Tryd.ntmps47
  go_upto_region 1 with fail
  go_quiet (fail)
  go_upto_if 11 with fail
  go_cut [3] from 4 to 14 (fun v wx => v = .pointer (some ⟨w.heap.size, 0, none⟩) ∧ ∃ R1, Aft (w.alloc (.cells #[.int .i64 x1, .int .i64 x2, .int .u32 x3, .slice (some ⟨gs, off, none⟩) V.blk cap] 125)) wx br R R1 VF)
  case first =>
    have HB : Hid (Recv ((w.alloc (.cells #[.int .i64 x1, .int .i64 x2, .int .u32 x3, .slice (some ⟨gs, off, none⟩) V.blk cap] 125)).drewN nq) br R V) := Recv.turn HH2.out ((Turn.refl [] _).drewN nq) (by simp)
    by_cases hl1 : V.num < x1
    · have hd : decide (V.num < x1) = true := by simpa using hl1
      have e : VF = V.begin x1 x2 := by rw [HVF.out, RV.first, if_pos hl1]
      have HE : Hid _ := e
      clear e
      go_wp2_with fail
      refine (begin_any br R x1 x2 x3 (.slice (some ⟨gs, off, none⟩) V.blk cap) ((w.alloc (.cells #[.int .i64 x1, .int .i64 x2, .int .u32 x3, .slice (some ⟨gs, off, none⟩) V.blk cap] 125)).drewN nq) HB.out.held.at_ hb1 hb2 hx2).mono ?_
      rintro e w2 ⟨rfl, ht2, ha2⟩
      go_wp2_with fail
      go_meet
      refine ⟨rfl, RC.emptied { R with num := x1, rnk := 0, bks := blocksOf x2 R.blk, len := x2 }, ?_⟩
      rw [HE.out]
      exact (Aft.trans ⟨HB.out, rfl, (Turn.refl _ _).drewN nq, fun _ hg => .inl hg⟩ (Recv.begin HB.out x1 x2 ht2 ha2))
    · have hd : decide (V.num < x1) = false := by simpa using hl1
      have e : VF = V := by rw [HVF.out, RV.first, if_neg hl1]
      have HE : Hid _ := e
      clear e
      go_wp2_with fail
      go_meet
      refine ⟨rfl, R, ?_⟩
      rw [HE.out]
      exact ⟨HB.out, rfl, (Turn.refl _ _).drewN nq, fun _ hg => .inl hg⟩
  case rest =>
    obtain ⟨rfl, R1, hA⟩ := hcut
    have hB : wc.heap[w.heap.size]? = some (.cells #[.int .i64 x1, .int .i64 x2, .int .u32 x3, .slice (some ⟨gs, off, none⟩) V.blk cap] 125 (0, 0)) := (hA.turn.block w.heap.size (by simp) hBn).trans (heap_alloc_new w _)
    obtain ⟨s0, s1, s2, s3, _⟩ := sumCells hB
    have d3 := hA.recv.held.at_.c3
    have d6 := hA.recv.held.at_.c6
    rw [hA.recv.enum] at d3
    rw [hA.recv.elen] at d6
    have hce2 : CellsAt wc gs off ns := hce.turn (((Turn.refl (R.foot br) w).alloc _).trans hA.turn (fun x hx => .inl hx)) hgf
    have HA : Hid _ := hA
    have hsz : 0 < w.heap.size := by omega
    have hz1 : 0 ∉ R1.foot br := hA.zero h0 (by simp)
    have htab : Tab wc := ht.turn (((Turn.refl (R.foot br) w).alloc _).trans hA.turn (fun x hx => .inl hx)) h0
    have TW : Turn (R.foot br) w (w.alloc (.cells #[.int .i64 x1, .int .i64 x2, .int .u32 x3, .slice (some ⟨gs, off, none⟩) V.blk cap] 125)) := (Turn.refl (R.foot br) w).alloc _
    have HTW : Hid _ := TW
    clear hA TW
    by_cases k1 : x1 < VF.num
    · have q1 : decide (x1 < VF.num) = true := by simpa using k1
      have e : V.gather x1 x2 x3 ns = VF := by rw [HG.out, if_pos (.inl k1)]
      have HE : Hid _ := e
      clear e k1
      go_upto_region 3 with fail
      go_quiet (fail)
      go_wp2_with fail
      refine bodyPost_ret (results_none rfl _ _ _) rfl ⟨rfl, R1, ?_⟩
      rw [HE.out]
      exact ⟨HA.out.recv.turn ((Turn.refl [] _).drewN _) (by simp), HA.out.lk, (HTW.out.trans HA.out.turn (fun x hx => .inl hx)).drewN _, fun g hg => by
        rcases HA.out.foot g hg with q | q
        · exact .inl q
        · right; simp at q; omega⟩
    · have q1 : decide (x1 < VF.num) = false := by simpa using k1
      by_cases k2 : x2 = VF.len
      · have q2 : ((x2 : Int) != (VF.len : Int)) = false := by rw [bne_eq_false_iff_eq]; omega
        have e : V.gather x1 x2 x3 ns = (VF.add x3 ns).last := by rw [HG.out, if_neg (by omega)]
        have hn1 : x1 = VF.num := by omega
        obtain ⟨cb1, cb2, cb3, cb4, cb5⟩ := canB_iff.1 hc
        have hsh := f1.shape (by omega)
        have hx3K : x3 < 2 ^ VF.bks := by rw [hsh.1, ← k2, F2.out]; exact cb5
        have hbk1 : 1 ≤ VF.bks := by rw [hsh.1]; exact blocksOf_pos _ _
        have hadd := f1.add (ns := ns) hx3K (by rw [F2.out]; exact hl) hce.lt
        have hdl : VF.dlv VF.num = false := by rw [← hn1, F4.out]; exact hnd
        have hblk1 : Hid (R1.blk = VF.blk) := HA.out.recv.eblk
        have hslk : Hid (V.blk = R1.blk) := by rw [Hid, hblk1.out, F2.out]
        have hsrk : R1.srk ≤ 32 := by rw [HA.out.recv.esrk, f1.cnt]; exact Nat.le_trans (Rx.cntR_le _ _) f1.bks
        have HFx : Hid _ := And.intro hadd (And.intro hdl (And.intro hbk1 (And.intro hsh (And.intro hn1 e))))
        clear e k1 k2 hadd hdl hbk1 hsh hn1 cb1 cb2 cb3 cb4 cb5
        go_upto_region 3 with fail
        go_quiet (fail)
        go_upto_region 4 with fail
        have HW4 : Hid (Aft w (wc.drewN nq) br R R1 VF) := ⟨HA.out.recv.turn ((Turn.refl [] _).drewN nq) (by simp), HA.out.lk, (HTW.out.trans HA.out.turn (fun x hx => .inl hx)).drewN _, fun g hg => by
          rcases HA.out.foot g hg with q | q
          · exact .inl q
          · right; simp at q; omega⟩
        have hce4 : CellsAt (wc.drewN nq) gs off ns := hce2.turn ((Turn.refl [] wc).drewN nq) (by simp)
        have htab4 : Tab (wc.drewN nq) := htab.turn ((Turn.refl [] wc).drewN nq) (by simp)
        have s2' : (wc.drewN nq).cell? ⟨w.heap.size, 2, none⟩ = some (.int .u32 x3) := s2
        have s3' : (wc.drewN nq).cell? ⟨w.heap.size, 3, none⟩ = some (.slice (some ⟨gs, off, none⟩) V.blk cap) := s3
        clear HA hce2 htab s0 s1 s2 s3 d3 d6 hB
        generalize wc.drewN nq = w4 at *
        go_cut [3] from 32 to 39 (fun _ wx => ∃ rows' sls', Held wx br { R1 with rows := rows', sls := sls', srk := R1.srk + bitN (Rx.addF 33 VF.set x3 ns).2 } (Rx.addF 33 VF.set x3 ns).1 ∧ Turn [br] w4 wx ∧ (∀ j g, j < 32 → (sls' j).ownBlock = some g → (R1.sls j).ownBlock = some g ∨ w4.heap.size ≤ g))
        case first =>
          refine wp_region_noPanic ?_
          go_region_law (first
            | (go_simp; go_at_call 78; refine (addIn_blk br R1 VF.set VF.bks x3 gs off cap V.blk ns w4.drew hslk.out (HW4.out.recv.held.turn ((Turn.refl [] _).drew) (by simp) (by simp)) (by rw [hblk1.out]; exact f1.set) f1.bks htab4 hx3K (hce4.turn ((Turn.refl [] w4).drew) (by simp)) (by rw [← hslk.out]; exact hl) (by rw [hblk1.out]; exact f1.b1) (by rw [hblk1.out]; exact f1.b2) (by omega)).mono ?_; rintro e w2 ⟨rfl, rows', sls', hh2, ht2, hn2⟩))
          all_goals
            refine NoPanic.normal ?_
            go_wp2_with fail
            go_meet
            exact ⟨rows', sls', hh2, ((Turn.refl _ w4).drew).trans ht2 (fun x hx => .inl hx), hn2⟩
        case rest =>
          obtain ⟨rows', sls', hh2, ht2, hn2⟩ := hcut
          have e4 := hh2.at_.c4
          have ef := hh2.at_.frozen 4
          have e5 : wc.cell? ⟨br, 5, none⟩ = some (.int .i64 VF.bks) := by have := hh2.at_.c5; rw [← HW4.out.recv.ebks]; exact this
          have hAd := Recv.add (A := Rx.addF 33 VF.set x3 ns) HW4.out.recv hh2 ht2 hn2
          have HAd : Hid (Aft w4 (wc.setCell ⟨br, 4, none⟩ (.int .i64 (R1.srk + bitN (Rx.addF 33 VF.set x3 ns).2 : Nat))) br R1 { R1 with rows := rows', sls := sls', srk := R1.srk + bitN (Rx.addF 33 VF.set x3 ns).2, rnk := R1.srk + bitN (Rx.addF 33 VF.set x3 ns).2 } (VF.add x3 ns)) := hAd
          have HHH : Hid _ := hh2
          have HSR : Hid (R1.srk = VF.srk) := HW4.out.recv.esrk
          have HEN : Hid (R1.enumOk VF) := ⟨HW4.out.recv.enum, HW4.out.recv.ebks, HW4.out.recv.elen, HW4.out.recv.eblk⟩
          clear hAd hh2 ht2 hn2
          go_wp2_with fail
          refine (setRank_any br { R1 with rows := rows', sls := sls', srk := R1.srk + bitN (Rx.addF 33 VF.set x3 ns).2 } _ HHH.out.at_).mono ?_
          rintro e w2 ⟨rfl, rfl⟩
          have hsm : R1.srk + bitN (Rx.addF 33 VF.set x3 ns).2 ≤ 1000 := by unfold bitN; split <;> omega
          go_wp2_with fail
          go_quiet (fail)
          go_upto_if 58 with fail
          have HX : Hid (Aft w4 ((w2.setCell ⟨br, 4, none⟩ (.int .i64 ((R1.srk : Int) + (bitN (Rx.addF 33 VF.set x3 ns).2 : Nat)))).drewN nq) br R1 { R1 with rows := rows', sls := sls', srk := R1.srk + bitN (Rx.addF 33 VF.set x3 ns).2, rnk := R1.srk + bitN (Rx.addF 33 VF.set x3 ns).2 } (VF.add x3 ns)) :=
            ⟨Recv.turn HAd.out.recv ((Turn.refl [] _).drewN nq) (by simp), HAd.out.lk, HAd.out.turn.drewN nq, HAd.out.foot⟩
          have hz4 : 0 ∉ R1.foot br := hz1
          have hszw : 0 < w4.heap.size := by have := HW4.out.turn.size; omega
          have hz5 := HX.out.zero hz4 hszw
          by_cases k3 : R1.srk + bitN (Rx.addF 33 VF.set x3 ns).2 = VF.bks
          · have q3 : ((R1.srk : Int) + (bitN (Rx.addF 33 VF.set x3 ns).2 : Nat) == (VF.bks : Int)) = true := by rw [beq_iff_eq]; omega
            have hfull : (VF.add x3 ns).srk = (VF.add x3 ns).bks := by show VF.srk + _ = VF.bks; rw [← HSR.out]; exact k3
            have HFu : Hid _ := hfull
            have HK3 : Hid _ := k3
            clear k3 hfull
            go_wp2_with fail
            refine (deliver_any br { R1 with rows := rows', sls := sls', srk := R1.srk + bitN (Rx.addF 33 VF.set x3 ns).2, rnk := R1.srk + bitN (Rx.addF 33 VF.set x3 ns).2 } (VF.add x3 ns).set VF.ready _ HX.out.recv.held ?_ ?_ ?_ ?_ ?_ ?_ ?_ ?_ ?_ ?_ HX.out.recv.owns ?_ HX.out.recv.rn1 HX.out.recv.rn2).mono ?_
            · show Rx.SetOk R1.blk R1.bks (VF.add x3 ns).set
              rw [HEN.out.blk, HEN.out.bks]
              exact HFx.out.1.set
            · show R1.bks ≤ 32
              rw [HEN.out.bks]; exact f1.bks
            · show 1 ≤ R1.bks
              rw [HEN.out.bks]; exact HFx.out.2.2.1
            · exact htab4.turn HX.out.turn hz4
            · intro hm
              exact hz5 (by
                rcases List.mem_cons.1 hm with q | q
                · rw [q]; simp [RC.foot]
                · simp [RC.foot, q])
            · show ∀ t, t < R1.bks → ((VF.add x3 ns).set t).1 ≠ 0
              rw [HEN.out.bks]
              exact HFx.out.1.full HFu.out
            · show 1 ≤ R1.blk
              rw [HEN.out.blk]; exact f1.b1
            · show R1.blk ≤ 32
              rw [HEN.out.blk]; exact f1.b2
            · show R1.len ≤ R1.bks * R1.blk
              rw [HEN.out.len, HEN.out.bks, HEN.out.blk, HFx.out.2.2.2.1.1]
              exact blocksOf_cover _ _ f1.b1
            · show R1.num ≤ 500
              rw [HEN.out.num]; exact f1.num
            · have := f1.ready
              have := cntD_le VF.dlv
              omega
            rintro e w5 ⟨rfl, rdy', hdA⟩
            have hdA2 : DelAft ((w2.setCell ⟨br, 4, none⟩ (.int .i64 ((R1.srk : Int) + (bitN (Rx.addF 33 VF.set x3 ns).2 : Nat)))).drewN nq) w5 br { R1 with rows := rows', sls := sls', srk := R1.srk + bitN (Rx.addF 33 VF.set x3 ns).2, rnk := R1.srk + bitN (Rx.addF 33 VF.set x3 ns).2 } ((VF.add x3 ns).ready ++ [(strOf ((Rx.joinF (VF.add x3 ns).set (VF.add x3 ns).bks).take (VF.add x3 ns).len), (VF.add x3 ns).num)]) rdy' := by
              have e1 : (VF.add x3 ns).bks = R1.bks := HEN.out.bks.symm
              have e2 : (VF.add x3 ns).len = R1.len := HEN.out.len.symm
              have e3 : (VF.add x3 ns).num = R1.num := HEN.out.num.symm
              rw [e1, e2, e3]
              exact hdA
            have hfin := HW4.out.trans (HX.out.trans (Recv.deliver HX.out.recv hdA2))
            have HFI : Hid _ := hfin
            clear hfin hdA hdA2
            go_wp2_with fail
            refine bodyPost_end (results_none rfl _ _ _) rfl ⟨rfl, ?_⟩
            rw [HFx.out.2.2.2.2.2, RV.last, if_pos HFu.out]
            exact ⟨_, HFI.out⟩
          · have q3 : ((R1.srk : Int) + (bitN (Rx.addF 33 VF.set x3 ns).2 : Nat) == (VF.bks : Int)) = false := by rw [beq_eq_false_iff_ne]; omega
            have hfull : ¬ (VF.add x3 ns).srk = (VF.add x3 ns).bks := by show ¬ VF.srk + _ = VF.bks; rw [← HSR.out]; exact k3
            have HFu : Hid _ := hfull
            clear k3 hfull
            go_wp2_with fail
            refine bodyPost_end (results_none rfl _ _ _) rfl ⟨rfl, ?_⟩
            rw [HFx.out.2.2.2.2.2, RV.last, if_neg HFu.out]
            exact ⟨_, HW4.out.trans HX.out⟩
      · have q2 : ((x2 : Int) != (VF.len : Int)) = true := by rw [bne_iff_ne]; omega
        have e : V.gather x1 x2 x3 ns = VF := by rw [HG.out, if_pos (.inr k2)]
        have HE : Hid _ := e
        clear e k1 k2
        go_upto_region 3 with fail
        go_quiet (fail)
        go_wp2_with fail
        refine bodyPost_ret (results_none rfl _ _ _) rfl ⟨rfl, R1, ?_⟩
        rw [HE.out]
        exact ⟨HA.out.recv.turn ((Turn.refl [] _).drewN _) (by simp), HA.out.lk, (HTW.out.trans HA.out.turn (fun x hx => .inl hx)).drewN _, fun g hg => by
          rcases HA.out.foot g hg with q | q
          · exact .inl q
          · right; simp at q; omega⟩

end Go.Proofs.YtfbbidaoljfloaaDoor


namespace Go.Proofs.YtfbbidaoljfloaaDoor
open Go.RowKit Go.MuLone

def RV.gone (V : RV) (x1 x2 x3 : Nat) (ns : List Nat) : RV := if V.dlv x1 then V else V.gather x1 x2 x3 ns
/-- What a receiver makes of a text. -/
def RV.handle (V : RV) (bs : List Nat) : RV × Option (List Nat) :=
  match readS bs V.blk with
  | none => (V, none)
  | some (x1, x2, x3, ns) => if canB x1 x2 x3 V.blk then (V.gone x1 x2 x3 ns, if (V.gone x1 x2 x3 ns).dlv x1 then some (doneB x1 V.blk) else none) else (V, none)

theorem RVOk.gather {V : RV} (h : RVOk V) {x1 x2 x3 : Nat} {ns : List Nat} (hc : canB x1 x2 x3 V.blk = true) (hx2 : x2 < 65536) (hnd : V.dlv x1 = false) (hl : ns.length = V.blk) (hb : ∀ b ∈ ns, b < 256) : RVOk (V.gather x1 x2 x3 ns) := by
  obtain ⟨f1, f2, f3, f4, f5⟩ := h.first hc hx2
  obtain ⟨c1, c2, c3, c4, c5⟩ := canB_iff.1 hc
  unfold RV.gather
  by_cases hs : x1 < (V.first x1 x2).num ∨ x2 ≠ (V.first x1 x2).len
  · rw [if_pos hs]; exact f1
  · rw [if_neg hs]
    have hn : x1 = (V.first x1 x2).num := by omega
    have hx : x2 = (V.first x1 x2).len := by omega
    have hsh := f1.shape (by omega)
    have ha := f1.add (x3 := x3) (ns := ns) (by rw [hsh.1, ← hx, f2]; exact c5) (by rw [f2]; exact hl) hb
    unfold RV.last
    split
    · exact ha.deliver (by show (V.first x1 x2).dlv (V.first x1 x2).num = false; rw [← hn, f4]; exact hnd) (by show 1 ≤ (V.first x1 x2).num; omega)
    · exact ha

theorem gather_blk (V : RV) (x1 x2 x3 : Nat) (ns : List Nat) : (V.gather x1 x2 x3 ns).blk = V.blk := by
  unfold RV.gather RV.last RV.first
  repeat' split
  all_goals rfl

theorem readS_facts {bs : List Nat} {blk x1 x2 x3 : Nat} {ns : List Nat} (hb : ∀ b ∈ bs, b < 256) (h : readS bs blk = some (x1, x2, x3, ns)) : bs.length = blk + 13 ∧ bs.getD 0 0 = 1 ∧ bs.take (blk + 9) ++ leBytes 4 (crc (bs.take (blk + 9))) = bs ∧ x1 = leVal ((bs.drop 1).take 2) ∧ x2 = leVal ((bs.drop 3).take 2) ∧ x3 = leVal ((bs.drop 5).take 4) ∧ ns = (bs.drop 9).take blk ∧ x1 < 65536 ∧ x2 < 65536 ∧ x3 < 4294967296 ∧ ns.length = blk ∧ ∀ b ∈ ns, b < 256 := by
  unfold readS at h
  split at h
  · rename_i hh
    simp only [Option.some.injEq, Prod.mk.injEq] at h
    obtain ⟨rfl, rfl, rfl, rfl⟩ := h
    have hd : ∀ i k, ∀ b ∈ (bs.drop i).take k, b < 256 := fun i k b hm => hb b (List.mem_of_mem_drop (List.mem_of_mem_take hm))
    have e1 := leVal_lt _ (hd 1 2)
    have e2 := leVal_lt _ (hd 3 2)
    have e3 := leVal_lt _ (hd 5 4)
    have l1 : ((bs.drop 1).take 2).length = 2 := by simp; omega
    have l2 : ((bs.drop 3).take 2).length = 2 := by simp; omega
    have l3 : ((bs.drop 5).take 4).length = 4 := by simp; omega
    rw [l1] at e1
    rw [l2] at e2
    rw [l3] at e3
    exact ⟨hh.1, hh.2.1, hh.2.2, rfl, rfl, rfl, rfl, by omega, by omega, by omega, by simp; omega, hd 9 blk⟩
  · cases h

theorem RVOk.handle {V : RV} (h : RVOk V) (bs : List Nat) (hb : ∀ b ∈ bs, b < 256) : RVOk (V.handle bs).1 := by
  unfold RV.handle
  cases hr : readS bs V.blk with
  | none => exact h
  | some p =>
    obtain ⟨x1, x2, x3, ns⟩ := p
    obtain ⟨_, _, _, _, _, _, _, q1, q2, q3, q4, q5⟩ := readS_facts hb hr
    simp only
    split
    · rename_i hc
      unfold RV.gone
      split
      · exact h
      · rename_i hd
        exact h.gather hc q2 (by simpa using hd) q4 q5
    · exact h

theorem Recv.setLk {w : World} {br : Nat} {R : RC} {V : RV} (h : Recv w br R V) (x : Int) : Recv (w.setCell ⟨br, 0, none⟩ (.int .i32 x)) br { R with lk := x } V := by
  have hT : Turn [br] w (w.setCell ⟨br, 0, none⟩ (.int .i32 x)) := (Turn.refl [br] w).setCell (.inl (by simp)) _
  refine ⟨⟨h.held.at_.setLk x, h.held.row, fun j hj => ?_, h.held.apart⟩, h.eblk, h.enum, h.ernk, h.ebks, h.elen, h.esrk, h.edlv, hT.owns h.owns (fun k hk => by
      intro hm
      simp at hm
      rw [hm] at hk
      exact h.rn1 hk), h.rn1, h.rn2⟩
  rcases h.held.sl j hj with q | ⟨q1, g, c, q2, q3, q4⟩
  · exact .inl q
  · exact .inr ⟨q1, g, c, q2, q3.turn hT (by simpa using q4), q4⟩

theorem Aft.below {w w' : World} {br : Nat} {R : RC} {V : RV} (h : Recv w br R V) (hb : Below w.heap.size w w') : Aft w w' br R R V :=
  ⟨h.turn (Turn.below (S := []) hb (Nat.le_refl _)) (by simp), rfl, Turn.below hb (Nat.le_refl _), fun _ hg => .inl hg⟩

theorem Aft.unlock {w w2 : World} {br : Nat} {R R2 : RC} {V2 : RV} (hl : R.lk = 0) (hA : Aft (w.setCell ⟨br, 0, none⟩ (.int .i32 1)) w2 br { R with lk := 1 } R2 V2) :
    Aft w (w2.setCell ⟨br, 0, none⟩ (.int .i32 0)) br R { R2 with lk := 0 } V2 :=
  ⟨hA.recv.setLk 0, hl.symm, (((Turn.refl (R.foot br) w).setCell (.inl (by simp [RC.foot])) _).trans hA.turn (fun x hx => .inl hx)).setCell (.inl (by simp [RC.foot])) _, fun g hg => by
    rcases hA.foot g hg with q | q
    · exact .inl q
    · right; simpa using q⟩

/-- What comes out. -/
structure Ans (w w' : World) (R' : RC) (br : Nat) (e : Ending) (a : Option (List Nat)) : Prop where
  none_ : a = none → e = .returned (.slice none 0 0)
  some_ : ∀ d, a = some d → ∃ G, e = .returned (.slice (some ⟨G, 0, none⟩) 1 1) ∧ w'.heap[G]? = some (.cells #[.string (strOf d)] 9 (0, 0)) ∧ w.heap.size ≤ G ∧ G ∉ R'.foot br

set_option maxRecDepth 100000 in
set_option maxHeartbeats 1600000 in
theorem rhandle_none (br : Nat) (R : RC) (V : RV) (text : ByteArray) (w : World) (h : Recv w br R V) (hlk : R.lk = 0) (hv : RVOk V) (hm : text.size ≤ 4611686018427387904) (hr : readS (bytesOf text) V.blk = none) :
    Calls Tryd.prog 20 #[.pointer (some ⟨br, 0, none⟩), .string text] w fun e w' => e = .returned (.slice none 0 0) ∧ ∃ R', Aft w w' br R R' V := by
  have hread : ∀ w, Calls Tryd.prog 45 #[.string text, .int .i64 V.blk] w fun e w' => e = .returned (.tuple #[.agg #[.int .i64 0, .int .i64 0, .int .u32 0, .slice none 0 0], .bool false]) ∧ Below w.heap.size w w' := by
    intro w
    unfold readS at hr
    rw [bytesOf_len] at hr
    by_cases hs : text.size = V.blk + 13
    · by_cases hk : (bytesOf text).getD 0 0 = 1
      · by_cases hc : (bytesOf text).take (V.blk + 9) ++ leBytes 4 (crc ((bytesOf text).take (V.blk + 9))) = bytesOf text
        · rw [if_pos ⟨hs, hk, hc⟩] at hr
          cases hr
        · exact read_seal text V.blk w hv.b1 hv.b2 hs hk hc
      · exact read_kind text V.blk w hv.b1 hv.b2 hs hk
    · exact read_len text V.blk w hv.b1 hv.b2 hs hm
  have s0 := h.held.at_.c0
  rw [hlk] at s0
  have sf := h.held.at_.frozen 0
  have hL := h.setLk 1
  have s2 := hL.held.at_.c2
  rw [show ({ R with lk := 1 } : RC).blk = V.blk from h.eblk] at s2
  have HL : Hid _ := hL
  have HK : Hid (R.lk = 0) := hlk
  have HH : Hid _ := h
  have hlt := h.held.at_.lt
  clear hL h hlk
  go_enter_defers Tryd.func20, Tryd.ntmps20
  go_wp2_with fail
  refine (lock_free muLib ⟨br, 0, none⟩ _ s0 sf).mono ?_
  rintro e w1 ⟨rfl, rfl⟩
  go_wp2_with fail
  refine (hread _).mono ?_
  rintro e w2 ⟨rfl, hb2⟩
  have HB2 : Hid _ := hb2
  clear hb2
  go_wp2_with fail
  go_quiet (fail)
  go_wp2_with fail
  have hA3 := Aft.below HL.out ((HB2.out.alloc HB2.out.size (.cells #[.int .i64 0, .int .i64 0, .int .u32 0, .slice none 0 0] 125)).drewN nq)
  refine leaves_cons (f := 40) (args := #[.pointer (some ⟨br, 0, none⟩)]) (by simp) (by simp [go_sem]) ?_
  refine (unlock_deferred muLib ⟨br, 0, none⟩ .returning _ hA3.recv.held.at_.c0 (hA3.recv.held.at_.frozen 0)).mono ?_
  rintro e u' w'' ⟨rfl, rfl, rfl⟩
  exact ⟨_, results_tmp rfl _ _ _, rfl, _, Aft.unlock HK.out hA3⟩

/-- A sum that was read. -/
structure Read (text : ByteArray) (V : RV) (x1 x2 x3 : Nat) (ns : List Nat) : Prop where
  call : ∀ w, Calls Tryd.prog 45 #[.string text, .int .i64 V.blk] w fun e w' => ∃ g cap, e = .returned (.tuple #[.agg #[.int .i64 x1, .int .i64 x2, .int .u32 x3, .slice (some ⟨g, 9, none⟩) V.blk cap], .bool true]) ∧ Below w.heap.size w w' ∧ CellsAt w' g 9 ns ∧ w.heap.size ≤ g ∧ V.blk ≤ cap ∧ cap ≤ maxLen
  b1 : x1 < 65536
  b2 : x2 < 65536
  b3 : x3 < 4294967296
  len : ns.length = V.blk

theorem read_of {text : ByteArray} {V : RV} (hv : RVOk V) {x1 x2 x3 : Nat} {ns : List Nat} (hr : readS (bytesOf text) V.blk = some (x1, x2, x3, ns)) : Read text V x1 x2 x3 ns := by
  obtain ⟨a1, a2, a3, rfl, rfl, rfl, rfl, a4, a5, a6, a7, a8⟩ := readS_facts (bytesOf_lt text) hr
  rw [bytesOf_len] at a1
  exact ⟨fun w => read_good text V.blk w hv.b1 hv.b2 a1 a2 a3, a4, a5, a6, a7⟩

set_option maxRecDepth 100000 in
set_option maxHeartbeats 1600000 in
theorem rhandle_cannot (br : Nat) (R : RC) (V : RV) (text : ByteArray) (w : World) (x1 x2 x3 : Nat) (ns : List Nat) (h : Recv w br R V) (hlk : R.lk = 0) (hv : RVOk V) (hr : Read text V x1 x2 x3 ns) (hc : canB x1 x2 x3 V.blk = false) :
    Calls Tryd.prog 20 #[.pointer (some ⟨br, 0, none⟩), .string text] w fun e w' => e = .returned (.slice none 0 0) ∧ ∃ R', Aft w w' br R R' V := by
  obtain ⟨hread, b1, b2, b3, hln⟩ := hr
  have s0 := h.held.at_.c0
  rw [hlk] at s0
  have sf := h.held.at_.frozen 0
  have hL := h.setLk 1
  have s2 := hL.held.at_.c2
  rw [show ({ R with lk := 1 } : RC).blk = V.blk from h.eblk] at s2
  have HL : Hid _ := hL
  have HK : Hid (R.lk = 0) := hlk
  have hlt := h.held.at_.lt
  have hv1 := hv.b1
  have hv2 := hv.b2
  clear hL h hlk
  go_enter_defers Tryd.func20, Tryd.ntmps20
  go_wp2_with fail
  refine (lock_free muLib ⟨br, 0, none⟩ _ s0 sf).mono ?_
  rintro e w1 ⟨rfl, rfl⟩
  go_wp2_with fail
  refine (hread _).mono ?_
  rintro e w2 ⟨g, cap, rfl, hb2, hce, hg, hcp1, hcp2⟩
  have t2 : w2.cell? ⟨br, 2, none⟩ = some (.int .i64 V.blk) := (hb2.cell (p := ⟨br, 2, none⟩) (by simpa using hlt)).trans s2
  have HB2 : Hid _ := hb2
  have hsz2 : w.heap.size ≤ w2.heap.size := by have := hb2.size; simpa using this
  have hlt2 : br < w2.heap.size := by omega
  clear hb2 hce
  go_wp2_with fail
  refine wp_region_noPanic ?_
  go_region_law (first
    | (go_simp; go_at_call 46; refine (canBe_any x1 x2 x3 V.blk _ _ rfl hv1 hv2 b1 b2 b3).mono ?_; rintro e w3 ⟨rfl, hb3⟩; rw [hc]))
  all_goals
    refine NoPanic.normal ?_
    go_wp2_with fail
    have hA3 := Aft.below HL.out (((HB2.out.alloc HB2.out.size (.cells #[.int .i64 x1, .int .i64 x2, .int .u32 x3, .slice (some ⟨g, 9, none⟩) V.blk cap] 125)).drew).trans (hb3.mono (by simp; omega)))
    refine leaves_cons (f := 40) (args := #[.pointer (some ⟨br, 0, none⟩)]) (by simp) (by simp [go_sem]) ?_
    refine (unlock_deferred muLib ⟨br, 0, none⟩ .returning _ hA3.recv.held.at_.c0 (hA3.recv.held.at_.frozen 0)).mono ?_
    rintro e u' w'' ⟨rfl, rfl, rfl⟩
    exact ⟨_, results_tmp rfl _ _ _, rfl, _, Aft.unlock HK.out hA3⟩

end Go.Proofs.YtfbbidaoljfloaaDoor
