import Derived.Test.YtfbbidaoljfloaaDoorA1
namespace Go.Proofs.YtfbbidaoljfloaaDoor
open Go.RowKit Go.MuLone

theorem Ctx.made {w w1 w2 : World} {bp bs br : Nat} {F : List Nat} {S : SV} {V : RV} (hb : Below w.heap.size w w1) (hpos : 0 < w.heap.size) (hnet : Net w2 bs br F S V) (hpa : PairAt w2 bp bs br) (hbpF : bp ∉ F) (hbel : Below w1.heap.size w1 w2) (hnew : ∀ g ∈ F, w1.heap.size ≤ g) : Ctx w w2 bp bs br F S V :=
  ⟨hnet, hpa, hbpF, hb.trans (hbel.mono hb.size), fun g hg => Nat.le_trans hb.size (hnew g hg), hpos⟩

theorem handle_len {V V2 : RV} {T : ByteArray} {d : List Nat} (hs : T.size ≤ 4611686018427387904) (h : V.handle (bytesOf T) = (V2, none) ∨ V.handle (bytesOf T) = (V2, some d)) :
    ∃ N : Nat, ∀ (v : World) (bs br : Nat) (F : List Nat) (S : SV), Net v bs br F S V → Calls Tryd.prog 20 #[.pointer (some ⟨br, 0, none⟩), .string T] v fun e w' => ∃ o c, e = .returned (.slice o N c) ∧ ∃ F', NAft v w' bs br F F' S V2 := by
  rcases h with h | h
  · refine ⟨0, fun v bs br F S hv => (nHandle _ hv hs).mono ?_⟩
    rintro e1 w9 ⟨F9, ha9, hans⟩
    rw [h] at ha9 hans
    exact ⟨none, 0, hans.none_ rfl, F9, ha9⟩
  · refine ⟨1, fun v bs br F S hv => (nHandle _ hv hs).mono ?_⟩
    rintro e1 w9 ⟨F9, ha9, hans⟩
    rw [h] at ha9 hans
    obtain ⟨G, g1, _⟩ := hans.some_ _ rfl
    exact ⟨some ⟨G, 0, none⟩, 1, g1, F9, ha9⟩

set_option maxRecDepth 100000 in
set_option maxHeartbeats 4000000 in
theorem apart_any (a b : ByteArray) (one two : Int) (w : World) (ht : Tab w) :
    Calls Tryd.prog 11 #[.string a, .string b, .int .u64 one, .int .u64 two] w fun e w' => e = .returned (.bool true) ∧ Below w.heap.size w w' := by
  have hpos : 0 < w.heap.size := World.block_lt_of_cell? w _ (ht 0 0 rfl)
  have hnot := notOp
  go_enter Tryd.func11, Tryd.ntmps11
  go_wp2_with fail
  refine (pair_any 3 200 _ ht (by omega) (by omega) (by omega) (by omega)).mono ?_
  rintro e1 w1 ⟨p1, p2, p3, PF, rfl, hbel1, hpa1, hnet1, hnew1, hbp1, hbpF1⟩
  have hc1 : Ctx w w1 p1 p2 p3 PF _ _ := ⟨hnet1, hpa1, hbpF1, hbel1, hnew1, hpos⟩
  have HC1 : Hid _ := hc1
  clear hc1 hnet1 hpa1 hbpF1 hbel1 hnew1
  go_wp2_with fail
  refine (pair_any 5 150 _ HC1.out.net.tab (by omega) (by omega) (by omega) (by omega)).mono ?_
  rintro e1 w2 ⟨q1, q2, q3, QF, rfl, hbel2, hpa2, hnet2, hnew2, hbp2, hbpF2⟩
  have hc2 : Ctx w w2 q1 q2 q3 QF _ _ := Ctx.made HC1.out.bel hpos hnet2 hpa2 hbpF2 hbel2 hnew2
  have HC12 : Hid _ := HC1.out.turn (Turn.below (S := []) hbel2 (Nat.le_refl _))
  have HPQ : Hid (∀ g ∈ p1 :: PF, g ∉ q1 :: QF) := fun g hg hm => by
    have h1 := HC1.out.lts g hg
    rcases List.mem_cons.1 hm with rfl | q
    · omega
    · have := hnew2 g q; omega
  have hs1 := HC1.out.bel.size
  have HC2 : Hid _ := hc2
  clear hc2 hnet2 hpa2 hbpF2 hbel2 hnew2 HC1
  go_wp2_with fail
  refine (pair_any 3 200 _ HC2.out.net.tab (by omega) (by omega) (by omega) (by omega)).mono ?_
  rintro e1 w3 ⟨r1, r2, r3, RF, rfl, hbel3, hpa3, hnet3, hnew3, hbp3, hbpF3⟩
  have hs2 := HC2.out.bel.size
  have HA3 : Hid (Ap3 w w3 p1 p2 p3 PF (SV.fresh 3 200) (RV.fresh 3) q1 q2 q3 QF (SV.fresh 5 150) (RV.fresh 5) r1 r2 r3 RF (SV.fresh 3 200) (RV.fresh 3)) := by
    refine ⟨HC12.out.turn (Turn.below (S := []) hbel3 (Nat.le_refl _)), HC2.out.turn (Turn.below (S := []) hbel3 (Nat.le_refl _)), Ctx.made HC2.out.bel hpos hnet3 hpa3 hbpF3 hbel3 hnew3, HPQ.out, fun g hg hm => ?_, fun g hg hm => ?_, hbp1, by omega, by omega⟩
    · have h1 := HC12.out.lts g hg
      rcases List.mem_cons.1 hm with rfl | q
      · omega
      · have := hnew3 g q; omega
    · have h1 := HC2.out.lts g hg
      rcases List.mem_cons.1 hm with rfl | q
      · omega
      · have := hnew3 g q; omega
  clear hnet3 hpa3 hbpF3 hbel3 hnew3 HC12 HC2 HPQ hs1 hs2 hbp1 hbp2 hbp3
  go_wp2_with fail
  refine (fit_any a 3 _ (by omega) (by omega)).mono ?_
  rintro e1 w4 ⟨rfl, rfl⟩
  have hd1 := fitD_size a 3
  generalize fitD a 3 = A at *
  go_wp2_with fail
  refine (fit_any b 5 _ (by omega) (by omega)).mono ?_
  rintro e1 w5 ⟨rfl, rfl⟩
  have hd2 := fitD_size b 5
  generalize fitD b 5 = B at *
  have s1 := HA3.out.p.pair.cells.1
  go_wp2_with fail
  refine (nSubmit A one HA3.out.p.net hd1 (by simp [SV.fresh]) (by simp [SV.fresh, cntSt])).mono ?_
  rintro e1 w6 ⟨rfl, PF6, ha6⟩
  have HA6 : Hid _ := HA3.out.actP ha6
  clear HA3 s1 ha6
  have s1 := HA6.out.q.pair.cells.1
  go_wp2_with fail
  refine (nSubmit B two HA6.out.q.net hd2 (by simp [SV.fresh]) (by simp [SV.fresh, cntSt])).mono ?_
  rintro e1 w7 ⟨rfl, QF7, ha7⟩
  have HA7 : Hid _ := HA6.out.actQ ha7
  clear HA6 s1 ha7
  have s1 := HA7.out.r.pair.cells.1
  go_wp2_with fail
  refine (nSubmit A one HA7.out.r.net hd1 (by simp [SV.fresh]) (by simp [SV.fresh, cntSt])).mono ?_
  rintro e1 w8 ⟨rfl, RF8, ha8⟩
  have HA8 : Hid (Ap3 w w8 p1 p2 p3 PF6 (⟨3, 200, 0, [⟨A, one, 1, 0⟩]⟩ : SV) (RV.fresh 3) q1 q2 q3 QF7 (⟨5, 150, 0, [⟨B, two, 1, 0⟩]⟩ : SV) (RV.fresh 5) r1 r2 r3 RF8 (⟨3, 200, 0, [⟨A, one, 1, 0⟩]⟩ : SV) (RV.fresh 3)) := HA7.out.actR ha8
  clear HA7 s1 ha8
  go_wp2_with fail
  go_loopw [21] (fun iv wr => ∃ (i : Nat) (st : Int) (PF QF RF : List Nat) (V U : RV), iv = .int .i64 i ∧ i ≤ 128 ∧ Ap3 w wr p1 p2 p3 PF (⟨3, 200, 0, [⟨A, one, st, i⟩]⟩ : SV) V q1 q2 q3 QF (⟨5, 150, 0, [⟨B, two, st, i⟩]⟩ : SV) U r1 r2 r3 RF (⟨3, 200, 0, [⟨A, one, st, i⟩]⟩ : SV) V ∧ ApV V A 3 i ∧ ApV U B 5 i) (fun iv _ => 128 - (intOf iv).toNat)
  case atStart => exact ⟨0, 1, PF6, QF7, RF8, _, _, rfl, by omega, HA8.out, ApV.start A 3, ApV.start B 5⟩
  case round =>
    obtain ⟨i, st, PF9, QF9, RF9, V, U, rfl, hi, hap, hv, hu⟩ := hrel
    clear HA8
    have HA9 : Hid _ := hap
    have HV : Hid _ := hv
    have HU : Hid _ := hu
    by_cases hil : i < 128
    · have g1 : decide ((i : Int) < 128) = true := by simp; omega
      obtain ⟨V2, hv2, hcv⟩ := hv.step (nonce := one) (st := st) hap.p.net.rok hd1
      obtain ⟨U2, hu2, hcu⟩ := hu.step (nonce := two) (st := st) hap.q.net.rok hd2
      obtain ⟨N, hhv⟩ := handle_len (frameOf_small _ _ _ (by omega)) hcv
      obtain ⟨M, hhu⟩ := handle_len (frameOf_small _ _ _ (by omega)) hcu
      have HV2 : Hid _ := hv2
      have HU2 : Hid _ := hu2
      have HHV : Hid _ := hhv
      have HHU : Hid _ := hhu
      have s1 := hap.p.pair.cells.1
      clear hap hv hu hv2 hu2 hcv hcu hhv hhu
      go_wp2_with fail
      refine (nTick_send HA9.out.p.net (o := ⟨A, one, st, i⟩) rfl (by show (i : Int) < ((200 : Nat) : Int); omega)).mono ?_
      rintro e1 wA ⟨G1, rfl, hG1, hcG1, PFA, haA, hGF1⟩
      have HAA : Hid (Ap3 w wA p1 p2 p3 PFA (⟨3, 200, 0, [⟨A, one, 2, ((i + 1 : Nat) : Int)⟩]⟩ : SV) V q1 q2 q3 QF9 (⟨5, 150, 0, [⟨B, two, st, i⟩]⟩ : SV) U r1 r2 r3 RF9 (⟨3, 200, 0, [⟨A, one, st, i⟩]⟩ : SV) V) := HA9.out.actP haA
      have HG1 : Hid (FB wA PFA QF9 RF9 G1 (.cells #[.string (frameOf 1 3 ⟨A, one, st, (i : Int)⟩)] 9 (0, 0))) := HA9.out.new hcG1 hG1 hGF1
      clear s1 hG1 hcG1 haA hGF1 HA9
      have s1 := HAA.out.q.pair.cells.1
      go_wp2_with fail
      refine (nTick_send HAA.out.q.net (o := ⟨B, two, st, i⟩) rfl (by show (i : Int) < ((150 : Nat) : Int); omega)).mono ?_
      rintro e1 wB ⟨G2, rfl, hG2, hcG2, QFB, haB, hGF2⟩
      have HAB : Hid (Ap3 w wB p1 p2 p3 PFA (⟨3, 200, 0, [⟨A, one, 2, ((i + 1 : Nat) : Int)⟩]⟩ : SV) V q1 q2 q3 QFB (⟨5, 150, 0, [⟨B, two, 2, ((i + 1 : Nat) : Int)⟩]⟩ : SV) U r1 r2 r3 RF9 (⟨3, 200, 0, [⟨A, one, st, i⟩]⟩ : SV) V) := HAA.out.actQ haB
      have HG1B : Hid _ := HG1.out.actQ haB
      have HG2 : Hid (FB wB PFA QFB RF9 G2 (.cells #[.string (frameOf 1 5 ⟨B, two, st, (i : Int)⟩)] 9 (0, 0))) := (HAA.out.rot.new hcG2 hG2 hGF2).rot.rot
      clear s1 hG2 hcG2 haB hGF2 HAA HG1
      have s1 := HAB.out.r.pair.cells.1
      go_wp2_with fail
      refine (nTick_send HAB.out.r.net (o := ⟨A, one, st, i⟩) rfl (by show (i : Int) < ((200 : Nat) : Int); omega)).mono ?_
      rintro e1 wC ⟨G3, rfl, hG3, hcG3, RFC, haC, hGF3⟩
      have HAC : Hid (Ap3 w wC p1 p2 p3 PFA (⟨3, 200, 0, [⟨A, one, 2, ((i + 1 : Nat) : Int)⟩]⟩ : SV) V q1 q2 q3 QFB (⟨5, 150, 0, [⟨B, two, 2, ((i + 1 : Nat) : Int)⟩]⟩ : SV) U r1 r2 r3 RFC (⟨3, 200, 0, [⟨A, one, 2, ((i + 1 : Nat) : Int)⟩]⟩ : SV) V) := HAB.out.actR haC
      have HG1C : Hid _ := HG1B.out.actR haC
      have HG2C : Hid _ := HG2.out.actR haC
      have HG3 : Hid (FB wC PFA QFB RFC G3 (.cells #[.string (frameOf 1 3 ⟨A, one, st, (i : Int)⟩)] 9 (0, 0))) := (HAB.out.rot.rot.new hcG3 hG3 hGF3).rot
      clear s1 hG3 hcG3 haC hGF3 HAB HG1B HG2
      generalize frameOf 1 3 ⟨A, one, st, (i : Int)⟩ = T at *
      generalize frameOf 1 5 ⟨B, two, st, (i : Int)⟩ = X at *
      have q : (T.toList == T.toList) = true := by simp
      have t1 := HG1C.out.one
      have t3 := HG3.out.one
      go_wp2_with fail
      go_region
      go_wp2_with fail
      have HAD : Hid _ := HAC.out.turn ((Turn.refl [] wC).drew)
      have HG1D : Hid _ := HG1C.out.turn ((Turn.refl [] wC).drew)
      have HG2D : Hid _ := HG2C.out.turn ((Turn.refl [] wC).drew)
      have HG3D : Hid _ := HG3.out.turn ((Turn.refl [] wC).drew)
      clear t1 t3 HAC HG1C HG2C HG3
      generalize wC.drew = wD at *
      have s1 := HAD.out.p.pair.cells.2
      have s2 := HG1D.out.one
      go_region_held3 (fun v => v.cell? ⟨p1, 1, none⟩ = some (.pointer (some ⟨p3, 0, none⟩)) ∧ v.cell? ⟨G1, 0, none⟩ = some (.string T))
        (first | exact ⟨s1, s2⟩ | exact ⟨t1, t2⟩)
        (first
          | (go_at_call 20; refine (HHV.out _ _ _ _ _ HAD.out.p.net.drew).mono ?_; rintro e1 wE ⟨o1, c1, rfl, PFE, haE⟩; have hAE := haE.pre ((Turn.refl [] _).drew); have hE := HAD.out.actP hAE; have hg1 := HG1D.out.actP hAE; have t1 := hE.p.pair.cells.2; have t2 := hg1.one))
      have HAE : Hid _ := hE
      have HG2E : Hid _ := HG2D.out.actP hAE
      have HG3E : Hid _ := HG3D.out.actP hAE
      clear s1 s2 t1 t2 hE hg1 haE hAE HAD HG1D HG2D HG3D
      have s1 := HAE.out.q.pair.cells.2
      have s2 := HG2E.out.one
      go_wp2_with fail
      go_region_held3 (fun v => v.cell? ⟨q1, 1, none⟩ = some (.pointer (some ⟨q3, 0, none⟩)) ∧ v.cell? ⟨G2, 0, none⟩ = some (.string X))
        (first | exact ⟨s1, s2⟩ | exact ⟨t1, t2⟩)
        (first
          | (go_at_call 20; refine (HHU.out _ _ _ _ _ HAE.out.q.net.drew).mono ?_; rintro e1 wG ⟨o2, c2, rfl, QFG, haG⟩; have hAG := haG.pre ((Turn.refl [] _).drew); have hG := HAE.out.actQ hAG; have hg2 := HG2E.out.actQ hAG; have t1 := hG.q.pair.cells.2; have t2 := hg2.one))
      have HAG : Hid _ := hG
      have HG3G : Hid _ := HG3E.out.actQ hAG
      clear s1 s2 t1 t2 hG hg2 haG hAG HAE HG2E HG3E
      have s1 := HAG.out.r.pair.cells.2
      have s2 := HG3G.out.one
      go_wp2_with fail
      go_region_held3 (fun v => v.cell? ⟨r1, 1, none⟩ = some (.pointer (some ⟨r3, 0, none⟩)) ∧ v.cell? ⟨G3, 0, none⟩ = some (.string T))
        (first | exact ⟨s1, s2⟩ | exact ⟨t1, t2⟩)
        (first
          | (go_at_call 20; refine (HHV.out _ _ _ _ _ HAG.out.r.net.drew).mono ?_; rintro e1 wH ⟨o3, c3, rfl, RFH, haH⟩; have hAH := haH.pre ((Turn.refl [] _).drew); have hH := HAG.out.actR hAH; have hg3 := HG3G.out.actR hAH; have t1 := hH.r.pair.cells.2; have t2 := hg3.one))
      have HAH : Hid _ := hH
      clear s1 s2 t1 t2 hH hg3 haH hAH HAG HG3G
      have s1 := HAH.out.p.pair.cells.2
      have s2 := HAH.out.r.pair.cells.2
      have qn : ((N : Int) == (N : Int)) = true := by simp
      have HRP : Hid (∀ v F, Net v p2 p3 F (⟨3, 200, 0, [⟨A, one, 2, ((i + 1 : Nat) : Int)⟩]⟩ : SV) V2 → Calls Tryd.prog 29 #[.pointer (some ⟨p3, 0, none⟩)] v fun e w' => e = .returned (.agg #[.int .i64 V2.num, .int .i64 V2.rnk, .int .i64 V2.bks]) ∧ ∃ F', NAft v w' p2 p3 F F' (⟨3, 200, 0, [⟨A, one, 2, ((i + 1 : Nat) : Int)⟩]⟩ : SV) V2) := fun v F hv => nRank hv
      have HRR : Hid (∀ v F, Net v r2 r3 F (⟨3, 200, 0, [⟨A, one, 2, ((i + 1 : Nat) : Int)⟩]⟩ : SV) V2 → Calls Tryd.prog 29 #[.pointer (some ⟨r3, 0, none⟩)] v fun e w' => e = .returned (.agg #[.int .i64 V2.num, .int .i64 V2.rnk, .int .i64 V2.bks]) ∧ ∃ F', NAft v w' r2 r3 F F' (⟨3, 200, 0, [⟨A, one, 2, ((i + 1 : Nat) : Int)⟩]⟩ : SV) V2) := fun v F hv => nRank hv
      go_wp2_with fail
      go_region_held3 (fun v => v.cell? ⟨p1, 1, none⟩ = some (.pointer (some ⟨p3, 0, none⟩)) ∧ v.cell? ⟨r1, 1, none⟩ = some (.pointer (some ⟨r3, 0, none⟩)))
        (first | exact ⟨s1, s2⟩ | exact ⟨t1, t2⟩ | exact ⟨t3, t4⟩)
        (first
          | (go_at_call 29; refine (HRR.out _ _ hI.r.net).mono ?_; rintro e1 wJ ⟨rfl, RFJ, haJ⟩; have hJ := hI.actR haJ; have t3 := hJ.p.pair.cells.2; have t4 := hJ.r.pair.cells.2)
          | (go_at_call 29; refine (HRP.out _ _ HAH.out.p.net.drew).mono ?_; rintro e1 wI ⟨rfl, PFI, haI⟩; have hAI := haI.pre ((Turn.refl [] _).drew); have hI := HAH.out.actP hAI; have t1 := hI.p.pair.cells.2; have t2 := hI.r.pair.cells.2))
      have HAJ : Hid _ := hJ
      clear s1 s2 t1 t2 t3 t4 hI hJ haI hAI haJ HAH HRP HRR
      go_wp2_with fail
      exact ⟨⟨i + 1, 2, PFI, QFG, RFJ, V2, U2, by go_num, by omega, HAJ.out, HV2.out, HU2.out⟩, by simp [intOf]; omega⟩
    · obtain rfl : i = 128 := by omega
      have g1 : decide (((128 : Nat) : Int) < 128) = false := by simp
      have HR1 : Hid _ := hv.last hap.p.net.rok hd1
      have HR2 : Hid _ := hu.last hap.q.net.rok hd2
      clear hap hv hu HV HU
      go_wp2_with fail
      refine (taken_any p1 p2 p3 1 PF9 _ V A _ HA9.out.p.net HA9.out.p.pair HR1.out).mono ?_
      rintro e1 wA ⟨rfl, PFA, haA⟩
      have HAA : Hid _ := HA9.out.actP haA
      clear haA HA9
      go_wp2_with fail
      refine (taken_any q1 q2 q3 1 QF9 _ U B _ HAA.out.q.net HAA.out.q.pair HR2.out).mono ?_
      rintro e1 wB ⟨rfl, QFB, haB⟩
      have HAB : Hid _ := HAA.out.actQ haB
      clear haB HAA
      go_wp2_with fail
      refine (taken_any r1 r2 r3 1 RF9 _ V A _ HAB.out.r.net HAB.out.r.pair HR1.out).mono ?_
      rintro e1 wC ⟨rfl, RFC, haC⟩
      have HBE : Hid _ := (HAB.out.actR haC).p.bel
      clear haC HAB
      go_wp2_with fail
      go_ret
      exact ⟨rfl, HBE.out⟩
end Go.Proofs.YtfbbidaoljfloaaDoor
