import Derived.Test.YtfbbidaoljfloaaDoorD2
import Derived.Test.YtfbbidaoljfloaaDoorK3
namespace Go.Proofs.YtfbbidaoljfloaaDoor
open Go.RowKit Go.MuLone

structure DeafIn (w wr : World) (bp bs br : Nat) (F : List Nat) (S : SV) (V : RV) (k : Nat) (D : ByteArray) (nonce : Int) : Prop where
  ctx : Ctx w wr bp bs br F S V
  bud : S.bud = 200
  blk : S.blk = 4
  inn : InObj S V 1 D nonce k []

theorem blocks_four (D : ByteArray) (w : World) (hX : D.size ≤ 32 * 4) :
    Calls Tryd.prog 19 #[.string D, .int .i64 4] w fun e w' => e = .returned (.int .i64 (blocksOf D.size 4)) ∧ w' = w := by
  exact blocks_any D 4 w (by decide) (by decide) hX

theorem nHandle_spoilt {w : World} {bs br : Nat} {F : List Nat} {S : SV} {V : RV} {fr m i num row : Nat} {D : ByteArray} (t' : List Nat) (h : Net w bs br F S V) (hsp : Spoil (fText num V.blk row D) t' fr m i) (hi : 0 < i) (hi2 : i ≤ 32) (hf : fr < 8 * (fText num V.blk row D).length) (hlt : ∀ b ∈ fText num V.blk row D, b < 256) (hl : t'.length ≤ 100) :
    Calls Tryd.prog 20 #[.pointer (some ⟨br, 0, none⟩), .string (strOf t')] w fun e w' => e = .returned (.slice none 0 0) ∧ ∃ F', NAft w w' bs br F F' S V := by
  have hd : V.handle (bytesOf (strOf t')) = (V, none) := by
    rw [bytesOf_strOf _ hsp.lt]
    unfold RV.handle
    rw [hsp.deaf hi hi2 hlt (by omega) (fText_valid num V.blk row D)]
  refine (nHandle (strOf t') h (by rw [strOf_size]; omega)).mono ?_
  rintro e w' ⟨F', ha, hans⟩
  rw [hd] at ha hans
  exact ⟨hans.none_ rfl, F', ha⟩

theorem SV.handle_not {S : SV} {bs : List Nat} (h : bs ≠ doneB (S.en + 1) S.blk) : S.handle bs = S := by
  unfold SV.handle
  cases S.l[S.en]? with
  | none => rfl
  | some o => simp only; rw [if_neg (fun q => h q.2)]

set_option maxRecDepth 100000 in
set_option maxHeartbeats 4000000 in
theorem deaf_any (d : ByteArray) (nonce at_ : Int) (mask : Nat) (w : World) (ht : Tab w) (h1 : -9223372036854775808 ≤ at_) (h2 : at_ ≤ 9223372036854775807) (hm : mask < 4294967296) :
    Calls Tryd.prog 6 #[.string d, .int .u64 nonce, .int .i64 at_, .int .u32 mask] w fun e w' => e = .returned (.bool true) ∧ Below w.heap.size w w' := by
  have hpos : 0 < w.heap.size := World.block_lt_of_cell? w _ (ht 0 0 rfl)
  have hnot := notOp
  go_enter Tryd.func6, Tryd.ntmps6
  go_wp2_with fail
  refine (pair_any 4 200 _ ht (by omega) (by omega) (by omega) (by omega)).mono ?_
  rintro e1 w2 ⟨bp, bs, br, F, rfl, hbel, hpa, hnet, hnew, hbp, hbpF⟩
  go_wp2_with fail
  refine (fit_any d 4 _ (by omega) (by omega)).mono ?_
  rintro e1 w3 ⟨rfl, rfl⟩
  have hd1 := fitD_size d 4
  have hctx : Ctx w w3 bp bs br F _ _ := ⟨hnet, hpa, hbpF, hbel, hnew, hpos⟩
  generalize fitD d 4 = D at *
  obtain ⟨p0, p1⟩ := hpa.cells
  have HC : Hid _ := hctx
  clear hctx hnet hpa hbpF hbel hnew
  go_wp2_with fail
  refine (nSubmit D nonce HC.out.net hd1 (by simp [SV.fresh]) (by simp [SV.fresh, cntSt])).mono ?_
  rintro e1 w5 ⟨rfl, F5, ha5⟩
  have hc5 := HC.out.aft ha5
  have HC5 : Hid _ := hc5
  clear hc5 ha5 HC p0 p1
  go_wp2_with fail
  have HI5 : Hid (InObj (⟨4, 200, 0, [⟨D, nonce, 1, 0⟩]⟩ : SV) (RV.fresh 4) 1 D nonce 0 []) := ⟨by omega, by omega, rfl, ⟨1, rfl⟩, rfl, rfl, hd1, Prog.start rfl (by show 0 < 1; omega), rfl, fun _ _ => rfl⟩
  go_loopw [13] (fun v wr => ∃ (k : Nat) (F : List Nat) (S : SV) (V : RV), v = .int .i64 k ∧ DeafIn w wr bp bs br F S V k D nonce) (fun v _ => 4 * blocksOf D.size 4 - (intOf v).toNat)
  case atStart => exact ⟨0, F5, _, _, rfl, HC5.out, rfl, rfl, HI5.out⟩
  case round =>
    obtain ⟨k, F1, S1, V1, rfl, hdi⟩ := hrel
    clear HC5 HI5
    obtain ⟨p0, p1⟩ := hdi.ctx.pair.cells
    have hin := hdi.inn
    obtain ⟨st, ho⟩ := hin.cur
    have hrok := hdi.ctx.net.rok
    have hvb : V1.blk = 4 := by rw [← hin.blk]; exact hdi.blk
    have hklt := hin.prog.lt hrok hin.fit
    rw [hvb] at hklt
    have hK1 := blocksOf_pos D.size 4
    have hK2 := blocksOf_le D.size 4 (by decide) hd1
    have HDI : Hid _ := hdi
    have HIN : Hid _ := hin
    have HO1 : Hid _ := ho
    have HVB : Hid _ := hvb
    clear hdi hin ho hvb hrok
    go_wp2_with fail
    refine (blocks_four D _ hd1).mono ?_
    rintro e1 w6 ⟨rfl, rfl⟩
    have g1 : decide ((k : Int) < 4 * (blocksOf D.size 4 : Int)) = true := by simp; omega
    go_wp2_with fail
    refine (nTick_send HDI.out.ctx.net HO1.out (by rw [HDI.out.bud]; show (k : Int) < ((200 : Nat) : Int); omega)).mono ?_
    rintro e1 w7 ⟨G, rfl, hG, hcG, F7, ha7, hGF⟩
    have hc7 := HDI.out.ctx.aft ha7
    obtain ⟨p0, p1⟩ := hc7.pair.cells
    have HCG : Hid _ := hcG
    have HC7 : Hid _ := hc7
    clear hc7 ha7 hcG
    go_wp2_with fail
    refine (nRank HC7.out.net).mono ?_
    rintro e1 w8 ⟨rfl, F8, ha8⟩
    have hc8 := HC7.out.aft ha8
    have hGb := (Blk.mk HCG.out hGF).aft ha8
    obtain ⟨hc9, hR9⟩ := hc8.alloc_new (.cells #[.int .i64 V1.num, .int .i64 V1.rnk, .int .i64 V1.bks] 63)
    have hGb9 := hGb.turn ((Turn.refl [] w8).alloc (.cells #[.int .i64 V1.num, .int .i64 V1.rnk, .int .i64 V1.bks] 63)) (by simp)
    obtain ⟨p0, p1⟩ := hc8.pair.cells
    have HC9 : Hid _ := hc9
    have HG9 : Hid _ := hGb9
    have HR9 : Hid _ := hR9
    clear hc8 ha8 hGb hc9 hR9 hGb9 HC7 HCG
    go_wp2_with fail
    generalize w8.heap.size = R1 at *
    generalize w8.alloc (.cells #[.int .i64 V1.num, .int .i64 V1.rnk, .int .i64 V1.bks] 63) = w9 at *
    clear p0 p1
    obtain ⟨p0, p1⟩ := HC9.out.pair.cells
    have hGc := HG9.out.one
    have hGl := HG9.out.lt
    have hPl := HC9.out.blk.lt
    have hen1 := HIN.out.en
    have hblk := HDI.out.blk
    have hfs : (frameOf (S1.en + 1) S1.blk ⟨D, nonce, st, k⟩).size = 17 := by rw [frameOf_size, hblk]
    have hft : bytesOf (frameOf (S1.en + 1) S1.blk ⟨D, nonce, st, k⟩) = fText 1 V1.blk (Dz.rowOf nonce (blocksOf D.size 4) k) D := by rw [fText_frame, hen1, hblk, HVB.out]
    have hft2 : (fText 1 V1.blk (Dz.rowOf nonce (blocksOf D.size 4) k) D).length = 17 := by rw [← hft, bytesOf_len, hfs]
    have hft3 : ∀ b ∈ fText 1 V1.blk (Dz.rowOf nonce (blocksOf D.size 4) k) D, b < 256 := by rw [← hft]; exact bytesOf_lt _
    have HSp : Hid (∀ v, Turn [] w9 v → ∀ t' fr m i, Spoil (bytesOf (frameOf (S1.en + 1) S1.blk ⟨D, nonce, st, k⟩)) t' fr m i → 0 < i → i ≤ 32 → fr < 8 * (frameOf (S1.en + 1) S1.blk ⟨D, nonce, st, k⟩).size → Calls Tryd.prog 20 #[.pointer (some ⟨br, 0, none⟩), .string (strOf t')] v fun e w' => e = .returned (.slice none 0 0) ∧ ∃ F', NAft v w' bs br F8 F' (S1.sentOne ⟨D, nonce, st, k⟩) V1) := fun v hv t' fr m i hsp hi hi2 hfr => by
      rw [hft] at hsp
      exact nHandle_spoilt t' (HC9.out.net.turn0 hv) hsp hi hi2 (by rw [hft2]; omega) hft3 (by rw [hsp.len, hft2]; omega)
    have hT := HIN.out.step HC9.out.net.rok HO1.out
    have HT : Hid _ := hT
    generalize hTT : frameOf (S1.en + 1) S1.blk ⟨D, nonce, st, k⟩ = T at *
    clear hTT hT hft hft2 hft3
    go_region_held3 (fun v => v.cell? ⟨G, 0, none⟩ = some (.string T) ∧ v.cell? ⟨bp, 1, none⟩ = some (.pointer (some ⟨br, 0, none⟩)))
      (first | exact ⟨hGc, p1⟩ | exact ⟨hGc10, hp10⟩ | exact ⟨hGc11, hp11⟩)
      (first
        | (go_at_call 30; refine (spoiled_any T at_ mask _ h1 h2 hm (by omega) (by omega)).mono ?_; rintro e1 w10 ⟨t', fr, m, i, rfl, hsp, hi0, hi32, hfr, hbe10⟩; have hT10 : Turn [] w9 w10 := turn_drew_below hbe10; have hGc10 := (HG9.out.turn hT10 (by simp)).one; have hp10 := (HC9.out.turn hT10).pair.cells.2)
        | (go_at_call 20; refine (HSp.out _ hT10 t' fr m i hsp hi0 hi32 hfr).mono ?_; rintro e1 w11 ⟨rfl, F11, ha11⟩; have hc11 := (HC9.out.turn hT10).aft ha11; have hGb11 := (HG9.out.turn hT10 (by simp)).aft ha11; have hRb11 := (HR9.out.turn hT10 (by simp)).aft ha11; have hGc11 := hGb11.one; have hp11 := hc11.pair.cells.2))
    have HC11 : Hid _ := hc11
    have HG11 : Hid _ := hGb11
    have HR11 : Hid _ := hRb11
    clear p0 p1 hGc hGl hPl hsp hfr hbe10 hT10 hGc10 hp10 ha11 hc11 hGb11 hRb11 hGc11 hp11 HG9 HR9 HC9 HSp
    obtain ⟨p0, p1⟩ := HC11.out.pair.cells
    go_wp2_with fail
    refine (nRank HC11.out.net).mono ?_
    rintro e1 w12 ⟨rfl, F12, ha12⟩
    have hc12 := HC11.out.aft ha12
    have hGb12 := HG11.out.aft ha12
    have hRb12 := HR11.out.aft ha12
    obtain ⟨hc13, hQ13⟩ := hc12.alloc_new (.cells #[.int .i64 V1.num, .int .i64 V1.rnk, .int .i64 V1.bks] 63)
    have hGb13 := hGb12.turn ((Turn.refl [] w12).alloc (.cells #[.int .i64 V1.num, .int .i64 V1.rnk, .int .i64 V1.bks] 63)) (by simp)
    have hRb13 := hRb12.turn ((Turn.refl [] w12).alloc (.cells #[.int .i64 V1.num, .int .i64 V1.rnk, .int .i64 V1.bks] 63)) (by simp)
    have HC13 : Hid _ := hc13
    have HG13 : Hid _ := hGb13
    have HR13 : Hid _ := hRb13
    have HQ13 : Hid _ := hQ13
    clear ha12 hc12 hGb12 hRb12 hc13 hQ13 hGb13 hRb13 HC11 HG11 HR11
    go_wp2_with fail
    generalize w12.heap.size = R2 at *
    generalize w12.alloc (.cells #[.int .i64 V1.num, .int .i64 V1.rnk, .int .i64 V1.bks] 63) = w13 at *
    clear p0 p1
    obtain ⟨p0, p1⟩ := HC13.out.pair.cells
    have hGc := HG13.out.one
    rcases HT.out with ⟨V2, hV2, hin2⟩ | ⟨V2, hV2, haft2⟩
    · have HH : Hid (Calls Tryd.prog 20 #[.pointer (some ⟨br, 0, none⟩), .string T] w13.drew fun e w' => e = .returned (.slice none 0 0) ∧ ∃ F', NAft w13.drew w' bs br F12 F' (S1.sentOne ⟨D, nonce, st, k⟩) V2) := by
        refine (nHandle _ HC13.out.net.drew (by omega)).mono ?_
        rintro e1 w9 ⟨F9, ha9, hans⟩
        rw [hV2] at ha9 hans
        exact ⟨hans.none_ rfl, F9, ha9⟩
      have HI2 : Hid _ := hin2
      clear hin2 hV2
      go_region_held3 (fun v => v.cell? ⟨G, 0, none⟩ = some (.string T) ∧ v.cell? ⟨bp, 1, none⟩ = some (.pointer (some ⟨br, 0, none⟩)))
        (first | exact ⟨hGc, p1⟩ | exact ⟨hGc14, hp14⟩)
        (first
          | (go_at_call 20; refine (HH.out).mono ?_; rintro e1 w14 ⟨rfl, F14, ha14⟩; have hA14 := ha14.pre ((Turn.refl [] w13).drew); have hc14 := HC13.out.aft hA14; have hGb14 := HG13.out.aft hA14; have hRb14 := HR13.out.aft hA14; have hQb14 := HQ13.out.aft hA14; have hGc14 := hGb14.one; have hp14 := hc14.pair.cells.2))
      obtain ⟨r0, r1, r2⟩ := hRb14.three
      obtain ⟨s0, s1, s2⟩ := hQb14.three
      have HC14 : Hid _ := hc14
      clear p0 p1 hGc ha14 hA14 hc14 hGb14 hRb14 hQb14 hGc14 hp14 HC13 HG13 HR13 HQ13
      go_wp2_with fail
      exact ⟨⟨k + 1, F14, _, V2, by go_num, ⟨HC14.out, HDI.out.bud, HDI.out.blk, HI2.out⟩⟩, by simp [intOf]; omega⟩
    · have HH : Hid (Calls Tryd.prog 20 #[.pointer (some ⟨br, 0, none⟩), .string T] w13.drew fun e w' => ∃ G2, e = .returned (.slice (some ⟨G2, 0, none⟩) 1 1) ∧ ∃ F', NAft w13.drew w' bs br F12 F' (S1.sentOne ⟨D, nonce, st, k⟩) V2 ∧ Blk w' F' G2 (.cells #[.string (strOf (doneB 1 V1.blk))] 9 (0, 0))) := by
        refine (nHandle _ HC13.out.net.drew (by omega)).mono ?_
        rintro e1 w9 ⟨F9, ha9, hans⟩
        rw [hV2] at ha9 hans
        obtain ⟨G2, g1, g2, g3, g4⟩ := hans.some_ _ rfl
        exact ⟨G2, g1, F9, ha9, g2, g4⟩
      have HI2 : Hid _ := haft2
      clear haft2 hV2
      go_region_held3 (fun v => v.cell? ⟨G, 0, none⟩ = some (.string T) ∧ v.cell? ⟨bp, 1, none⟩ = some (.pointer (some ⟨br, 0, none⟩)))
        (first | exact ⟨hGc, p1⟩ | exact ⟨hGc14, hp14⟩)
        (first
          | (go_at_call 20; refine (HH.out).mono ?_; rintro e1 w14 ⟨G2, rfl, F14, ha14, hB14⟩; have hA14 := ha14.pre ((Turn.refl [] w13).drew); have hc14 := HC13.out.aft hA14; have hGb14 := HG13.out.aft hA14; have hRb14 := HR13.out.aft hA14; have hQb14 := HQ13.out.aft hA14; have hGc14 := hGb14.one; have hp14 := hc14.pair.cells.2))
      obtain ⟨r0, r1, r2⟩ := hRb14.three
      obtain ⟨s0, s1, s2⟩ := hQb14.three
      have HC14 : Hid _ := hc14
      have HB14 : Hid _ := hB14
      clear p0 p1 hGc ha14 hA14 hc14 hGb14 hRb14 hQb14 hGc14 hp14 HC13 HG13 HR13 HQ13 hB14
      go_wp2_with fail
      clear r0 r1 r2 s0 s1 s2
      obtain ⟨p0, p1⟩ := HC14.out.pair.cells
      have hGc := HB14.out.one
      have hds : (strOf (doneB 1 V1.blk)).size = 8 := by rw [strOf_size, doneB_len]
      have hdb : bytesOf (strOf (doneB 1 V1.blk)) = doneB 1 V1.blk := bytesOf_strOf _ (doneB_lt _ _)
      have hS2 : (S1.sentOne ⟨D, nonce, st, k⟩).en + 1 = 1 ∧ (S1.sentOne ⟨D, nonce, st, k⟩).blk = V1.blk := ⟨hen1, hblk.trans HVB.out.symm⟩
      have HSp : Hid (∀ v, Turn [] w14 v → ∀ t' fr m i, Spoil (bytesOf (strOf (doneB 1 V1.blk))) t' fr m i → 0 < i → Calls Tryd.prog 21 #[.pointer (some ⟨bs, 0, none⟩), .string (strOf t')] v fun e w' => e = .returned (.tuple #[]) ∧ ∃ F', NAft v w' bs br F14 F' (S1.sentOne ⟨D, nonce, st, k⟩) V2) := fun v hv t' fr m i hsp hi => by
        have := nSHandle (strOf t') (HC14.out.net.turn0 hv)
        rw [bytesOf_strOf _ hsp.lt, SV.handle_not (by rw [hS2.1, hS2.2, ← hdb]; exact hsp.ne hi)] at this
        exact this
      have HO2 : Hid ((S1.sentOne ⟨D, nonce, st, k⟩).l[0]? = some ⟨D, nonce, 2, (k : Int) + 1⟩) := by
        have h0 : S1.en = 0 := by omega
        have := List.getElem?_set_self (a := (⟨D, nonce, 2, (k : Int) + 1⟩ : Thing)) (List.getElem?_eq_some_iff.1 HO1.out).1
        rw [h0] at this
        show (S1.l.set S1.en _)[0]? = _
        rw [h0]
        exact this
      have HS : Hid (∀ v F, Net v bs br F (S1.sentOne ⟨D, nonce, st, k⟩) V2 → Calls Tryd.prog 21 #[.pointer (some ⟨bs, 0, none⟩), .string (strOf (doneB 1 V1.blk))] v fun e w' => e = .returned (.tuple #[]) ∧ ∃ F', NAft v w' bs br F F' ((S1.sentOne ⟨D, nonce, st, k⟩).handle (doneB 1 V1.blk)) V2) := fun v F hv => by
        have := nSHandle (strOf (doneB 1 V1.blk)) hv
        rw [hdb] at this
        exact this
      generalize hTT : strOf (doneB 1 V1.blk) = E at *
      clear hTT hdb hS2
      go_region_held3 (fun v => v.cell? ⟨G2, 0, none⟩ = some (.string E) ∧ v.cell? ⟨bp, 0, none⟩ = some (.pointer (some ⟨bs, 0, none⟩)))
        (first | exact ⟨hGc, p0⟩ | exact ⟨hGc10, hp10⟩ | exact ⟨hGc11, hp11⟩)
        (first
          | (go_at_call 30; refine (spoiled_any E at_ mask _ h1 h2 hm (by omega) (by omega)).mono ?_; rintro e1 w10 ⟨t', fr, m, i, rfl, hsp, hi0, hi32, hfr, hbe10⟩; have hT10 : Turn [] w14 w10 := turn_drew_below hbe10; have hGc10 := (HB14.out.turn hT10 (by simp)).one; have hp10 := (HC14.out.turn hT10).pair.cells.1)
          | (go_at_call 21; refine (HSp.out _ hT10 t' fr m i hsp hi0).mono ?_; rintro e1 w11 ⟨rfl, F11, ha11⟩; have hc11 := (HC14.out.turn hT10).aft ha11; have hGb11 := (HB14.out.turn hT10 (by simp)).aft ha11; have hGc11 := hGb11.one; have hp11 := hc11.pair.cells.1))
      have HC11 : Hid _ := hc11
      have HG11 : Hid _ := hGb11
      clear p0 p1 hGc hsp hfr hbe10 hT10 hGc10 hp10 ha11 hc11 hGb11 hGc11 hp11 HB14 HC14 HSp
      obtain ⟨p0, p1⟩ := HC11.out.pair.cells
      go_wp2_with fail
      refine (nStatus_eq _ 0 HC11.out.net HO2.out (by omega)).mono ?_
      rintro e1 w15 ⟨rfl, F15, ha15⟩
      have hc15 := HC11.out.aft ha15
      have hGb15 := HG11.out.aft ha15
      obtain ⟨hc16, hQ16⟩ := hc15.alloc_new (.cells #[.int .i64 2, .int .i64 ((k : Int) + 1)] 45)
      have hGb16 := hGb15.turn ((Turn.refl [] w15).alloc (.cells #[.int .i64 2, .int .i64 ((k : Int) + 1)] 45)) (by simp)
      have HC16 : Hid _ := hc16
      have HG16 : Hid _ := hGb16
      have HQ16 : Hid _ := hQ16
      clear ha15 hc15 hGb15 hc16 hQ16 hGb16 HC11 HG11
      go_wp2_with fail
      generalize w15.heap.size = R3 at *
      generalize w15.alloc (.cells #[.int .i64 2, .int .i64 ((k : Int) + 1)] 45) = w16 at *
      clear p0 p1
      obtain ⟨p0, p1⟩ := HC16.out.pair.cells
      have hGc := HG16.out.one
      go_region_held3 (fun v => v.cell? ⟨G2, 0, none⟩ = some (.string E) ∧ v.cell? ⟨bp, 0, none⟩ = some (.pointer (some ⟨bs, 0, none⟩)))
        (first | exact ⟨hGc, p0⟩ | exact ⟨hGc11, hp11⟩)
        (first
          | (go_at_call 21; refine (HS.out _ _ HC16.out.net.drew).mono ?_; rintro e1 w17 ⟨rfl, F17, ha17⟩; have hA17 := ha17.pre ((Turn.refl [] w16).drew); have hc17 := HC16.out.aft hA17; have hGb17 := HG16.out.aft hA17; have hGc11 := hGb17.one; have hp11 := hc17.pair.cells.1; have hQ17 := HQ16.out.aft hA17))
      have HC17 : Hid _ := hc17
      have HQ17 : Hid _ := hQ17
      clear p0 p1 hGc ha17 hA17 hc17 hGb17 hGc11 hp11 hQ17 HC16 HG16 HQ16
      obtain ⟨p0, p1⟩ := HC17.out.pair.cells
      have HO3 : Hid (((S1.sentOne ⟨D, nonce, st, k⟩).handle (doneB 1 V1.blk)).l[0]? = some ⟨.empty, 0, 3, ((k + 1 : Nat) : Int)⟩) := HI2.out.cur
      go_wp2_with fail
      refine (nStatus_eq _ 0 HC17.out.net HO3.out (by omega)).mono ?_
      rintro e1 w18 ⟨rfl, F18, ha18⟩
      have hc18 := HC17.out.aft ha18
      have hQ18 := HQ17.out.aft ha18
      obtain ⟨hc19, hU19⟩ := hc18.alloc_new (.cells #[.int .i64 3, .int .i64 ((k : Int) + 1)] 45)
      have hQ19 := hQ18.turn ((Turn.refl [] w18).alloc (.cells #[.int .i64 3, .int .i64 ((k : Int) + 1)] 45)) (by simp)
      have HC19 : Hid _ := hc19
      have HU19 : Hid _ := hU19
      have HQ19 : Hid _ := hQ19
      clear ha18 hc18 hQ18 hc19 hU19 hQ19 HC17 HQ17
      go_wp2_with fail
      generalize w18.heap.size = R4 at *
      generalize w18.alloc (.cells #[.int .i64 3, .int .i64 ((k : Int) + 1)] 45) = w19 at *
      refine (taken_any bp bs br 1 F18 _ V2 D _ HC19.out.net HC19.out.pair HI2.out.ready).mono ?_
      rintro e1 w20 ⟨rfl, F20, ha20⟩
      have hc20 := HC19.out.aft ha20
      obtain ⟨u0, u1⟩ := (HU19.out.aft ha20).two
      obtain ⟨v0, v1⟩ := (HQ19.out.aft ha20).two
      have HC20 : Hid _ := hc20
      clear p0 p1 hc20 ha20 HU19 HQ19 HC19
      go_wp2_with fail
      go_ret
      exact ⟨rfl, HC20.out.bel⟩

end Go.Proofs.YtfbbidaoljfloaaDoor
