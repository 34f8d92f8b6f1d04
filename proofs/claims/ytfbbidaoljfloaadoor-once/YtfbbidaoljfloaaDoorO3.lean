import Derived.Test.YtfbbidaoljfloaaDoorO2
namespace Go.Proofs.YtfbbidaoljfloaaDoor
open Go.RowKit Go.MuLone

theorem add_block (a : Addr) (i : Nat) : (a.add i).block = a.block := by unfold Addr.add; split <;> rfl
theorem add_field {w : World} {a : Addr} {i j : Nat} {v : Value} (hj : j ≠ 0) (h : w.cell? (a.add (i + j)) = some v) : w.cell? ⟨(a.add i).block, (a.add i).off + j, none⟩ = some v := by
  have e : a.add (i + j) = ⟨(a.add i).block, (a.add i).off + j, none⟩ := by
    unfold Addr.add
    rw [if_neg (by omega)]
    by_cases h0 : i = 0
    · subst h0; simp
    · simp [h0, Nat.add_assoc]
  rw [← e]
  exact h
structure OnI (w wr : World) (bp bs br : Nat) (F : List Nat) (S : SV) (V : RV) (sv dv uv : Value) (ds dn up : List ByteArray) (gg N : Nat) (got : Nat → Bool) (blk bud last i : Nat) : Prop where
  w : OnW w wr bp bs br F S V sv dv uv ds dn up gg N got
  b : OnB blk bud ds S V dn up
  r : OnR V got last
  ls : ds.length ≤ i
  ld : dn.length ≤ i
  lu : up.length ≤ i

theorem nTake_on {w : World} {bs br : Nat} {F : List Nat} {S : SV} {V : RV} {ds : List ByteArray} {got : Nat → Bool} {last : Nat} (h : Net w bs br F S V) (hT : OnT V ds got last) :
    Calls Tryd.prog 24 #[.pointer (some ⟨br, 0, none⟩)] w fun e w' => ∃ (x0 : ByteArray) (x1 x2 : Nat), e = .returned (.tuple #[.string x0, .int .i64 x1, .int .i64 x2]) ∧ ∃ F' V', NAft w w' bs br F F' S V' ∧ ((x2 = 5 ∧ V' = V ∧ OnR V got last) ∨ (∃ n, x2 = 0 ∧ x1 = n + 1 ∧ V' = { V with ready := [] } ∧ OnN V ds got last n x0)) := by
  rcases hT with hr | ⟨n, d, hn⟩
  · refine (nTake_none h hr.ready).mono ?_
    rintro e1 w10 ⟨rfl, F10, ha10⟩
    exact ⟨.empty, 0, 5, rfl, F10, V, ha10, .inl ⟨rfl, rfl, hr⟩⟩
  · refine (nTake_some h hn.ready).mono ?_
    rintro e1 w10 ⟨rfl, F10, ha10⟩
    exact ⟨d, n + 1, 0, rfl, F10, _, ha10, .inr ⟨n, rfl, rfl, rfl, hn⟩⟩
structure OnM (w wr : World) (bp bs br : Nat) (F : List Nat) (S : SV) (V : RV) (sv dv uv : Value) (ds dn up : List ByteArray) (gg N : Nat) (got : Nat → Bool) (blk bud last i : Nat) : Prop where
  w : OnW w wr bp bs br F S V sv dv uv ds dn up gg N got
  b : OnB blk bud ds S V dn up
  t : OnT V ds got last
  ls : ds.length ≤ i
  ld : dn.length ≤ i
  lu : up.length ≤ i

set_option maxRecDepth 100000 in
set_option maxHeartbeats 4000000 in
theorem once_any (block budget : Int) (sl : Option Addr) (xs : List Itm) (xcap : Nat) (w : World) (ht : Tab w) (h1 : -9223372036854775808 ≤ block) (h2 : block ≤ 9223372036854775807) (h3 : -9223372036854775808 ≤ budget) (h4 : budget ≤ 9223372036854775807) (hz : ItemsIn w sl xs) :
    Calls Tryd.prog 9 #[.int .i64 block, .int .i64 budget, .slice sl xs.length xcap] w fun e w' => e = .returned (.bool true) ∧ Below w.heap.size w w' := by
  have hpos : 0 < w.heap.size := World.block_lt_of_cell? w _ (ht 0 0 rfl)
  have hnot := notOp
  have hzl := hz.len
  have hmk : ∀ w : World, (Instr.makeSlice 76 (.int .i64 ((xs.length : Int) + 1)) (.int .i64 ((xs.length : Int) + 1))).run Tryd.prog w = .ok (.slice (some ⟨w.heap.size, 0, none⟩) (xs.length + 1) (xs.length + 1)) (w.alloc (.cells (madeCells #[.bool false] (xs.length + 1)) 4)) := fun w => run_make_row' (P := Tryd.prog) 76 4 (.bool false) 1 Tryd.underlying76 Tryd.infoBool rfl .i64 .i64 (xs.length + 1) (by omega) (by omega) w
  have HZ : Hid _ := hz
  clear hz
  go_enter Tryd.func9, Tryd.ntmps9
  go_wp2_with fail
  refine (bent_any block 1 32 _ h1 h2 (by omega) (by omega)).mono ?_
  rintro e1 w1 ⟨⟨blk, rfl, hb1, hb2⟩, rfl⟩
  go_wp2_with fail
  refine (bent_any budget 1 60 _ h3 h4 (by omega) (by omega)).mono ?_
  rintro e1 w1 ⟨⟨bud, rfl, hu1, hu2⟩, rfl⟩
  go_wp2_with fail
  refine (pair_any blk bud _ ht hb1 hb2 hu1 (by omega)).mono ?_
  rintro e1 w2 ⟨bp, bs, br, F, rfl, hbel, hpa, hnet, hnew, hbp, hbpF⟩
  have hctx : Ctx w1 w2 bp bs br F _ _ := ⟨hnet, hpa, hbpF, hbel, hnew, hpos⟩
  have HC : Hid _ := hctx
  clear hctx hnet hpa hbpF hbel hnew
  go_wp2_with fail
  have hcM := (HC.out.alloc_new (.cells (madeCells #[.bool false] (xs.length + 1)) 4))
  have hgM := World.rowIs_made w2 (.bool false) (xs.length + 1) 4
  have hgg : w1.heap.size ≤ w2.heap.size := HC.out.bel.size
  have hgbp : bp < w2.heap.size := lt_of_heap HC.out.pair.obj
  generalize hGG : w2.heap.size = gg at *
  have HW0 : Hid (OnW w1 (w2.alloc (.cells (madeCells #[.bool false] (xs.length + 1)) 4)) bp bs br F (SV.fresh blk bud) (RV.fresh blk) (.slice none 0 0) (.slice none 0 0) (.slice none 0 0) [] [] [] gg (xs.length + 1) (fun _ => false)) :=
    ⟨hcM.1, Strs.nil _ _ _, Strs.nil _ _ _, Strs.nil _ _ _, hgM, hcM.2.out, hgg, by omega, by simp [Value.ownBlock], by simp [Value.ownBlock], by simp [Value.ownBlock], by simp [Value.ownBlock], by simp [Value.ownBlock], by simp [Value.ownBlock], by simp [Value.ownBlock], by simp [Value.ownBlock], by simp [Value.ownBlock]⟩
  have htM := HW0.out.ctx.net.tab
  clear hcM hgM HC
  refine (whole_any 4 _ _ 1 2 _ htM (by omega) (by omega)).mono ?_
  rintro e1 w4 ⟨rfl, hb4⟩
  have HI4 : Hid (OnI w1 w4 bp bs br F (SV.fresh blk bud) (RV.fresh blk) (.slice none 0 0) (.slice none 0 0) (.slice none 0 0) [] [] [] gg (xs.length + 1) (fun _ => false) blk bud 0 0) :=
    ⟨HW0.out.turn (Turn.below (S := []) hb4 (Nat.le_refl _)), OnB.start blk bud, OnR.start blk, Nat.le_refl _, Nat.le_refl _, Nat.le_refl _⟩
  clear hb4 HW0 htM hGG hgg hgbp hmk
  go_wp2_with fail
  go_loopw [9, 10, 11, 12, 15] (fun sv dv uv lv iv wr => ∃ (i last : Nat) (F : List Nat) (S : SV) (V : RV) (ds dn up : List ByteArray) (got : Nat → Bool), iv = .int .i64 i ∧ lv = .int .i64 last ∧ i ≤ xs.length ∧ OnI w1 wr bp bs br F S V sv dv uv ds dn up gg (xs.length + 1) got blk bud last i) (fun _ _ _ _ iv _ => xs.length - (intOf iv).toNat)
  case atStart => exact ⟨0, 0, F, _, _, [], [], [], _, rfl, rfl, Nat.zero_le _, HI4.out⟩
  case round =>
    obtain ⟨i, last, F5, S, V, ds, dn, up, got, rfl, rfl, hi, hin⟩ := hrel
    clear HI4
    obtain ⟨ssl, scap, rfl, hscap⟩ := hin.w.s.shape
    obtain ⟨dsl, dcap, rfl, hdcap⟩ := hin.w.d.shape
    obtain ⟨usl, ucap, rfl, hucap⟩ := hin.w.u.shape
    have hls := hin.ls
    have hld := hin.ld
    have hlu := hin.lu
    have HI : Hid _ := hin
    clear hin
    by_cases hil : i < xs.length
    · obtain ⟨x, hx⟩ : ∃ x, xs[i]? = some x := ⟨_, List.getElem?_eq_getElem hil⟩
      obtain ⟨aa, ha, hab, hc0, hc1, hc2, hc3⟩ := HZ.out.at_ i x hx
      obtain ⟨hk1, hk2, ha1, ha2⟩ := HZ.out.lo x (List.mem_of_getElem? hx)
      subst ha
      have g1 : decide ((i : Int) < (xs.length : Int)) = true := by simp; omega
      have j0 : (0 : Int) ≤ (i : Int) := by omega
      have j1 : (i : Int) < (xs.length : Int) := by omega
      have HB5 : Hid _ := HI.out.w.ctx.bel
      obtain ⟨K, A, NC, D⟩ := x
      have s0 : wr.cell? (aa.add (i * 4)) = some (.int .i64 K) := (HB5.out.cell (by rw [add_block]; exact hab)).trans hc0
      have s1 : wr.cell? ⟨(aa.add (i * 4)).block, (aa.add (i * 4)).off + 1, none⟩ = some (.int .i64 A) := add_field (by omega) ((HB5.out.cell (by rw [add_block]; exact hab)).trans hc1)
      have s2 : wr.cell? ⟨(aa.add (i * 4)).block, (aa.add (i * 4)).off + 2, none⟩ = some (.int .u64 NC) := add_field (by omega) ((HB5.out.cell (by rw [add_block]; exact hab)).trans hc2)
      have s3 : wr.cell? ⟨(aa.add (i * 4)).block, (aa.add (i * 4)).off + 3, none⟩ = some (.string D) := add_field (by omega) ((HB5.out.cell (by rw [add_block]; exact hab)).trans hc3)
      clear hc0 hc1 hc2 hc3 HB5
      go_wp2_with fail
      refine (pick_o K 8 8 _ rfl hk1 hk2 (by omega) (by omega)).mono ?_
      rintro e1 w6 ⟨rfl, hw6⟩
      have hk8 := pickO_lt K (show 0 < 8 by omega)
      generalize pickO K 8 = k at *
      have hw7 := HI.out.w.turn ((Turn.refl [] wr).alloc (.cells #[.int .i64 K, .int .i64 A, .int .u64 NC, .string D] 78))
      have hq6 := (HI.out.w.ctx.alloc_new (.cells #[.int .i64 K, .int .i64 A, .int .u64 NC, .string D] 78)).2
      rw [← hw6] at hw7 hq6
      have HW6 : Hid _ := hw7
      have HQ6 : Hid _ := hq6
      have HB : Hid _ := HI.out.b
      have HR : Hid _ := HI.out.r
      clear hw7 hq6 hw6 s0 s1 s2 s3 HI
      generalize wr.heap.size = Q at *
      go_upto_block 2 with fail
      go_cut [9, 10, 11, 18, 19, 20, 21] from 45 to 248 (fun sv dv uv _ _ _ _ wx => ∃ (F : List Nat) (S : SV) (V : RV) (ds dn up : List ByteArray), OnM w1 wx bp bs br F S V sv dv uv ds dn up gg (xs.length + 1) got blk bud last (i + 1))
      case first =>
        have hlen := HB.out.len
        have hsok := HW6.out.ctx.net.sok
        have hle := hsok.le
        have hn5 := hsok.n5
        have HSK : Hid _ := hsok
        have hqc := HQ6.out.cell
        have m0 : w6.cell? ⟨Q, 1, none⟩ = some (.int .i64 A) := (hqc 1).trans rfl
        have m2 : w6.cell? ⟨Q, 2, none⟩ = some (.int .u64 NC) := (hqc 2).trans rfl
        have m3 : w6.cell? ⟨Q, 3, none⟩ = some (.string D) := (hqc 3).trans rfl
        obtain ⟨p0, p1⟩ := HW6.out.ctx.pair.cells
        have hlt6 := HW6.out.ctx.net.lt
        have hsz6 := HW6.out.ctx.bel.size
        clear hqc hsok
        by_cases k0 : k = 0
        ·
          subst k0
          go_wp2_with fail
          refine (fit_any D blk _ hb1 hb2).mono ?_
          rintro e1 w7 ⟨rfl, rfl⟩
          have hdD := fitD_size D blk
          generalize fitD D blk = D1 at *
          have hdS : D1.size ≤ 32 * S.blk := by rw [HB.out.sblk]; exact hdD
          by_cases h5 : S.l.length = 500
          · as_aux_lemma =>
            have HSB : Hid (∀ v F, Net v bs br F S V → Calls Tryd.prog 17 #[.pointer (some ⟨bs, 0, none⟩), .string D1, .int .u64 NC] v fun e w' => e = .returned (.tuple #[.int .i64 0, .int .i64 4]) ∧ ∃ F', NAft v w' bs br F F' S V) := fun v F hv => nSubmit_end D1 NC hv hdS h5
            go_wp2_with fail
            go_region_held3 (fun v => v.cell? ⟨bp, 0, none⟩ = some (.pointer (some ⟨bs, 0, none⟩)) ∧ v.cell? ⟨Q, 2, none⟩ = some (.int .u64 NC))
              (first | exact ⟨p0, m2⟩ | exact ⟨t1, t2⟩)
              (first
                | (go_at_call 17; refine (HSB.out _ _ HW6.out.ctx.net.drew).mono ?_; rintro e1 w8 ⟨rfl, F8, ha8⟩; have hA8 := ha8.pre ((Turn.refl [] _).drew); have hw8 := HW6.out.aft hA8; have t1 := hw8.ctx.pair.cells.1; have t2 := ((HQ6.out.aft hA8).cell 2).trans rfl))
            have HW8 : Hid _ := hw8
            clear hw8 ha8 hA8 t1 t2 p0 p1 m0 m2 m3 HW6 HQ6
            go_wp2_with fail
            go_meet
            exact ⟨F8, S, V, ds, dn, up, ⟨HW8.out, HB.out, .inl HR.out, by omega, by omega, by omega⟩⟩
          · by_cases hc8 : cntSt (S.l.drop S.en) 1 = 8
            · as_aux_lemma =>
              have HSB : Hid (∀ v F, Net v bs br F S V → Calls Tryd.prog 17 #[.pointer (some ⟨bs, 0, none⟩), .string D1, .int .u64 NC] v fun e w' => e = .returned (.tuple #[.int .i64 0, .int .i64 3]) ∧ ∃ F', NAft v w' bs br F F' S V) := fun v F hv => nSubmit_full D1 NC hv hdS (by omega) hc8
              go_wp2_with fail
              go_region_held3 (fun v => v.cell? ⟨bp, 0, none⟩ = some (.pointer (some ⟨bs, 0, none⟩)) ∧ v.cell? ⟨Q, 2, none⟩ = some (.int .u64 NC))
                (first | exact ⟨p0, m2⟩ | exact ⟨t1, t2⟩)
                (first
                  | (go_at_call 17; refine (HSB.out _ _ HW6.out.ctx.net.drew).mono ?_; rintro e1 w8 ⟨rfl, F8, ha8⟩; have hA8 := ha8.pre ((Turn.refl [] _).drew); have hw8 := HW6.out.aft hA8; have t1 := hw8.ctx.pair.cells.1; have t2 := ((HQ6.out.aft hA8).cell 2).trans rfl))
              have HW8 : Hid _ := hw8
              clear hw8 ha8 hA8 t1 t2 p0 p1 m0 m2 m3 HW6 HQ6
              go_wp2_with fail
              go_meet
              exact ⟨F8, S, V, ds, dn, up, ⟨HW8.out, HB.out, .inl HR.out, by omega, by omega, by omega⟩⟩
            · as_aux_lemma =>
              have hcl : cntSt (S.l.drop S.en) 1 < 8 := by have := HB.out.cnt; omega
              have HSB : Hid (∀ v F, Net v bs br F S V → Calls Tryd.prog 17 #[.pointer (some ⟨bs, 0, none⟩), .string D1, .int .u64 NC] v fun e w' => e = .returned (.tuple #[.int .i64 ((ds.length : Int) + 1), .int .i64 0]) ∧ ∃ F', NAft v w' bs br F F' ({ S with l := S.l ++ [⟨D1, NC, 1, 0⟩] } : SV) V) := fun v F hv => by
                have := nSubmit D1 NC hv hdS (by omega) hcl
                rw [hlen] at this
                exact this
              go_wp2_with fail
              go_region_held3 (fun v => v.cell? ⟨bp, 0, none⟩ = some (.pointer (some ⟨bs, 0, none⟩)) ∧ v.cell? ⟨Q, 2, none⟩ = some (.int .u64 NC))
                (first | exact ⟨p0, m2⟩ | exact ⟨t1, t2⟩)
                (first
                  | (go_at_call 17; refine (HSB.out _ _ HW6.out.ctx.net.drew).mono ?_; rintro e1 w8 ⟨rfl, F8, ha8⟩; have hA8 := ha8.pre ((Turn.refl [] _).drew); have hw8 := HW6.out.aft hA8; have t1 := hw8.ctx.pair.cells.1; have t2 := ((HQ6.out.aft hA8).cell 2).trans rfl))
              have T9 : Turn [] w8 (w8.alloc (.cells #[.string D1] 9)) := (Turn.refl [] w8).alloc _
              have hw9 := hw8.turn T9
              have hN9 : (w8.alloc (.cells #[.string D1] 9)).cell? ⟨w8.heap.size, 0, none⟩ = some (.string D1) := by rw [cell_of_row _ _ _ _ _ _ (heap_alloc_new w8 _)]; rfl
              have hs9 := hw9.s
              have hlt9 := hw9.ctx.net.lt
              have hsz9 := hw9.ctx.bel.size
              clear hw8 ha8 hA8 t1 t2 p0 p1 m0 m2 m3 HW6 HQ6 hlt6 hsz6
              go_upto_region 22 with (at_builtin; (refine wpList_strs _ rfl _ _ rfl _ _ hs9 rfl w8.heap.size 1 rfl D1 hN9 (by omega) hlt9 hsz9 ?_; intro g2 cap2 w10 hs10 ht10 hat10))
              have HW10 : Hid _ := hw9.moreS hs10 ht10 hat10
              clear hw9 hs9 hlt9 hsz9 hN9 hs10 ht10 hat10 T9
              go_wp2_with fail
              go_meet
              exact ⟨F8, _, V, ds ++ [D1], dn, up, ⟨HW10.out, HB.out.submit D1 NC hdD hcl hle, .inl HR.out, by simp; omega, by omega, by omega⟩⟩
        · have q0 : ((k : Int) == 0) = false := by simp; omega
          by_cases k4 : k < 4
          ·
            have q1 : decide ((k : Int) < 4) = true := by simp; omega
            by_cases hend : S.en = S.l.length
            · as_aux_lemma =>
              go_wp2_with fail
              refine (nTick_none HW6.out.ctx.net hend).mono ?_
              rintro e1 w7 ⟨rfl, F7, ha7⟩
              have hw7 := HW6.out.aft ha7
              have hs7 := hw7.d
              have HW7 : Hid _ := hw7
              clear hw7 ha7 p0 p1 m0 m2 m3 HW6 HQ6
              go_wp2_with (at_builtin; (refine wpList_strs_none _ rfl _ _ rfl _ _ hs7 rfl rfl ?_))
              go_meet
              exact ⟨F7, S, V, ds, dn, up, ⟨HW7.out, HB.out, .inl HR.out, by omega, by omega, by omega⟩⟩
            · obtain ⟨o, ho⟩ : ∃ o, S.l[S.en]? = some o := ⟨_, List.getElem?_eq_getElem (by omega)⟩
              have hob := (HSK.out.cur S.en o (Nat.le_refl _) ho).2.1
              have HO : Hid _ := ho
              clear ho
              by_cases hfull : o.sent = (S.bud : Int)
              · as_aux_lemma =>
                go_wp2_with fail
                refine (nTick_fail HW6.out.ctx.net HO.out hfull).mono ?_
                rintro e1 w7 ⟨rfl, F7, ha7⟩
                have hw7 := HW6.out.aft ha7
                have hs7 := hw7.d
                have HW7 : Hid _ := hw7
                clear hw7 ha7 p0 p1 m0 m2 m3 HW6 HQ6
                go_wp2_with (at_builtin; (refine wpList_strs_none _ rfl _ _ rfl _ _ hs7 rfl rfl ?_))
                go_meet
                exact ⟨F7, _, V, ds, dn, up, ⟨HW7.out, HB.out.ended (o := o) (.inr ⟨rfl, by rw [hfull, HB.out.sbud]⟩), .inl HR.out, by omega, by omega, by omega⟩⟩
              · as_aux_lemma =>
                go_wp2_with fail
                refine (nTick_send HW6.out.ctx.net HO.out (by omega)).mono ?_
                rintro e1 w7 ⟨G, rfl, hG, hcG, F7, ha7, hGF⟩
                have hw7 := HW6.out.aft ha7
                have hs7 := hw7.d
                have hG7 := (Blk.mk hcG hGF).one
                have hlt7 := hw7.ctx.net.lt
                have hsz7 := hw7.ctx.bel.size
                clear ha7 p0 p1 m0 m2 m3 HW6 HQ6 hcG hGF hG
                go_wp2_with (at_builtin; (refine wpList_strs _ rfl _ _ rfl _ _ hs7 rfl G 1 rfl _ hG7 (by omega) hlt7 hsz7 ?_; intro g2 cap2 w10 hs10 ht10 hat10))
                have HW10 : Hid _ := hw7.moreD hs10 ht10 hat10
                go_meet
                exact ⟨F7, _, V, ds, _, up, ⟨HW10.out, HB.out.sent HO.out, .inl HR.out, by omega, by simp; omega, by omega⟩⟩
          · have q1 : decide ((k : Int) < 4) = false := by simp; omega
            by_cases kd : k < 7 ∧ 0 < dn.length
            · obtain ⟨k7, hdp⟩ := kd
              have q2 : decide ((k : Int) < 7) = true := by simp; omega
              have q3 : (0 : Int) < (dn.length : Int) := by omega
              have q4 : decide ((0 : Int) < (dn.length : Int)) = true := by simp; omega
              go_wp2_with fail
              refine (pick_o A _ dn.length _ rfl ha1 ha2 hdp (by omega)).mono ?_
              rintro e1 w7 ⟨rfl, rfl⟩
              have hc := pickO_lt A hdp
              generalize pickO A dn.length = c at *
              obtain ⟨T, hT⟩ : ∃ T, dn[c]? = some T := ⟨_, List.getElem?_eq_getElem hc⟩
              obtain ⟨gd, dcap2, hsl, _, _, hcT⟩ := HW6.out.d.get hT
              obtain ⟨rfl, rfl⟩ : dsl = some ⟨gd, 0, none⟩ ∧ dcap = dcap2 := by injection hsl with a b c; exact ⟨a, c⟩
              have hTm := List.mem_of_getElem? hT
              obtain ⟨V2, hT2, hcase⟩ := HB.out.handle HW6.out.ctx.net.rok (by omega) HR.out hTm
              have hTs : T.size ≤ 4611686018427387904 := by
                obtain ⟨_, _, _, _, _, _, q⟩ := HB.out.dn T hTm
                rw [← bytesOf_len, q, fText, sumText_len, sumRow_len]
                omega
              have HT2 : Hid _ := hT2
              have c0 : (0 : Int) ≤ (c : Int) := by omega
              have c1 : (c : Int) < (dn.length : Int) := by omega
              have hTq : dn[c]? = some T := hT
              clear hsl hT hTm hT2
              rcases hcase with ⟨hh, hb2'⟩ | ⟨d, hh, hb2'⟩
              ·
                as_aux_lemma =>
                have HB2 : Hid _ := hb2'
                have HH : Hid (∀ v F, Net v bs br F S V → Calls Tryd.prog 20 #[.pointer (some ⟨br, 0, none⟩), .string T] v fun e w' => e = .returned (.slice none 0 0) ∧ ∃ F', NAft v w' bs br F F' S V2) := fun v F hv => by
                  refine (nHandle _ hv hTs).mono ?_
                  rintro e1 w9 ⟨F9, ha9, hans⟩
                  rw [hh] at ha9 hans
                  exact ⟨hans.none_ rfl, F9, ha9⟩
                clear hb2' hh
                go_wp2_with fail
                go_region_held3 (fun v => v.cell? ⟨bp, 1, none⟩ = some (.pointer (some ⟨br, 0, none⟩)) ∧ v.cell? ⟨gd, c, none⟩ = some (.string T))
                  (first | exact ⟨p1, hcT⟩ | exact ⟨t1, t2⟩)
                  (first
                    | (go_at_call 20; refine (HH.out _ _ HW6.out.ctx.net.drew).mono ?_; rintro e1 w8 ⟨rfl, F8, ha8⟩; have hA8 := ha8.pre ((Turn.refl [] _).drew); have hw8 := HW6.out.aft hA8; have t1 := hw8.ctx.pair.cells.2; have t2 : w8.cell? ⟨gd, c, none⟩ = some (.string T) := owns_cell hw8.d.owns rfl (by simpa using hTq); have hs8 := hw8.u)
                    | (refine step_strs_none _ (by rfl) _ _ (by rfl) _ _ hs8 (by rfl) (by rfl) ?_))
                have HW8 : Hid _ := hw8
                clear hw8 ha8 hA8 t1 t2 hs8 p0 p1 m0 m2 m3 HW6 HQ6
                go_wp2_with fail
                go_meet
                exact ⟨F8, S, V2, ds, dn, up, ⟨HW8.out, HB2.out, HT2.out, by omega, by omega, by omega⟩⟩
              · as_aux_lemma =>
                have HB2 : Hid _ := hb2'
                have HH : Hid (∀ v F, Net v bs br F S V → Calls Tryd.prog 20 #[.pointer (some ⟨br, 0, none⟩), .string T] v fun e w' => ∃ G, e = .returned (.slice (some ⟨G, 0, none⟩) 1 1) ∧ ∃ F', NAft v w' bs br F F' S V2 ∧ w'.heap[G]? = some (.cells #[.string (strOf d)] 9 (0, 0)) ∧ G ∉ F') := fun v F hv => by
                  refine (nHandle _ hv hTs).mono ?_
                  rintro e1 w9 ⟨F9, ha9, hans⟩
                  rw [hh] at ha9 hans
                  obtain ⟨G, q1, q2, _, q4⟩ := hans.some_ d rfl
                  exact ⟨G, q1, F9, ha9, q2, q4⟩
                clear hb2' hh
                generalize strOf d = U at *
                go_wp2_with fail
                go_region_held3 (fun v => v.cell? ⟨bp, 1, none⟩ = some (.pointer (some ⟨br, 0, none⟩)) ∧ v.cell? ⟨gd, c, none⟩ = some (.string T))
                  (first | exact ⟨p1, hcT⟩ | exact ⟨t1, t2⟩ | exact ⟨t3, t4⟩)
                  (first
                    | (go_at_call 20; refine (HH.out _ _ HW6.out.ctx.net.drew).mono ?_; rintro e1 w8 ⟨G, rfl, F8, ha8, hg2, hg3⟩; have hA8 := ha8.pre ((Turn.refl [] _).drew); have hw8 := HW6.out.aft hA8; have t1 := hw8.ctx.pair.cells.2; have t2 : w8.cell? ⟨gd, c, none⟩ = some (.string T) := owns_cell hw8.d.owns rfl (by simpa using hTq); have hs8 := hw8.u; have hG8 := (Blk.mk hg2 hg3).one; have hlt8 := hw8.ctx.net.lt; have hsz8 := hw8.ctx.bel.size)
                    | (refine step_strs _ (by rfl) _ _ (by rfl) _ _ hs8 (by rfl) G 1 (by rfl) _ hG8 (by omega) hlt8 hsz8 ?_; intro g2 cap2 w10 hs10 ht10 hat10; have hw10 := hw8.moreU hs10 ht10 hat10; have t3 := hw10.ctx.pair.cells.2; have t4 : w10.cell? ⟨gd, c, none⟩ = some (.string T) := owns_cell hw10.d.owns rfl (by simpa using hTq)))
                have HW10 : Hid _ := hw10
                clear hw8 hw10 ha8 hA8 t1 t2 t3 t4 hs8 hG8 hlt8 hsz8 hs10 ht10 hat10 p0 p1 m0 m2 m3 HW6 HQ6
                go_wp2_with fail
                go_meet
                exact ⟨F8, S, V2, ds, dn, up ++ [U], ⟨HW10.out, HB2.out, HT2.out, by omega, by omega, by simp; omega⟩⟩
            · by_cases ku : k = 7 ∧ 0 < up.length
              · as_aux_lemma =>
                obtain ⟨rfl, hup⟩ := ku
                have q3 : (0 : Int) < (up.length : Int) := by omega
                have q4 : decide ((0 : Int) < (up.length : Int)) = true := by simp; omega
                have hc := pickO_lt A hup
                have HPK : Hid (∀ v, Calls Tryd.prog 26 #[.int .i64 A, .int .i64 up.length] v fun e w' => e = .returned (.int .i64 (pickO A up.length)) ∧ w' = v) := fun v => pick_o A _ up.length v rfl ha1 ha2 hup (by omega)
                generalize pickO A up.length = c at *
                obtain ⟨T, hT⟩ : ∃ T, up[c]? = some T := ⟨_, List.getElem?_eq_getElem hc⟩
                obtain ⟨gu, ucap2, hsl, _, _, hcT⟩ := HW6.out.u.get hT
                obtain ⟨rfl, rfl⟩ : usl = some ⟨gu, 0, none⟩ ∧ ucap = ucap2 := by injection hsl with a b c; exact ⟨a, c⟩
                have hTm := List.mem_of_getElem? hT
                have HB2 : Hid _ := HB.out.back HSK.out hTm
                have HH : Hid (∀ v F, Net v bs br F S V → Calls Tryd.prog 21 #[.pointer (some ⟨bs, 0, none⟩), .string T] v fun e w' => e = .returned (.tuple #[]) ∧ ∃ F', NAft v w' bs br F F' (S.handle (bytesOf T)) V) := fun v F hv => nSHandle T hv
                have hTq : up[c]? = some T := hT
                have c0 : (0 : Int) ≤ (c : Int) := by omega
                have c1 : (c : Int) < (up.length : Int) := by omega
                clear hsl hT hTm
                go_wp2_with fail
                go_region_held3 (fun v => v.cell? ⟨bp, 0, none⟩ = some (.pointer (some ⟨bs, 0, none⟩)) ∧ v.cell? ⟨Q, 1, none⟩ = some (.int .i64 A) ∧ v.cell? ⟨gu, c, none⟩ = some (.string T))
                  (first | exact ⟨p0, m0, hcT⟩ | exact ⟨t1, t2, t3⟩)
                  (first
                    | (go_at_call 26; refine (HPK.out _).mono ?_; rintro e1 w7 ⟨rfl, rfl⟩)
                    | (go_at_call 21; refine (HH.out _ _ HW6.out.ctx.net.drew).mono ?_; rintro e1 w8 ⟨rfl, F8, ha8⟩; have hA8 := ha8.pre ((Turn.refl [] _).drew); have hw8 := HW6.out.aft hA8; have t1 := hw8.ctx.pair.cells.1; have t2 := ((HQ6.out.aft hA8).cell 1).trans rfl; have t3 : w8.cell? ⟨gu, c, none⟩ = some (.string T) := owns_cell hw8.u.owns rfl (by simpa using hTq)))
                have HW8 : Hid _ := hw8
                clear hw8 ha8 hA8 t1 t2 t3 p0 p1 m0 m2 m3 HW6 HQ6
                go_wp2_with fail
                go_meet
                exact ⟨F8, _, V, ds, dn, up, ⟨HW8.out, HB2.out, .inl HR.out, by omega, by omega, by omega⟩⟩
              · as_aux_lemma =>
                have HE : Hid (OnM w1 w6 bp bs br F5 S V (.slice ssl ds.length scap) (.slice dsl dn.length dcap) (.slice usl up.length ucap) ds dn up gg (xs.length + 1) got blk bud last (i + 1)) := ⟨HW6.out, HB.out, .inl HR.out, by omega, by omega, by omega⟩
                clear p0 p1 m0 m2 m3 HW6 HQ6
                by_cases k7 : k = 7
                · subst k7
                  obtain ⟨n0, hn0⟩ : ∃ n0, up.length = n0 := ⟨_, rfl⟩
                  have hz0 : up.length = 0 := by omega
                  rw [hz0] at HE ⊢
                  go_wp2_with fail
                  go_meet
                  exact ⟨_, _, _, _, _, _, HE.out⟩
                · have q2 : decide ((k : Int) < 7) = true := by simp; omega
                  have q5 : ((k : Int) == 7) = false := by simp; omega
                  have hz0 : dn.length = 0 := by omega
                  rw [hz0] at HE ⊢
                  go_wp2_with fail
                  go_meet
                  exact ⟨_, _, _, _, _, _, HE.out⟩
      case rest =>
        obtain ⟨F9, S9, V9, ds9, dn9, up9, hm⟩ := hcut
        obtain ⟨W9, hW9⟩ : ∃ W9, W9 = wc := ⟨_, rfl⟩
        subst hW9
        clear HW6 HQ6 HB HR
        obtain ⟨ssl9, scap9, rfl, hscap9⟩ := hm.w.s.shape
        obtain ⟨dsl9, dcap9, rfl, hdcap9⟩ := hm.w.d.shape
        obtain ⟨usl9, ucap9, rfl, hucap9⟩ := hm.w.u.shape
        have hl1 := hm.ls
        have hl2 := hm.ld
        have hl3 := hm.lu
        obtain ⟨p0, p1⟩ := hm.w.ctx.pair.cells
        have HW9 : Hid _ := hm.w
        have HB9 : Hid _ := hm.b
        have HT9 : Hid _ := hm.t
        clear hm
        go_wp2_with fail
        refine (nTake_on HW9.out.ctx.net HT9.out).mono ?_
        rintro e1 w10 ⟨x0, x1, x2, rfl, F10, V10, ha10, hx10⟩
        have hsok := HW9.out.ctx.net.sok
        have HW10 : Hid _ := HW9.out.aft ha10
        clear ha10 HW9 HT9 p0 p1
        go_upto_if 170 with fail
        go_cut [12] from 45 to 248 (fun lv wx => ∃ (last' : Nat) (got' : Nat → Bool), lv = .int .i64 last' ∧ OnI w1 wx bp bs br F10 S9 V10 (.slice ssl9 ds9.length scap9) (.slice dsl9 dn9.length dcap9) (.slice usl9 up9.length ucap9) ds9 dn9 up9 gg (xs.length + 1) got' blk bud last' (i + 1))
        case first =>
          rcases hx10 with ⟨rfl, rfl, hr⟩ | ⟨n, rfl, rfl, rfl, hn⟩
          · as_aux_lemma =>
            have HE : Hid (OnI w1 w10 bp bs br F10 S9 V10 (.slice ssl9 ds9.length scap9) (.slice dsl9 dn9.length dcap9) (.slice usl9 up9.length ucap9) ds9 dn9 up9 gg (xs.length + 1) got blk bud last (i + 1)) := ⟨HW10.out, HB9.out, hr, hl1, hl2, hl3⟩
            clear hr HB9 HW10
            go_wp2_with fail
            go_meet
            exact ⟨last, got, rfl, HE.out⟩
          · as_aux_lemma =>
            have hds := hn.ds
            have hnl := (List.getElem?_eq_some_iff.1 hds).1
            have hlt := hn.lt
            obtain ⟨gs, scap10, hsl, _, _, hcd⟩ := HW10.out.s.get hds
            obtain ⟨rfl, rfl⟩ : ssl9 = some ⟨gs, 0, none⟩ ∧ scap9 = scap10 := by injection hsl with a b c; exact ⟨a, c⟩
            obtain ⟨hb10, hr10⟩ := HB9.out.taken hn
            have HE : Hid (OnI w1 (w10.setCell ⟨gg, n + 1, none⟩ (.bool true)) bp bs br F10 S9 ({ V9 with ready := [] } : RV) (.slice (some ⟨gs, 0, none⟩) ds9.length scap9) (.slice dsl9 dn9.length dcap9) (.slice usl9 up9.length ucap9) ds9 dn9 up9 gg (xs.length + 1) (fun m => if m = n + 1 then true else got m) blk bud (n + 1) (i + 1)) := ⟨HW10.out.mark (n + 1), hb10, hr10, hl1, hl2, hl3⟩
            have q : (x0.toList == x0.toList) = true := by simp
            have z0 : w10.cell? ⟨gg, n + 1, none⟩ = some (.bool (got (n + 1))) := HW10.out.g.cell (by omega)
            have z1 : w10.frozen? ⟨gg, n + 1, none⟩ = false := HW10.out.g.frozen _
            have g2 : decide ((n : Int) + 1 ≤ (last : Int)) = false := by simp; omega
            have g3 : decide ((n : Int) + 1 > (ds9.length : Int)) = false := by simp; omega
            have g4 : decide ((ds9.length : Int) < (n : Int) + 1) = false := by simp; omega
            have g5 : (n : Int) + 1 < ((xs.length : Int) + 1) := by omega
            have g6 : (n : Int) < (ds9.length : Int) := by omega
            have g7 : (0 : Int) ≤ (n : Int) := by omega
            have g8 : (last : Int) < (n : Int) + 1 := by omega
            have g9 : (n : Int) + 1 ≤ (ds9.length : Int) := by omega
            clear hn HB9 HW10 hb10 hr10 hsl hds
            go_wp2_with fail
            go_meet
            exact ⟨n + 1, _, by go_num, HE.out⟩
        case rest =>
          obtain ⟨last', got', rfl, hi10⟩ := hcut
          obtain ⟨W10, hW10⟩ : ∃ W10, W10 = wc := ⟨_, rfl⟩
          subst hW10
          have HI10 : Hid _ := hi10
          clear hi10 HW10 HB9 hx10
          go_wp2_with fail
          go_loopw [25] (fun nv wx => ∃ (m : Nat) (F : List Nat), nv = .int .i64 m ∧ 1 ≤ m ∧ m ≤ ds9.length + 1 ∧ OnI w1 wx bp bs br F S9 V10 (.slice ssl9 ds9.length scap9) (.slice dsl9 dn9.length dcap9) (.slice usl9 up9.length ucap9) ds9 dn9 up9 gg (xs.length + 1) got' blk bud last' (i + 1)) (fun nv _ => ds9.length + 1 - (intOf nv).toNat)
          case atStart => exact ⟨1, F10, rfl, Nat.le_refl _, by omega, HI10.out⟩
          case round =>
            obtain ⟨m, F11, rfl, hm1, hm2, hin⟩ := hrel
            have HI11 : Hid _ := hin
            clear hin HI10
            by_cases hml : m ≤ ds9.length
            · have g1 : decide ((m : Int) ≤ (ds9.length : Int)) = true := by simp; omega
              obtain ⟨j, rfl⟩ : ∃ j, m = j + 1 := ⟨m - 1, by omega⟩
              obtain ⟨⟨od, on, ost, osn⟩, ho, hos, hst⟩ := HI11.out.b.status hsok HI11.out.r (show j < ds9.length by omega)
              obtain ⟨p0, p1⟩ := HI11.out.w.ctx.pair.cells
              have j0 : (0 : Int) ≤ ((j + 1 : Nat) : Int) := by omega
              have j1 : ((j + 1 : Nat) : Int) < ((xs.length : Int) + 1) := by omega
              go_wp2_with fail
              refine (nStatus_eq _ j HI11.out.w.ctx.net ho (by omega)).mono ?_
              rintro e1 w12 ⟨rfl, F12, ha12⟩
              have T13 : Turn [] w12 (w12.alloc (.cells #[.int .i64 ost, .int .i64 osn] 45)) := (Turn.refl [] w12).alloc _
              have hw13 := (HI11.out.w.aft ha12).turn T13
              have HI13 : Hid (OnI w1 (w12.alloc (.cells #[.int .i64 ost, .int .i64 osn] 45)) bp bs br F12 S9 V10 (.slice ssl9 ds9.length scap9) (.slice dsl9 dn9.length dcap9) (.slice usl9 up9.length ucap9) ds9 dn9 up9 gg (xs.length + 1) got' blk bud last' (i + 1)) := ⟨hw13, HI11.out.b, HI11.out.r, hl1, hl2, hl3⟩
              have z0 : (w12.alloc (.cells #[.int .i64 ost, .int .i64 osn] 45)).cell? ⟨gg, j + 1, none⟩ = some (.bool (got' (j + 1))) := hw13.g.cell (by omega)
              have hos : osn ≤ (bud : Int) := hos
              clear hw13 T13 ha12 HI11 p0 p1 ho
              rcases hst with ⟨hs1, hs2⟩ | ⟨hs1, hs2⟩ | ⟨hs1, hs2⟩ | hs1
              · as_aux_lemma =>
                have hs1 : ost = 3 := hs1
                subst hs1
                rw [hs2] at z0
                go_wp2_with fail
                exact ⟨⟨j + 1 + 1, F12, by go_num, by omega, by omega, HI13.out⟩, by simp [intOf]; omega⟩
              · as_aux_lemma =>
                have hs1 : ost = 4 := hs1
                have hs2 : osn = (bud : Int) := hs2
                subst hs1 hs2
                go_wp2_with fail
                exact ⟨⟨j + 1 + 1, F12, by go_num, by omega, by omega, HI13.out⟩, by simp [intOf]; omega⟩
              · as_aux_lemma =>
                have hs1 : ost = 1 := hs1
                have hs2 : osn = 0 := hs2
                subst hs1 hs2
                go_wp2_with fail
                exact ⟨⟨j + 1 + 1, F12, by go_num, by omega, by omega, HI13.out⟩, by simp [intOf]; omega⟩
              · as_aux_lemma =>
                have hs1 : ost = 2 := hs1
                subst hs1
                go_wp2_with fail
                exact ⟨⟨j + 1 + 1, F12, by go_num, by omega, by omega, HI13.out⟩, by simp [intOf]; omega⟩
            · as_aux_lemma =>
              obtain rfl : m = ds9.length + 1 := by omega
              have g1 : decide (((ds9.length + 1 : Nat) : Int) ≤ (ds9.length : Int)) = false := by simp; omega
              go_wp2_with fail
              exact ⟨⟨i + 1, last', F11, S9, V10, ds9, dn9, up9, got', by go_num, rfl, by omega, HI11.out⟩, by simp [intOf]; omega⟩
    · obtain rfl : i = xs.length := by omega
      have g1 : decide ((xs.length : Int) < (xs.length : Int)) = false := by simp
      have HBE : Hid _ := HI.out.w.ctx.bel
      clear HI
      go_wp2_with fail
      go_ret
      exact ⟨rfl, HBE.out⟩
end Go.Proofs.YtfbbidaoljfloaaDoor
