import Derived.Test.YtfbbidaoljfloaaDoorJ30
import Derived.Deep.Cut
import Derived.Deep.CutRange
namespace Go.Proofs.YtfbbidaoljfloaaDoor
open Go.RowKit Go.MuLone

/-- What a law holds while it runs. -/
structure Ctx (w wr : World) (bp bs br : Nat) (F : List Nat) (S : SV) (V : RV) : Prop where
  net : Net wr bs br F S V
  pair : PairAt wr bp bs br
  bpF : bp ∉ F
  bel : Below w.heap.size w wr
  new : ∀ g ∈ F, w.heap.size ≤ g
  pos : 0 < w.heap.size

theorem Ctx.aft {w wr w' : World} {bp bs br : Nat} {F F' : List Nat} {S S' : SV} {V V' : RV} (h : Ctx w wr bp bs br F S V) (ha : NAft wr w' bs br F F' S' V') : Ctx w w' bp bs br F' S' V' := by
  have hlt := lt_of_heap h.pair.obj
  have hs := h.bel.size
  refine ⟨ha.net, h.pair.turn ha.turn h.bpF, fun hm => ?_, h.bel.trans (ha.turn.toBelow h.bel.size h.new), fun g hg => ?_, h.pos⟩
  · rcases ha.foot bp hm with q | q
    · exact h.bpF q
    · omega
  · rcases ha.foot g hg with q | q
    · exact h.new g q
    · omega
theorem Ctx.turn {w wr w' : World} {bp bs br : Nat} {F : List Nat} {S : SV} {V : RV} (h : Ctx w wr bp bs br F S V) (ht : Turn [] wr w') : Ctx w w' bp bs br F S V :=
  ⟨h.net.turn ht (by simp) (by simp), h.pair.turn ht (by simp), h.bpF, h.bel.trans (ht.toBelow h.bel.size (by simp)), h.new, h.pos⟩

def nth (i : Nat) (a b : ByteArray) : ByteArray := if i = 2 then b else a

structure OutI (S : SV) (V : RV) (i : Nat) (blk : Nat) (d1 d2 : ByteArray) (n1 n2 : Int) : Prop where
  sblk : S.blk = blk
  vblk : V.blk = blk
  bud : S.bud = 200
  en : S.en + 1 = i
  vnum : V.num < i
  ready : V.ready = []
  later : ∀ j, i ≤ j → V.dlv j = false
  rest : S.l.drop S.en = ([⟨d1, n1, 1, 0⟩, ⟨d2, n2, 1, 0⟩] : List Thing).drop S.en
  len : S.l.length = 2

theorem OutI.inObj {S : SV} {V : RV} {i blk : Nat} {d1 d2 : ByteArray} {n1 n2 : Int} (h : OutI S V i blk d1 d2 n1 n2) (hi : i = 1 ∨ i = 2) (hd1 : d1.size ≤ 32 * blk) (hd2 : d2.size ≤ 32 * blk) :
    ∃ nonce, InObj S V i (nth i d1 d2) nonce 0 (S.l.drop i) := by
  have hen := h.en
  have hr := h.rest
  have hdi : (nth i d1 d2).size ≤ 32 * V.blk := by
    rw [h.vblk]
    unfold nth
    split <;> assumption
  rcases hi with rfl | rfl
  · have e0 : S.en = 0 := by omega
    refine ⟨n1, ⟨by omega, by omega, hen, ⟨1, ?_⟩, rfl, by rw [h.sblk, h.vblk], hdi, Prog.start (h.later 1 (by omega)) h.vnum, h.ready, fun j hj => h.later j (by omega)⟩⟩
    rw [e0] at hr ⊢
    simp at hr
    rw [hr]
    simp [nth]
  · have e0 : S.en = 1 := by omega
    refine ⟨n2, ⟨by omega, by omega, hen, ⟨1, ?_⟩, rfl, by rw [h.sblk, h.vblk], hdi, Prog.start (h.later 2 (by omega)) h.vnum, h.ready, fun j hj => h.later j (by omega)⟩⟩
    rw [e0] at hr ⊢
    have : S.l[1]? = (S.l.drop 1)[0]? := by simp
    rw [this, hr]
    simp [nth]

def boolOf : Value → Bool
  | .bool b => b
  | _ => false

structure InLoop (w wr : World) (bp bs br : Nat) (F : List Nat) (S : SV) (V : RV) (i blk k : Nat) (X : ByteArray) (nonce : Int) (L : List Thing) (b : Bool) : Prop where
  ctx : Ctx w wr bp bs br F S V
  bud : S.bud = 200
  sblk : S.blk = blk
  len : S.l.length = 2
  st : (b = false ∧ InObj S V i X nonce k L) ∨ (b = true ∧ AftObj S V i X k L)

theorem SV.handle_same (S : SV) (bs : List Nat) : (S.handle bs).blk = S.blk ∧ (S.handle bs).bud = S.bud ∧ (S.handle bs).l.length = S.l.length := by
  unfold SV.handle
  cases S.l[S.en]? with
  | none => exact ⟨rfl, rfl, rfl⟩
  | some o =>
    simp only
    split
    · exact ⟨rfl, rfl, by simp [SV.done]⟩
    · exact ⟨rfl, rfl, rfl⟩

theorem frameOf_small (num blk : Nat) (o : Thing) (h : blk ≤ 32) : (frameOf num blk o).size ≤ 4611686018427387904 := by rw [frameOf_size]; omega

theorem nStatus_eq {w : World} {bs br : Nat} {F : List Nat} {S : SV} {V : RV} {o : Thing} (num : Int) (k : Nat) (h : Net w bs br F S V) (ho : S.l[k]? = some o) (he : num = (k : Int) + 1) :
    Calls Tryd.prog 22 #[.pointer (some ⟨bs, 0, none⟩), .int .i64 num] w fun e w' => e = .returned (.tuple #[.agg #[.int .i64 o.st, .int .i64 o.sent], .int .i64 0]) ∧ ∃ F', NAft w w' bs br F F' S V := by
  subst he
  exact nStatus k h ho

theorem AftObj.next {S : SV} {V : RV} {i blk k : Nat} {d1 d2 X : ByteArray} {n1 n2 : Int} (h : AftObj S V i X k (([⟨d1, n1, 1, 0⟩, ⟨d2, n2, 1, 0⟩] : List Thing).drop i)) (hb : S.blk = blk) (hu : S.bud = 200) (hl : S.l.length = 2) : OutI S { V with ready := [] } (i + 1) blk d1 d2 n1 n2 :=
  ⟨hb, h.blk ▸ hb, hu, by rw [h.en], by have := h.vnum; show V.num < i + 1; omega, rfl, fun j hj => h.later j (by omega), by rw [h.en]; exact h.rest, hl⟩

set_option maxRecDepth 100000 in
set_option maxHeartbeats 4000000 in
theorem whole_any (block : Int) (d e : ByteArray) (n1 n2 : Int) (w : World) (ht : Tab w) (h1 : -9223372036854775808 ≤ block) (h2 : block ≤ 9223372036854775807) :
    Calls Tryd.prog 4 #[.int .i64 block, .string d, .int .u64 n1, .string e, .int .u64 n2] w fun e w' => e = .returned (.bool true) ∧ Below w.heap.size w w' := by
  have hpos : 0 < w.heap.size := World.block_lt_of_cell? w _ (ht 0 0 rfl)
  have hnot := notOp
  go_enter Tryd.func4, Tryd.ntmps4
  go_wp2_with fail
  refine (bent_any block 1 32 _ h1 h2 (by omega) (by omega)).mono ?_
  rintro e1 w1 ⟨⟨blk, rfl, hb1, hb2⟩, rfl⟩
  go_wp2_with fail
  refine (pair_any blk 200 _ ht hb1 hb2 (by omega) (by omega)).mono ?_
  rintro e1 w2 ⟨bp, bs, br, F, rfl, hbel, hpa, hnet, hnew, hbp, hbpF⟩
  go_wp2_with fail
  refine (fit_any d blk _ hb1 hb2).mono ?_
  rintro e1 w3 ⟨rfl, rfl⟩
  go_wp2_with fail
  refine (fit_any e blk _ hb1 hb2).mono ?_
  rintro e1 w4 ⟨rfl, rfl⟩
  have hd1 := fitD_size d blk
  have hd2 := fitD_size e blk
  have hctx : Ctx w1 w4 bp bs br F _ _ := ⟨hnet, hpa, hbpF, hbel, hnew, hpos⟩
  generalize fitD d blk = D at *
  generalize fitD e blk = E at *
  obtain ⟨p0, p1⟩ := hpa.cells
  have HC : Hid _ := hctx
  clear hctx hnet hpa hbpF hbel hnew
  go_wp2_with fail
  refine (nSubmit D n1 HC.out.net hd1 (by simp [SV.fresh]) (by simp [SV.fresh, cntSt])).mono ?_
  rintro e1 w5 ⟨rfl, F5, ha5⟩
  have hc5 := HC.out.aft ha5
  obtain ⟨p0, p1⟩ := hc5.pair.cells
  have HC5 : Hid _ := hc5
  clear hc5 ha5 HC
  go_wp2_with fail
  refine (nSubmit E n2 HC5.out.net hd2 (by simp [SV.fresh]) (by simp [SV.fresh, cntSt])).mono ?_
  rintro e1 w6 ⟨rfl, F6, ha6⟩
  have hc6 := HC5.out.aft ha6
  have HC6 : Hid _ := hc6
  clear hc6 ha6 HC5
  go_wp2_with fail
  have hO6 : OutI (⟨blk, 200, 0, [⟨D, n1, 1, 0⟩, ⟨E, n2, 1, 0⟩]⟩ : SV) (RV.fresh blk) 1 blk D E n1 n2 := ⟨rfl, rfl, rfl, rfl, by show 0 < 1; omega, rfl, fun _ _ => rfl, rfl, rfl⟩
  have HO6 : Hid _ := hO6
  clear hO6
  go_loopw [17] (fun v wr => ∃ (i : Nat) (F : List Nat) (S : SV) (V : RV), v = .int .i64 i ∧ 1 ≤ i ∧ i ≤ 3 ∧ Ctx w1 wr bp bs br F S V ∧ OutI S V i blk D E n1 n2) (fun v _ => 3 - (intOf v).toNat)
  case atStart => exact ⟨1, F6, _, _, rfl, by omega, by omega, HC6.out, HO6.out⟩
  case round =>
    obtain ⟨i, F0, S0, V0, rfl, hi1, hi3, hctx0, hout⟩ := hrel
    clear HC6 HO6
    obtain ⟨p0, p1⟩ := hctx0.pair.cells
    have HC0 : Hid _ := hctx0
    have HO : Hid _ := hout
    clear hctx0 hout
    by_cases hi : i ≤ 2
    · have q0 : decide ((i : Int) ≤ 2) = true := by simp; omega
      have hir : i = 1 ∨ i = 2 := by omega
      go_upto_if 82 with fail
      go_cut [18] from 76 to 160 (fun v wx => v = .string (nth i D E) ∧ wx = wr)
      case first =>
        rcases hir with rfl | rfl
        · go_wp2_with fail
          go_meet
          exact ⟨rfl, rfl⟩
        · go_wp2_with fail
          go_meet
          exact ⟨rfl, rfl⟩
      case rest =>
        obtain ⟨rfl, rfl⟩ := hcut
        obtain ⟨nonce, hin⟩ := HO.out.inObj hir hd1 hd2
        have hX : (nth i D E).size ≤ 32 * blk := by unfold nth; split <;> assumption
        have hL : S0.l.drop i = ([⟨D, n1, 1, 0⟩, ⟨E, n2, 1, 0⟩] : List Thing).drop i := by
          have h1 := HO.out.rest
          have h2 := HO.out.en
          rw [← h2, show S0.en + 1 = S0.en + 1 from rfl, ← List.drop_drop, ← List.drop_drop, h1]
        rw [hL] at hin
        have HL0 : Hid (InLoop w1 wc bp bs br F0 S0 V0 i blk 0 (nth i D E) nonce (([⟨D, n1, 1, 0⟩, ⟨E, n2, 1, 0⟩] : List Thing).drop i) false) := ⟨HC0.out, HO.out.bud, HO.out.sblk, HO.out.len, .inl ⟨rfl, hin⟩⟩
        clear hin hL HC0 HO p0 p1
        generalize nth i D E = X at *
        generalize hLL : ([⟨D, n1, 1, 0⟩, ⟨E, n2, 1, 0⟩] : List Thing).drop i = L at *
        have HLL : Hid _ := hLL
        have hK1 := blocksOf_pos X.size blk
        have hK2 := blocksOf_le X.size blk hb1 hX
        clear hLL
        go_wp2_with fail
        go_loopw [19, 20] (fun kv dv wr => ∃ (k : Nat) (b : Bool) (F : List Nat) (S : SV) (V : RV), kv = .int .i64 k ∧ dv = .bool b ∧ InLoop w1 wr bp bs br F S V i blk k X nonce L b) (fun kv dv _ => if boolOf dv then 0 else 4 * blocksOf X.size blk + 1 - (intOf kv).toNat)
        case atStart => exact ⟨0, false, F0, S0, V0, rfl, rfl, HL0.out⟩
        case round =>
          obtain ⟨k, b, F1, S1, V1, rfl, rfl, hlp⟩ := hrel
          obtain ⟨p0, p1⟩ := hlp.ctx.pair.cells
          have HLP : Hid _ := hlp
          clear HL0 hlp
          cases b with
          | true =>
            obtain ⟨q, hst⟩ : true = true ∧ AftObj S1 V1 i X k L := by
              rcases HLP.out.st with ⟨q, _⟩ | q
              · cases q
              · exact q
            have HST : Hid _ := hst
            clear hst q
            go_wp2_with fail
            refine (taken_any bp bs br i F1 S1 V1 X _ HLP.out.ctx.net HLP.out.ctx.pair HST.out.ready).mono ?_
            rintro e1 w7 ⟨rfl, F7, ha7⟩
            have hc7 := HLP.out.ctx.aft ha7
            have HC7 : Hid _ := hc7
            clear hc7 ha7
            go_wp2_with fail
            have hst := HST.out
            rw [← HLL.out] at hst
            exact ⟨⟨i + 1, F7, _, _, by go_num, by omega, by omega, HC7.out, hst.next HLP.out.sblk HLP.out.bud HLP.out.len⟩, by simp [intOf]; omega⟩
          | false =>
            have hin : InObj S1 V1 i X nonce k L := by
              rcases HLP.out.st with ⟨_, q⟩ | ⟨q, _⟩
              · exact q
              · cases q
            obtain ⟨st, ho⟩ := hin.cur
            have hrok := HLP.out.ctx.net.rok
            have hvb : V1.blk = blk := by rw [← hin.blk]; exact HLP.out.sblk
            have hklt := hin.prog.lt hrok hin.fit
            rw [hvb] at hklt
            have hstep := hin.step hrok ho
            have hen1 := hin.en
            have hsm : (frameOf (S1.en + 1) S1.blk ⟨X, nonce, st, k⟩).size ≤ 4611686018427387904 := frameOf_small _ _ _ (by rw [HLP.out.sblk]; exact hb2)
            have HIN : Hid _ := hin
            have HSTEP : Hid _ := hstep
            have HO1 : Hid _ := ho
            have HVB : Hid _ := hvb
            clear hin hstep ho hvb hrok
            go_wp2_with fail
            refine (nTick_send HLP.out.ctx.net HO1.out (by rw [HLP.out.bud]; show (k : Int) < ((200 : Nat) : Int); omega)).mono ?_
            rintro e1 w7 ⟨G, rfl, hG, hcG, F7, ha7, hGF⟩
            have hc7 := HLP.out.ctx.aft ha7
            obtain ⟨p0, p1⟩ := hc7.pair.cells
            have hGc : w7.cell? ⟨G, 0, none⟩ = some (.string (frameOf (S1.en + 1) S1.blk ⟨X, nonce, st, k⟩)) := by rw [cell_of_row _ _ _ _ _ _ hcG]; rfl
            have hGlt := lt_of_heap hcG
            have hbplt := lt_of_heap hc7.pair.obj
            have hbpF := hc7.bpF
            have HC7 : Hid _ := hc7
            clear hc7 ha7 hcG
            go_wp2_with fail
            refine (blocks_any X blk _ hb1 hb2 hX).mono ?_
            rintro e1 w8 ⟨rfl, rfl⟩
            have hge : decide (4 * (blocksOf X.size blk : Int) ≤ (k : Int)) = false := by simp; omega
            have hge2 : ¬ 4 * blocksOf X.size blk ≤ k := by omega
            go_wp2_with fail
            have HN8 : Hid (Net w8.drew bs br F7 (S1.sentOne ⟨X, nonce, st, k⟩) V1) := HC7.out.net.turn ((Turn.refl [] w8).drew) (by simp) (by simp)
            have hGc' : w8.drew.cell? ⟨G, 0, none⟩ = some (.string (frameOf (S1.en + 1) S1.blk ⟨X, nonce, st, k⟩)) := hGc
            have p1' : w8.drew.cell? ⟨bp, 1, none⟩ = some (.pointer (some ⟨br, 0, none⟩)) := p1
            rcases HSTEP.out with ⟨V2, hV2, hin2⟩ | ⟨V2, hV2, haft2⟩
            · have HH : Hid (Calls Tryd.prog 20 #[.pointer (some ⟨br, 0, none⟩), .string (frameOf (S1.en + 1) S1.blk ⟨X, nonce, st, k⟩)] w8.drew fun e w' => e = .returned (.slice none 0 0) ∧ ∃ F', NAft w8.drew w' bs br F7 F' (S1.sentOne ⟨X, nonce, st, k⟩) V2) := by
                refine (nHandle _ HN8.out hsm).mono ?_
                rintro e1 w9 ⟨F9, ha9, hans⟩
                rw [hV2] at ha9 hans
                exact ⟨hans.none_ rfl, F9, ha9⟩
              have HI2 : Hid _ := hin2
              clear hin2 hV2
              generalize frameOf (S1.en + 1) S1.blk ⟨X, nonce, st, k⟩ = T at *
              go_region_held3 (fun v => v.cell? ⟨G, 0, none⟩ = some (.string T) ∧ v.cell? ⟨bp, 1, none⟩ = some (.pointer (some ⟨br, 0, none⟩)))
                (first | exact ⟨hGc, p1⟩ | exact ⟨(World.cell?_of_block (ha9.turn.block G hGlt hGF)).trans hGc, (World.cell?_of_block (ha9.turn.block bp hbplt hbpF)).trans p1⟩)
                (first
                  | (go_at_call 20; refine (HH.out).mono ?_; rintro e1 w9 ⟨rfl, F9, ha9⟩))
              have hc9 : Ctx w1 w9 bp bs br F9 (S1.sentOne ⟨X, nonce, st, k⟩) V2 := HC7.out.aft ⟨ha9.net, ((Turn.refl F7 w8).drew).trans ha9.turn (fun x hx => .inl hx), ha9.foot⟩
              have HC9 : Hid _ := hc9
              clear hc9 ha9
              obtain ⟨p0, p1⟩ := HC9.out.pair.cells
              have HO2 : Hid ((S1.sentOne ⟨X, nonce, st, k⟩).l[S1.en]? = some ⟨X, nonce, 2, (k : Int) + 1⟩) := List.getElem?_set_self (List.getElem?_eq_some_iff.1 HO1.out).1
              go_wp2_with fail
              go_loopw [23] (fun v wr => v = .int .i64 0 ∧ wr = w9) (fun _ _ => 0)
              case atStart => exact ⟨rfl, rfl⟩
              case round =>
                obtain ⟨rfl, rfl⟩ := hrel
                go_wp2_with fail
                refine (nStatus_eq _ S1.en HC9.out.net HO2.out (by omega)).mono ?_
                rintro e1 w10 ⟨rfl, F10, ha10⟩
                have hc10 := HC9.out.aft ha10
                have HC10 : Hid _ := hc10
                clear hc10 ha10
                go_wp2_with fail
                refine ⟨⟨k + 1, false, F10, _, V2, by go_num, rfl, ⟨HC10.out.turn ((Turn.refl [] w10).alloc _), HLP.out.bud, HLP.out.sblk, by show (S1.l.set S1.en _).length = 2; rw [List.length_set]; exact HLP.out.len, .inl ⟨rfl, HI2.out⟩⟩⟩, ?_⟩
                simp [boolOf, intOf]
                omega
            · have HH : Hid (Calls Tryd.prog 20 #[.pointer (some ⟨br, 0, none⟩), .string (frameOf (S1.en + 1) S1.blk ⟨X, nonce, st, k⟩)] w8.drew fun e w' => ∃ G2, e = .returned (.slice (some ⟨G2, 0, none⟩) 1 1) ∧ ∃ F', NAft w8.drew w' bs br F7 F' (S1.sentOne ⟨X, nonce, st, k⟩) V2 ∧ w'.heap[G2]? = some (.cells #[.string (strOf (doneB i V1.blk))] 9 (0, 0)) ∧ G2 ∉ F') := by
                refine (nHandle _ HN8.out hsm).mono ?_
                rintro e1 w9 ⟨F9, ha9, hans⟩
                rw [hV2] at ha9 hans
                obtain ⟨G2, g1, g2, g3, g4⟩ := hans.some_ _ rfl
                exact ⟨G2, g1, F9, ha9, g2, g4⟩
              have HI2 : Hid _ := haft2
              clear haft2 hV2
              generalize frameOf (S1.en + 1) S1.blk ⟨X, nonce, st, k⟩ = T at *
              go_region_held3 (fun v => v.cell? ⟨G, 0, none⟩ = some (.string T) ∧ v.cell? ⟨bp, 1, none⟩ = some (.pointer (some ⟨br, 0, none⟩)))
                (first | exact ⟨hGc, p1⟩ | exact ⟨(World.cell?_of_block (ha9.turn.block G hGlt hGF)).trans hGc, (World.cell?_of_block (ha9.turn.block bp hbplt hbpF)).trans p1⟩)
                (first
                  | (go_at_call 20; refine (HH.out).mono ?_; rintro e1 w9 ⟨G2, rfl, F9, ha9, hG2, hG2F⟩))
              have hc9 : Ctx w1 w9 bp bs br F9 (S1.sentOne ⟨X, nonce, st, k⟩) V2 := HC7.out.aft ⟨ha9.net, ((Turn.refl F7 w8).drew).trans ha9.turn (fun x hx => .inl hx), ha9.foot⟩
              have HC9 : Hid _ := hc9
              clear hc9 ha9
              have HG2 : Hid _ := hG2
              clear hG2
              go_wp2_with fail
              go_loopw [23] (fun v wr => (v = .int .i64 0 ∧ wr = w9) ∨ (v = .int .i64 1 ∧ ∃ F', Ctx w1 wr bp bs br F' ((S1.sentOne ⟨X, nonce, st, k⟩).handle (doneB i V1.blk)) V2)) (fun v _ => 1 - (intOf v).toNat)
              case atStart => exact .inl ⟨rfl, rfl⟩
              case round =>
                rcases hrel with ⟨rfl, rfl⟩ | ⟨rfl, F10, hc10⟩
                · obtain ⟨p0, p1⟩ := HC9.out.pair.cells
                  have hG2c : wr.cell? ⟨G2, 0, none⟩ = some (.string (strOf (doneB i V1.blk))) := by rw [cell_of_row _ _ _ _ _ _ HG2.out]; rfl
                  have hG2lt := lt_of_heap HG2.out
                  have hbpl := lt_of_heap HC9.out.pair.obj
                  have hbpF9 := HC9.out.bpF
                  have HS : Hid (Calls Tryd.prog 21 #[.pointer (some ⟨bs, 0, none⟩), .string (strOf (doneB i V1.blk))] wr.drew fun e w' => e = .returned (.tuple #[]) ∧ ∃ F', NAft wr.drew w' bs br F9 F' ((S1.sentOne ⟨X, nonce, st, k⟩).handle (doneB i V1.blk)) V2) := by
                    have := nSHandle (strOf (doneB i V1.blk)) (HC9.out.net.turn ((Turn.refl [] wr).drew) (by simp) (by simp))
                    rw [bytesOf_strOf _ (doneB_lt _ _)] at this
                    exact this
                  go_wp2_with fail
                  go_region_held3 (fun v => v.cell? ⟨G2, 0, none⟩ = some (.string (strOf (doneB i V1.blk))) ∧ v.cell? ⟨bp, 0, none⟩ = some (.pointer (some ⟨bs, 0, none⟩)))
                    (first | exact ⟨hG2c, p0⟩ | exact ⟨(World.cell?_of_block (ha10.turn.block G2 hG2lt hG2F)).trans hG2c, (World.cell?_of_block (ha10.turn.block bp hbpl hbpF9)).trans p0⟩)
                    (first
                      | (go_at_call 21; refine (HS.out).mono ?_; rintro e1 w10 ⟨rfl, F10, ha10⟩))
                  have hc10 : Ctx w1 w10 bp bs br F10 ((S1.sentOne ⟨X, nonce, st, k⟩).handle (doneB i V1.blk)) V2 := HC9.out.aft ⟨ha10.net, ((Turn.refl F9 wr).drew).trans ha10.turn (fun x hx => .inl hx), ha10.foot⟩
                  have HC10 : Hid _ := hc10
                  clear hc10 ha10
                  go_wp2_with fail
                  exact ⟨.inr ⟨rfl, F10, HC10.out⟩, by simp [intOf]⟩
                · obtain ⟨p0, p1⟩ := hc10.pair.cells
                  have HC10 : Hid _ := hc10
                  have HO3 : Hid (((S1.sentOne ⟨X, nonce, st, k⟩).handle (doneB i V1.blk)).l[i - 1]? = some ⟨.empty, 0, 3, ((k + 1 : Nat) : Int)⟩) := HI2.out.cur
                  clear hc10
                  go_wp2_with fail
                  refine (nStatus_eq _ (i - 1) HC10.out.net HO3.out (by omega)).mono ?_
                  rintro e1 w11 ⟨rfl, F11, ha11⟩
                  have hc11 := HC10.out.aft ha11
                  have HC11 : Hid _ := hc11
                  clear hc11 ha11
                  go_wp2_with fail
                  obtain ⟨m1, m2, m3⟩ := SV.handle_same (S1.sentOne ⟨X, nonce, st, k⟩) (doneB i V1.blk)
                  refine ⟨⟨k + 1, true, F11, _, V2, by go_num, rfl, ⟨HC11.out.turn ((Turn.refl [] w11).alloc _), m2.trans HLP.out.bud, m1.trans HLP.out.sblk, m3.trans (by show (S1.l.set S1.en _).length = 2; rw [List.length_set]; exact HLP.out.len), .inr ⟨rfl, HI2.out⟩⟩⟩, ?_⟩
                  simp [boolOf, intOf]
                  omega
    · have q0 : decide ((i : Int) ≤ 2) = false := by simp; omega
      obtain rfl : i = 3 := by omega
      have hen3 : S0.en = S0.l.length := by have h1 := HO.out.en; have h2 := HO.out.len; omega
      have HE3 : Hid _ := hen3
      clear hen3
      go_wp2_with fail
      refine (nTick_none HC0.out.net HE3.out).mono ?_
      rintro e1 w7 ⟨rfl, F7, ha7⟩
      have hc7 := HC0.out.aft ha7
      obtain ⟨p0, p1⟩ := hc7.pair.cells
      have HC7 : Hid _ := hc7
      clear hc7 ha7
      go_wp2_with fail
      refine (nTake_none HC7.out.net HO.out.ready).mono ?_
      rintro e1 w8 ⟨rfl, F8, ha8⟩
      have hc8 := HC7.out.aft ha8
      have HC8 : Hid _ := hc8
      clear hc8 ha8
      go_wp2_with fail
      go_ret
      exact ⟨rfl, HC8.out.bel⟩

end Go.Proofs.YtfbbidaoljfloaaDoor
