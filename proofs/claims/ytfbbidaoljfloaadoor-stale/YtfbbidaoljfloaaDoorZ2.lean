import Derived.Test.YtfbbidaoljfloaaDoorZ1
namespace Go.Proofs.YtfbbidaoljfloaaDoor
open Go.RowKit Go.MuLone

/-- The first object is sent, and nothing of it comes. -/
structure OldIn (w wr : World) (bp bs br : Nat) (F : List Nat) (blk n i : Nat) (A B : ByteArray) (one two : Int) (v : Value) : Prop where
  st : (i ≤ n ∧ ∃ s, Ctx w wr bp bs br F (⟨blk, n, 0, [⟨A, one, s, i⟩, ⟨B, two, 1, 0⟩]⟩ : SV) (RV.fresh blk) ∧ Strs wr F w.heap.size v (framesN 1 blk A one i)) ∨
    (i = n + 1 ∧ Ctx w wr bp bs br F (⟨blk, n, 1, [⟨.empty, 0, 4, n⟩, ⟨B, two, 1, 0⟩]⟩ : SV) (RV.fresh blk) ∧ Strs wr F w.heap.size v (framesN 1 blk A one n))
  ap : v.ownBlock ≠ some bp

structure StBase (w wr : World) (bp bs br : Nat) (F : List Nat) (S : SV) (V : RV) (go capo n blk : Nat) (A : ByteArray) (one : Int) (R : Nat) : Prop where
  ctx : Ctx w wr bp bs br F S V
  old : Strs wr F w.heap.size (.slice (some ⟨go, 0, none⟩) n capo) (framesN 1 blk A one n)
  x : Blk wr F R (.cells #[.int .i64 4, .int .i64 (n : Int)] 45)
  first : S.l[0]? = some ⟨.empty, 0, 4, n⟩
  d1 : V.dlv 1 = false
theorem StBase.aft {w wr w' : World} {bp bs br : Nat} {F F' : List Nat} {S S' : SV} {V V' : RV} {go capo n blk : Nat} {A : ByteArray} {one : Int} {R : Nat} (h : StBase w wr bp bs br F S V go capo n blk A one R) (ha : NAft wr w' bs br F F' S' V') (hf : S'.l[0]? = S.l[0]?) (hd : V'.dlv 1 = V.dlv 1) : StBase w w' bp bs br F' S' V' go capo n blk A one R :=
  ⟨h.ctx.aft ha, h.old.aft ha, h.x.aft ha, hf.trans h.first, hd.trans h.d1⟩
theorem StBase.turn {w wr w' : World} {bp bs br : Nat} {F : List Nat} {S : SV} {V : RV} {go capo n blk : Nat} {A : ByteArray} {one : Int} {R : Nat} (h : StBase w wr bp bs br F S V go capo n blk A one R) (ht : Turn [] wr w') : StBase w w' bp bs br F S V go capo n blk A one R :=
  ⟨h.ctx.turn ht, h.old.turn ht (by simp), h.x.turn ht (by simp), h.first, h.d1⟩
structure FreshL (w wr : World) (F : List Nat) (fv : Value) (bp go R num blk i : Nat) (B : ByteArray) (two : Int) : Prop where
  strs : Strs wr F w.heap.size fv (framesN num blk B two i)
  a1 : fv.ownBlock ≠ some bp
  a2 : fv.ownBlock ≠ some go
  a3 : fv.ownBlock ≠ some R
theorem StBase.grown {w wr w' : World} {bp bs br : Nat} {F : List Nat} {S : SV} {V : RV} {go capo n blk : Nat} {A : ByteArray} {one : Int} {R num i : Nat} {B : ByteArray} {two : Int} {fv : Value} (h : StBase w wr bp bs br F S V go capo n blk A one R) (hf : FreshL w wr F fv bp go R num blk i B two) (ht : Turn fv.ownBlock.toList wr w') : StBase w w' bp bs br F S V go capo n blk A one R :=
  ⟨h.ctx.grown hf.strs ht hf.a1, h.old.grown ht (fun k hk => by simp [Value.ownBlock] at hk; subst hk; exact hf.a2), h.x.grown ht hf.a3, h.first, h.d1⟩
theorem FreshL.aft {w wr w' : World} {bs br : Nat} {F F' : List Nat} {S' : SV} {V' : RV} {fv : Value} {bp go R num blk i : Nat} {B : ByteArray} {two : Int} (h : FreshL w wr F fv bp go R num blk i B two) (ha : NAft wr w' bs br F F' S' V') : FreshL w w' F' fv bp go R num blk i B two := ⟨h.strs.aft ha, h.a1, h.a2, h.a3⟩
theorem FreshL.turn {w wr w' : World} {F : List Nat} {fv : Value} {bp go R num blk i : Nat} {B : ByteArray} {two : Int} (h : FreshL w wr F fv bp go R num blk i B two) (ht : Turn [] wr w') : FreshL w w' F fv bp go R num blk i B two := ⟨h.strs.turn ht (by simp), h.a1, h.a2, h.a3⟩
/-- One frame more in the list. -/
theorem FreshL.more {w wr w' : World} {F : List Nat} {fv : Value} {bp go R num blk i g2 cap2 : Nat} {B : ByteArray} {two : Int} (h : FreshL w wr F fv bp go R num blk i B two) (hs : Strs w' F w.heap.size (.slice (some ⟨g2, 0, none⟩) ((framesN num blk B two i).length + 1) cap2) (framesN num blk B two i ++ [frameOf num blk ⟨B, two, 0, i⟩])) (hat : fv.ownBlock = some g2 ∨ g2 = wr.heap.size) (h1 : bp < wr.heap.size) (h2 : go < wr.heap.size) (h3 : R < wr.heap.size) : FreshL w w' F (.slice (some ⟨g2, 0, none⟩) ((framesN num blk B two i).length + 1) cap2) bp go R num blk (i + 1) B two := by
  rw [framesN_succ] at hs
  have key : ∀ k, fv.ownBlock ≠ some k → k < wr.heap.size → (Value.slice (some ⟨g2, 0, none⟩) ((framesN num blk B two i).length + 1) cap2).ownBlock ≠ some k := by
    intro k hk hl e
    obtain rfl : g2 = k := by simpa [Value.ownBlock] using e
    rcases hat with q | q
    · exact hk q
    · omega
  exact ⟨hs, key _ h.a1 h1, key _ h.a2 h2, key _ h.a3 h3⟩

structure StOpen (S : SV) (V : RV) (n blk i : Nat) (B : ByteArray) (two : Int) : Prop where
  inn : InObj S V 2 B two i []
  bud : S.bud = n
  blk : S.blk = blk
structure StShut (S : SV) (V : RV) (blk i : Nat) (B : ByteArray) (two : Int) : Prop where
  aft : AftObj (S.handle (doneB 2 blk)) V 2 B i []
  num : V.num = 2
  d2 : V.dlv 2 = true
  blk : V.blk = blk
  en : S.en = 1

structure LateIn (w wr : World) (bp bs br : Nat) (F : List Nat) (S : SV) (V : RV) (go capo n blk : Nat) (A : ByteArray) (one : Int) (R gf i capf : Nat) (B : ByteArray) (two : Int) (G2 Q1 : Nat) : Prop where
  base : StBase w wr bp bs br F S V go capo n blk A one R
  fresh : FreshL w wr F (.slice (some ⟨gf, 0, none⟩) i capf) bp go R 2 blk i B two
  g2 : Blk wr F G2 (.cells #[.string (strOf (doneB 2 blk))] 9 (0, 0))
  q1 : Blk wr F Q1 (.cells #[.int .i64 V.num, .int .i64 V.rnk, .int .i64 V.bks] 63)
theorem LateIn.aft {w wr w' : World} {bp bs br : Nat} {F F' : List Nat} {S S' : SV} {V : RV} {go capo n blk : Nat} {A : ByteArray} {one : Int} {R gf i capf : Nat} {B : ByteArray} {two : Int} {G2 Q1 : Nat} (h : LateIn w wr bp bs br F S V go capo n blk A one R gf i capf B two G2 Q1) (ha : NAft wr w' bs br F F' S' V) (hf : S'.l[0]? = S.l[0]?) : LateIn w w' bp bs br F' S' V go capo n blk A one R gf i capf B two G2 Q1 :=
  ⟨h.base.aft ha hf rfl, h.fresh.aft ha, h.g2.aft ha, h.q1.aft ha⟩
theorem LateIn.turn {w wr w' : World} {bp bs br : Nat} {F : List Nat} {S : SV} {V : RV} {go capo n blk : Nat} {A : ByteArray} {one : Int} {R gf i capf : Nat} {B : ByteArray} {two : Int} {G2 Q1 : Nat} (h : LateIn w wr bp bs br F S V go capo n blk A one R gf i capf B two G2 Q1) (ht : Turn [] wr w') : LateIn w w' bp bs br F S V go capo n blk A one R gf i capf B two G2 Q1 :=
  ⟨h.base.turn ht, h.fresh.turn ht, h.g2.turn ht (by simp), h.q1.turn ht (by simp)⟩
theorem LateIn.oldc {w wr : World} {bp bs br : Nat} {F : List Nat} {S : SV} {V : RV} {go capo n blk : Nat} {A : ByteArray} {one : Int} {R gf i capf : Nat} {B : ByteArray} {two : Int} {G2 Q1 : Nat} (h : LateIn w wr bp bs br F S V go capo n blk A one R gf i capf B two G2 Q1) {k : Nat} (hk : k < n) : wr.cell? ⟨go, k, none⟩ = some (.string (frameOf 1 blk ⟨A, one, 0, (k : Int)⟩)) :=
  owns_cell h.base.old.owns rfl (by simp [framesN_get 1 blk A one hk])
theorem LateIn.freshc {w wr : World} {bp bs br : Nat} {F : List Nat} {S : SV} {V : RV} {go capo n blk : Nat} {A : ByteArray} {one : Int} {R gf i capf : Nat} {B : ByteArray} {two : Int} {G2 Q1 : Nat} (h : LateIn w wr bp bs br F S V go capo n blk A one R gf i capf B two G2 Q1) {k : Nat} (hk : k < i) : wr.cell? ⟨gf, k, none⟩ = some (.string (frameOf 2 blk ⟨B, two, 0, (k : Int)⟩)) :=
  owns_cell h.fresh.strs.owns rfl (by simp [framesN_get 2 blk B two hk])

theorem SV.handle_other {S : SV} {bs : List Nat} {j : Nat} (h : j ≠ S.en) : (S.handle bs).l[j]? = S.l[j]? := by
  unfold SV.handle
  cases S.l[S.en]? with
  | none => rfl
  | some o =>
    simp only
    split
    · show (S.l.set S.en _)[j]? = _
      rw [List.getElem?_set_ne (Ne.symm h)]
    · rfl
theorem SV.handle_end {S : SV} {bs : List Nat} (h : S.l.length ≤ S.en) : S.handle bs = S := by
  unfold SV.handle
  rw [List.getElem?_eq_none h]

theorem pair_eq (blk bud : Nat) (num : Int) (w : World) (he : num = bud) (ht : Tab w) (h1 : 1 ≤ blk) (h2 : blk ≤ 32) (h3 : 1 ≤ bud) (h4 : bud ≤ 1000) :
    Calls Tryd.prog 15 #[.int .i64 blk, .int .i64 num] w fun e w' => ∃ bp bs br F, e = .returned (.tuple #[.pointer (some ⟨bp, 0, none⟩), .bool true]) ∧ Below w.heap.size w w' ∧ PairAt w' bp bs br ∧ Net w' bs br F (SV.fresh blk bud) (RV.fresh blk) ∧ (∀ g ∈ F, w.heap.size ≤ g) ∧ w.heap.size ≤ bp ∧ bp ∉ F := by
  subst he
  exact pair_any blk bud w ht h1 h2 h3 h4

set_option maxRecDepth 100000 in
set_option maxHeartbeats 4000000 in
theorem stale_any (block : Int) (a b : ByteArray) (one two : Int) (sl : Option Addr) (zs : List Int) (zcap : Nat) (w : World) (ht : Tab w) (h1 : -9223372036854775808 ≤ block) (h2 : block ≤ 9223372036854775807) (hz : Ints w sl zs) :
    Calls Tryd.prog 7 #[.int .i64 block, .string a, .string b, .int .u64 one, .int .u64 two, .slice sl zs.length zcap] w fun e w' => e = .returned (.bool true) ∧ Below w.heap.size w w' := by
  have hpos : 0 < w.heap.size := World.block_lt_of_cell? w _ (ht 0 0 rfl)
  have hnot := notOp
  have hzl := hz.len
  have HZ : Hid _ := hz
  clear hz
  go_enter Tryd.func7, Tryd.ntmps7
  go_wp2_with fail
  refine (bent_any block 1 32 _ h1 h2 (by omega) (by omega)).mono ?_
  rintro e1 w1 ⟨⟨blk, rfl, hb1, hb2⟩, rfl⟩
  go_wp2_with fail
  refine (fit_any a blk _ hb1 hb2).mono ?_
  rintro e1 w2 ⟨rfl, rfl⟩
  have hd1 := fitD_size a blk
  generalize fitD a blk = A at *
  go_wp2_with fail
  refine (fit_any b blk _ hb1 hb2).mono ?_
  rintro e1 w3 ⟨rfl, rfl⟩
  have hd2 := fitD_size b blk
  generalize fitD b blk = B at *
  have hK1 := blocksOf_pos A.size blk
  have hK2 := blocksOf_le A.size blk hb1 hd1
  have hL1 := blocksOf_pos B.size blk
  have hL2 := blocksOf_le B.size blk hb1 hd2
  go_wp2_with fail
  refine (blocks_any A blk _ hb1 hb2 hd1).mono ?_
  rintro e1 w4 ⟨rfl, rfl⟩
  go_wp2_with fail
  refine (blocks_any B blk _ hb1 hb2 hd2).mono ?_
  rintro e1 w5 ⟨rfl, rfl⟩
  go_upto_if 54 with fail
  go_cut [13] from 52 to 286 (fun v wx => ∃ n : Nat, v = .int .i64 n ∧ 4 ≤ n ∧ n ≤ 128 ∧ 4 * blocksOf B.size blk ≤ n ∧ wx = w5)
  case first =>
    by_cases hgt : blocksOf A.size blk < blocksOf B.size blk
    · have g1 : decide (4 * (blocksOf A.size blk : Int) < 4 * (blocksOf B.size blk : Int)) = true := by simp; omega
      go_wp2_with fail
      go_meet
      exact ⟨4 * blocksOf B.size blk, by congr 1, by omega, by omega, by omega, rfl⟩
    · have g1 : decide (4 * (blocksOf A.size blk : Int) < 4 * (blocksOf B.size blk : Int)) = false := by simp; omega
      go_wp2_with fail
      go_meet
      exact ⟨4 * blocksOf A.size blk, by congr 1, by omega, by omega, by omega, rfl⟩
  case rest =>
    obtain ⟨n, rfl, hn1, hn2, hnB, rfl⟩ := hcut
    obtain ⟨W0, hW0⟩ : ∃ W0, W0 = wc := ⟨_, rfl⟩
    subst hW0
    go_wp2_with fail
    refine (pair_any blk n _ ht hb1 hb2 (by omega) (by omega)).mono ?_
    rintro e1 w6 ⟨bp, bs, br, F, rfl, hbel, hpa, hnet, hnew, hbp, hbpF⟩
    have hctx : Ctx _ w6 bp bs br F _ _ := ⟨hnet, hpa, hbpF, hbel, hnew, hpos⟩
    obtain ⟨p0, p1⟩ := hpa.cells
    have HC : Hid _ := hctx
    clear hctx hnet hpa hbpF hbel hnew
    go_wp2_with fail
    refine (nSubmit A one HC.out.net hd1 (by simp [SV.fresh]) (by simp [SV.fresh, cntSt])).mono ?_
    rintro e1 w7 ⟨rfl, F7, ha7⟩
    have hc7 := HC.out.aft ha7
    obtain ⟨p0, p1⟩ := hc7.pair.cells
    have HC7 : Hid _ := hc7
    clear hc7 ha7 HC
    go_wp2_with fail
    refine (nSubmit B two HC7.out.net hd2 (by simp [SV.fresh]) (by simp [SV.fresh, cntSt])).mono ?_
    rintro e1 w8 ⟨rfl, F8, ha8⟩
    have hc8 := HC7.out.aft ha8
    have HC8 : Hid _ := hc8
    clear hc8 ha8 HC7 p0 p1
    go_wp2_with fail
    have HI : Hid (OldIn W0 w8 bp bs br F8 blk n 0 A B one two (.slice none 0 0)) := ⟨.inl ⟨by omega, 1, HC8.out, Strs.nil _ _ _⟩, by simp [Value.ownBlock]⟩
    go_loopw [21, 22] (fun lv v wr => ∃ (i : Nat) (F : List Nat), v = .int .i64 i ∧ OldIn W0 wr bp bs br F blk n i A B one two lv) (fun _ v _ => n + 1 - (intOf v).toNat)
    case atStart => exact ⟨0, F8, rfl, HI.out⟩
    case round =>
      obtain ⟨i, F1, rfl, hoi⟩ := hrel
      clear HC8 HI
      rcases hoi.st with ⟨hi, s1, hctx, hstr⟩ | ⟨hi, hctx, hstr⟩
      · obtain ⟨p0, p1⟩ := hctx.pair.cells
        obtain ⟨sl1, cap1, hv, hcap⟩ := hstr.shape
        have hap := hoi.ap
        rw [framesN_len] at hv hcap
        subst hv
        have HCT : Hid _ := hctx
        have HSR : Hid _ := hstr
        clear hoi hctx hstr
        have g1 : decide ((i : Int) ≤ (n : Int)) = true := by simp; omega
        by_cases hin : i < n
        · go_wp2_with fail
          refine (nTick_send HCT.out.net (o := ⟨A, one, s1, i⟩) rfl (by show (i : Int) < (n : Int); omega)).mono ?_
          rintro e1 w9 ⟨G, rfl, hG, hcG, F9, ha9, hGF⟩
          have hc9 := HCT.out.aft ha9
          have hs9 := HSR.out.aft ha9
          have hGc := (Blk.mk hcG hGF).one
          have hlt9 := hc9.net.lt
          have hsz9 := hc9.bel.size
          go_upto_region 16 with (at_builtin; refine wpList_strs _ rfl _ _ rfl _ _ hs9 rfl G 1 rfl _ hGc (by rw [framesN_len]; omega) hlt9 hsz9 ?_; intro g2 cap2 w10 hs10 ht10 hat10)
          have HC10 : Hid (Ctx W0 w10 bp bs br F9 (⟨blk, n, 0, [⟨A, one, 2, ((i + 1 : Nat) : Int)⟩, ⟨B, two, 1, 0⟩]⟩ : SV) (RV.fresh blk)) := hc9.grown hs9 ht10 hap
          have HS10 : Hid (Strs w10 F9 W0.heap.size (.slice (some ⟨g2, 0, none⟩) ((framesN 1 blk A one i).length + 1) cap2) (framesN 1 blk A one (i + 1))) := by
            rw [Hid, ← framesN_succ]; exact hs10
          have hap10 : (Value.slice (some ⟨g2, 0, none⟩) ((framesN 1 blk A one i).length + 1) cap2).ownBlock ≠ some bp := by
            intro e
            obtain rfl : g2 = bp := by simpa [Value.ownBlock] using e
            rcases hat10 with q | q
            · exact hap q
            · have := hc9.blk.lt; omega
          clear hc9 hs9 hGc hlt9 hsz9 hs10 ht10 hat10 ha9 hcG p0 p1
          go_wp2_with fail
          exact ⟨⟨i + 1, F9, by go_num, ⟨.inl ⟨by omega, 2, HC10.out, HS10.out⟩, hap10⟩⟩, by simp [intOf]; omega⟩
        · obtain rfl : i = n := by omega
          go_wp2_with fail
          refine (nTick_fail HCT.out.net (o := ⟨A, one, s1, i⟩) rfl rfl).mono ?_
          rintro e1 w9 ⟨rfl, F9, ha9⟩
          have hc9 := HCT.out.aft ha9
          have hs9 := HSR.out.aft ha9
          go_upto_region 16 with (at_builtin; refine wpList_strs_none _ rfl _ _ rfl _ _ hs9 rfl rfl ?_)
          have HC9 : Hid (Ctx W0 w9 bp bs br F9 (⟨blk, i, 1, [⟨.empty, 0, 4, i⟩, ⟨B, two, 1, 0⟩]⟩ : SV) (RV.fresh blk)) := hc9
          have HS9 : Hid _ := hs9
          clear hc9 hs9 ha9 p0 p1
          go_wp2_with fail
          exact ⟨⟨i + 1, F9, by go_num, ⟨.inr ⟨rfl, HC9.out, HS9.out⟩, hap⟩⟩, by simp [intOf]⟩
      · subst hi
        obtain ⟨p0, p1⟩ := hctx.pair.cells
        obtain ⟨go, capo, hv, hgo⟩ := hstr.get (framesN_get 1 blk A one (show 0 < n by omega))
        have hap := hoi.ap
        rw [framesN_len] at hv
        subst hv
        have hap' : go ≠ bp := fun e => hap (by rw [e]; rfl)
        have HCT : Hid _ := hctx
        have HSR : Hid _ := hstr
        clear hoi hctx hstr hgo hap
        have g1 : decide (((n + 1 : Nat) : Int) ≤ (n : Int)) = false := by simp; omega
        go_wp2_with fail
        refine (nStatus_eq _ 0 (o := ⟨.empty, 0, 4, n⟩) HCT.out.net rfl (by omega)).mono ?_
        rintro e1 w9 ⟨rfl, F9, ha9⟩
        have hc9 := HCT.out.aft ha9
        have hs9 := HSR.out.aft ha9
        obtain ⟨hc10, hX10⟩ := hc9.alloc_new (.cells #[.int .i64 4, .int .i64 (n : Int)] 45)
        have hs10 := hs9.turn ((Turn.refl [] w9).alloc (.cells #[.int .i64 4, .int .i64 (n : Int)] 45)) (by simp)
        have HC10 : Hid _ := hc10
        have HS10 : Hid _ := hs10
        have HX10 : Hid _ := hX10
        clear hc9 hs9 ha9 hc10 hs10 hX10 HCT HSR p0 p1
        go_wp2_with fail
        generalize hRR : w9.heap.size = R at *
        generalize w9.alloc (.cells #[.int .i64 4, .int .i64 (n : Int)] 45) = w10 at *
        clear hRR
        have HB : Hid (StBase W0 w10 bp bs br F9 (⟨blk, n, 1, [⟨.empty, 0, 4, n⟩, ⟨B, two, 1, 0⟩]⟩ : SV) (RV.fresh blk) go capo n blk A one R) := ⟨HC10.out, HS10.out, HX10.out, rfl, rfl⟩
        have HFL : Hid (FreshL W0 w10 F9 (.slice none 0 0) bp go R 2 blk 0 B two) := ⟨Strs.nil _ _ _, by simp [Value.ownBlock], by simp [Value.ownBlock], by simp [Value.ownBlock]⟩
        have HOP : Hid (StOpen (⟨blk, n, 1, [⟨.empty, 0, 4, n⟩, ⟨B, two, 1, 0⟩]⟩ : SV) (RV.fresh blk) n blk 0 B two) := ⟨⟨by omega, by omega, rfl, ⟨1, rfl⟩, rfl, rfl, hd2, Prog.start rfl (by show 0 < 2; omega), rfl, fun _ _ => rfl⟩, rfl, rfl⟩
        clear HC10 HS10 HX10
        go_loopw [25, 26, 27] (fun bv fv iv wr => ∃ (i : Nat) (F : List Nat) (S : SV) (V : RV), iv = .int .i64 i ∧ StBase W0 wr bp bs br F S V go capo n blk A one R ∧ FreshL W0 wr F fv bp go R 2 blk i B two ∧ ((bv = .slice none 0 0 ∧ StOpen S V n blk i B two) ∨ (∃ G2, bv = .slice (some ⟨G2, 0, none⟩) 1 1 ∧ 1 ≤ i ∧ i ≤ 128 ∧ Blk wr F G2 (.cells #[.string (strOf (doneB 2 blk))] 9 (0, 0)) ∧ StShut S V blk i B two))) (fun _ _ iv _ => n - (intOf iv).toNat)
        case atStart => exact ⟨0, F9, _, _, rfl, HB.out, HFL.out, .inl ⟨rfl, HOP.out⟩⟩
        case round =>
          obtain ⟨i, F11, S11, V11, rfl, hba, hfl, hst⟩ := hrel
          clear HB HFL HOP
          obtain ⟨p0, p1⟩ := hba.ctx.pair.cells
          obtain ⟨slf, capf, hvf, hcapf⟩ := hfl.strs.shape
          rw [framesN_len] at hvf hcapf
          subst hvf
          have HBA : Hid _ := hba
          have HFL : Hid _ := hfl
          clear hba hfl
          rcases hst with ⟨rfl, hop⟩ | ⟨G2, rfl, hi1, hi2, hG2, hsh⟩
          ·
            have hin := hop.inn
            obtain ⟨st, ho⟩ := hin.cur
            have hrok := HBA.out.ctx.net.rok
            have hvb : V11.blk = blk := by rw [← hin.blk]; exact hop.blk
            have hklt := hin.prog.lt hrok hin.fit
            rw [hvb] at hklt
            have hen := hin.en
            have hen1 : S11.en = 1 := by omega
            have hTe : frameOf (S11.en + 1) S11.blk ⟨B, two, st, i⟩ = frameOf 2 blk ⟨B, two, 0, i⟩ := by rw [hen1, hop.blk]; rfl
            have hstep := hin.step2 hrok ho
            have htick := nTick_send HBA.out.ctx.net ho (by rw [hop.bud]; show (i : Int) < (n : Int); omega)
            rw [hTe] at hstep htick
            rw [hvb] at hstep
            have hsm : (frameOf 2 blk ⟨B, two, 0, (i : Int)⟩).size ≤ 4611686018427387904 := frameOf_small _ _ _ hb2
            generalize hTT : frameOf 2 blk ⟨B, two, 0, (i : Int)⟩ = T at hstep htick hsm
            have HTT : Hid _ := hTT
            have HTK : Hid (Calls Tryd.prog 18 #[.pointer (some ⟨bs, 0, none⟩)] wr fun e w' => ∃ G, e = .returned (.slice (some ⟨G, 0, none⟩) 1 1) ∧ wr.heap.size ≤ G ∧ w'.heap[G]? = some (.cells #[.string T] 9 (0, 0)) ∧ ∃ F', NAft wr w' bs br F11 F' (S11.sentOne ⟨B, two, st, i⟩) V11 ∧ G ∉ F') := htick
            have HOP : Hid _ := hop
            have HSTEP : Hid _ := hstep
            have HO : Hid _ := ho
            have HVB : Hid _ := hvb
            clear hop hin hstep ho hvb hrok hTT htick hTe
            have g1 : decide ((i : Int) < (n : Int)) = true := by simp; omega
            go_wp2_with fail
            refine (HTK.out).mono ?_
            rintro e1 w12 ⟨G, rfl, hG, hcG, F12, ha12, hGF⟩
            have hsf : (S11.sentOne ⟨B, two, st, i⟩).l[0]? = S11.l[0]? := by
              show (S11.l.set S11.en _)[0]? = _
              rw [List.getElem?_set_ne (by omega)]
            have hba12 := HBA.out.aft ha12 hsf rfl
            have hfl12 := HFL.out.aft ha12
            have hGb := Blk.mk hcG hGF
            have hGnf : (Value.slice slf i capf).ownBlock ≠ some G := fun e => by have := owns_lt HFL.out.strs.owns e; omega
            have hgc := hGb.one
            have T13 : Turn [] w12 (w12.alloc (.cells #[.string T] 9)) := (Turn.refl [] w12).alloc _
            have hba13 := hba12.turn T13
            have hfl13 := hfl12.turn T13
            have hGb13 := hGb.turn T13 (by simp)
            have hN13 : (w12.alloc (.cells #[.string T] 9)).cell? ⟨w12.heap.size, 0, none⟩ = some (.string T) := by rw [cell_of_row _ _ _ _ _ _ (heap_alloc_new w12 _)]; rfl
            have hs13 := hfl13.strs
            have hlt13 := hba13.ctx.net.lt
            have hsz13 := hba13.ctx.bel.size
            clear ha12 hcG hGF
            go_upto_region 30 with (at_builtin; refine wpList_strs _ rfl _ _ rfl _ _ hs13 rfl w12.heap.size 1 rfl T hN13 (by rw [framesN_len]; omega) hlt13 hsz13 ?_; intro g2 cap2 w14 hs14 ht14 hat14)
            have HBA14 : Hid _ := hba13.grown hfl13 ht14
            have HFL14 : Hid _ := hfl13.more (by rw [HTT.out]; exact hs14) hat14 hba13.ctx.blk.lt (owns_lt hba13.old.owns rfl) hba13.x.lt
            have HGB14 : Hid _ := hGb13.grown ht14 hGnf
            clear hba12 hfl12 hGb hba13 hfl13 hGb13 hN13 hs13 hlt13 hsz13 hs14 ht14 hat14 T13 hgc p0 p1
            obtain ⟨p0, p1⟩ := HBA14.out.ctx.pair.cells
            have hGc := HGB14.out.one
            rcases HSTEP.out with ⟨V2, hV2, hin2, hdl⟩ | ⟨V2, hV2, haft2, hnum2, hdl2, hdlo, hblk2⟩
            · have HH : Hid (Calls Tryd.prog 20 #[.pointer (some ⟨br, 0, none⟩), .string T] w14.drew fun e w' => e = .returned (.slice none 0 0) ∧ ∃ F', NAft w14.drew w' bs br F12 F' (S11.sentOne ⟨B, two, st, i⟩) V2) := by
                refine (nHandle _ HBA14.out.ctx.net.drew hsm).mono ?_
                rintro e1 w9 ⟨F9, ha9, hans⟩
                rw [hV2] at ha9 hans
                exact ⟨hans.none_ rfl, F9, ha9⟩
              have HI2 : Hid _ := hin2
              have HDL : Hid _ := congrFun hdl 1
              clear hin2 hV2 hdl
              go_region_held3 (fun v => v.cell? ⟨G, 0, none⟩ = some (.string T) ∧ v.cell? ⟨bp, 1, none⟩ = some (.pointer (some ⟨br, 0, none⟩)))
                (first | exact ⟨hGc, p1⟩ | exact ⟨hGc15, hp15⟩)
                (first
                  | (go_at_call 20; refine (HH.out).mono ?_; rintro e1 w15 ⟨rfl, F15, ha15⟩; have hA15 := ha15.pre ((Turn.refl [] w14).drew); have hba15 := HBA14.out.aft hA15 rfl HDL.out; have hfl15 := HFL14.out.aft hA15; have hGc15 := (HGB14.out.aft hA15).one; have hp15 := hba15.ctx.pair.cells.2))
              have HBA15 : Hid _ := hba15
              have HFL15 : Hid _ := hfl15
              clear p0 p1 hGc hba15 hfl15 ha15 hA15 hGc15 hp15 HBA14 HFL14 HGB14
              go_wp2_with fail
              exact ⟨⟨i + 1, F15, _, V2, by go_num, HBA15.out, HFL15.out, .inl ⟨rfl, ⟨HI2.out, HOP.out.bud, HOP.out.blk⟩⟩⟩, by simp [intOf]; omega⟩
            · have HH : Hid (Calls Tryd.prog 20 #[.pointer (some ⟨br, 0, none⟩), .string T] w14.drew fun e w' => ∃ G2, e = .returned (.slice (some ⟨G2, 0, none⟩) 1 1) ∧ ∃ F', NAft w14.drew w' bs br F12 F' (S11.sentOne ⟨B, two, st, i⟩) V2 ∧ Blk w' F' G2 (.cells #[.string (strOf (doneB 2 blk))] 9 (0, 0))) := by
                refine (nHandle _ HBA14.out.ctx.net.drew hsm).mono ?_
                rintro e1 w9 ⟨F9, ha9, hans⟩
                rw [hV2] at ha9 hans
                obtain ⟨G2, g1, g2, g3, g4⟩ := hans.some_ _ rfl
                exact ⟨G2, g1, F9, ha9, g2, g4⟩
              have HSH : Hid (StShut (S11.sentOne ⟨B, two, st, i⟩) V2 blk (i + 1) B two) := ⟨haft2, hnum2, hdl2, hblk2, hen1⟩
              have HDL : Hid _ := hdlo 1 (by omega)
              clear haft2 hV2 hnum2 hdl2 hdlo hblk2
              go_region_held3 (fun v => v.cell? ⟨G, 0, none⟩ = some (.string T) ∧ v.cell? ⟨bp, 1, none⟩ = some (.pointer (some ⟨br, 0, none⟩)))
                (first | exact ⟨hGc, p1⟩ | exact ⟨hGc15, hp15⟩)
                (first
                  | (go_at_call 20; refine (HH.out).mono ?_; rintro e1 w15 ⟨G2, rfl, F15, ha15, hB15⟩; have hA15 := ha15.pre ((Turn.refl [] w14).drew); have hba15 := HBA14.out.aft hA15 rfl HDL.out; have hfl15 := HFL14.out.aft hA15; have hGc15 := (HGB14.out.aft hA15).one; have hp15 := hba15.ctx.pair.cells.2))
              have HBA15 : Hid _ := hba15
              have HFL15 : Hid _ := hfl15
              have HB15 : Hid _ := hB15
              clear p0 p1 hGc hba15 hfl15 ha15 hA15 hGc15 hp15 HBA14 HFL14 HGB14 hB15
              go_wp2_with fail
              exact ⟨⟨i + 1, F15, _, V2, by go_num, HBA15.out, HFL15.out, .inr ⟨G2, rfl, by omega, by omega, HB15.out, HSH.out⟩⟩, by simp [intOf]; omega⟩
          · have HG2 : Hid _ := hG2
            have HSH : Hid _ := hsh
            clear hG2 hsh
            go_upto_region 24 with fail
            go_cut [132] from 125 to 156 (fun v wx => v = .bool false ∧ wx = wr)
            case first =>
              by_cases hin : i < n
              · have g1 : decide ((i : Int) < (n : Int)) = true := by simp; omega
                go_wp2_with fail
                go_meet
                exact ⟨rfl, rfl⟩
              · have g1 : decide ((i : Int) < (n : Int)) = false := by simp; omega
                go_wp2_with fail
                go_meet
                exact ⟨rfl, rfl⟩
            case rest =>
              obtain ⟨rfl, rfl⟩ := hcut
              obtain ⟨W1, hW1⟩ : ∃ W1, W1 = wc := ⟨_, rfl⟩
              subst hW1
              have hrdy := HSH.out.aft.ready
              go_wp2_with fail
              refine (taken_any bp bs br 2 F11 S11 V11 B _ HBA.out.ctx.net HBA.out.ctx.pair hrdy).mono ?_
              rintro e1 w12 ⟨rfl, F12, ha12⟩
              have hba12 := HBA.out.aft ha12 rfl rfl
              have hfl12 := HFL.out.aft ha12
              have hG12 := HG2.out.aft ha12
              obtain ⟨p0, p1⟩ := hba12.ctx.pair.cells
              have HBA12 : Hid _ := hba12
              have HFL12 : Hid _ := hfl12
              have HG12 : Hid _ := hG12
              clear hba12 hfl12 hG12 ha12 HBA HFL HG2 hrdy
              go_wp2_with fail
              refine (nRank HBA12.out.ctx.net).mono ?_
              rintro e1 w13 ⟨rfl, F13, ha13⟩
              have T14 : Turn [] w13 (w13.alloc (.cells #[.int .i64 V11.num, .int .i64 V11.rnk, .int .i64 V11.bks] 63)) := (Turn.refl [] w13).alloc _
              have HBA14 : Hid _ := (HBA12.out.aft ha13 rfl rfl).turn T14
              have HFL14 : Hid _ := (HFL12.out.aft ha13).turn T14
              have HG14 : Hid _ := (HG12.out.aft ha13).turn T14 (by simp)
              have HR14 : Hid _ := ((HBA12.out.aft ha13 rfl rfl).ctx.alloc_new (.cells #[.int .i64 V11.num, .int .i64 V11.rnk, .int .i64 V11.bks] 63)).2
              clear ha13 T14 HBA12 HFL12 HG12 p0 p1
              go_wp2_with fail
              generalize w13.heap.size = Q1 at *
              generalize w13.alloc (.cells #[.int .i64 V11.num, .int .i64 V11.rnk, .int .i64 V11.bks] 63) = w14 at *
              obtain ⟨gf, capf', hvf, _⟩ := HFL14.out.strs.get (framesN_get 2 blk B two (show 0 < i by omega))
              rw [framesN_len] at hvf
              obtain ⟨rfl, rfl⟩ : slf = some ⟨gf, 0, none⟩ ∧ capf = capf' := by injection hvf with a b c; exact ⟨a, c⟩
              clear hvf
              have HV : Hid (({ V11 with ready := [] } : RV).num = 2 ∧ ({ V11 with ready := [] } : RV).dlv 2 = true ∧ ({ V11 with ready := [] } : RV).blk = blk ∧ ({ V11 with ready := [] } : RV).ready = [] ∧ ({ V11 with ready := [] } : RV).dlv 1 = false) := ⟨HSH.out.num, HSH.out.d2, HSH.out.blk, rfl, HBA14.out.d1⟩
              have HLI : Hid (LateIn W0 w14 bp bs br F13 S11 ({ V11 with ready := [] } : RV) go capo n blk A one R gf i capf B two G2 Q1) := ⟨HBA14.out, HFL14.out, HG14.out, HR14.out⟩
              have HAF : Hid ((S11.handle (doneB 2 blk)).en = 2 ∧ (S11.handle (doneB 2 blk)).l[1]? = some ⟨.empty, 0, 3, i⟩ ∧ (S11.handle (doneB 2 blk)).l[0]? = S11.l[0]? ∧ (S11.handle (doneB 2 blk)).l.length ≤ 2) := by
                refine ⟨HSH.out.aft.en, HSH.out.aft.cur, SV.handle_other (by rw [HSH.out.en]; omega), ?_⟩
                have := congrArg List.length HSH.out.aft.rest
                simp at this
                omega
              generalize ({ V11 with ready := [] } : RV) = V at *
              clear HBA14 HFL14 HG14 HR14 HSH
              have HP : Hid (∀ (k : Nat) (v : World) (F : List Nat), Net v bs br F S11 V → Calls Tryd.prog 20 #[.pointer (some ⟨br, 0, none⟩), .string (frameOf 1 blk ⟨A, one, 0, (k : Int)⟩)] v fun e w' => e = .returned (.slice none 0 0) ∧ ∃ F', NAft v w' bs br F F' S11 V) := fun k v F hv => by
                obtain ⟨q1, q2, q3, q4, q5⟩ := HV.out
                have hh := frame_past (num := 1) (row := Dz.rowOf one (blocksOf A.size V.blk) k) (data := A) hv.rok q5 (by omega) (by omega) (by omega) (by rw [q3]; exact hd1) (rowOf_ne _ _ _ (blocksOf_pos _ _)) (Dz.rowOf_lt _ _ _ (blocksOf_pos _ _))
                rw [q3, ← fText_frame 1 blk ⟨A, one, 0, (k : Int)⟩] at hh
                refine (nHandle _ hv (frameOf_small _ _ _ hb2)).mono ?_
                rintro e1 w9 ⟨F9, ha9, hans⟩
                rw [hh] at ha9 hans
                exact ⟨hans.none_ rfl, F9, ha9⟩
              have HL : Hid (∀ (k : Nat) (v : World) (F : List Nat), Net v bs br F S11 V → Calls Tryd.prog 20 #[.pointer (some ⟨br, 0, none⟩), .string (frameOf 2 blk ⟨B, two, 0, (k : Int)⟩)] v fun e w' => ∃ G, e = .returned (.slice (some ⟨G, 0, none⟩) 1 1) ∧ ∃ F', NAft v w' bs br F F' S11 V) := fun k v F hv => by
                obtain ⟨q1, q2, q3, q4, q5⟩ := HV.out
                have hh := frame_late (num := 2) (row := Dz.rowOf two (blocksOf B.size V.blk) k) (data := B) hv.rok q2 (by omega) (by omega) (by rw [q3]; exact hd2) (rowOf_ne _ _ _ (blocksOf_pos _ _)) (Dz.rowOf_lt _ _ _ (blocksOf_pos _ _))
                rw [q3, ← fText_frame 2 blk ⟨B, two, 0, (k : Int)⟩] at hh
                refine (nHandle _ hv (frameOf_small _ _ _ hb2)).mono ?_
                rintro e1 w9 ⟨F9, ha9, hans⟩
                rw [hh] at ha9 hans
                obtain ⟨G, g1, _⟩ := hans.some_ _ rfl
                exact ⟨G, g1, F9, ha9⟩
              go_loopw [30] (fun jv wr => ∃ (j : Nat) (F : List Nat), jv = .int .i64 j ∧ j ≤ zs.length ∧ LateIn W0 wr bp bs br F S11 V go capo n blk A one R gf i capf B two G2 Q1) (fun jv _ => zs.length - (intOf jv).toNat)
              case atStart => exact ⟨0, F13, rfl, Nat.zero_le _, HLI.out⟩
              case round =>
                obtain ⟨j, F15, rfl, hj, hli⟩ := hrel
                clear HLI
                have HLI : Hid _ := hli
                clear hli
                by_cases hjl : j < zs.length
                · have g1 : decide ((j : Int) < (zs.length : Int)) = true := by simp; omega
                  obtain ⟨x, hx⟩ : ∃ x, zs[j]? = some x := ⟨_, List.getElem?_eq_getElem hjl⟩
                  obtain ⟨aa, ha, hab, hac⟩ := HZ.out.at_ j x hx
                  obtain ⟨hx1, hx2⟩ := HZ.out.lo x (List.mem_of_getElem? hx)
                  subst ha
                  have j0 : (0 : Int) ≤ (j : Int) := by omega
                  have j1 : (j : Int) < (zs.length : Int) := by omega
                  have HZC : Hid (∀ v, Below W0.heap.size W0 v → v.cell? (aa.add j) = some (.int .i64 x)) := fun v hv => (hv.cell (by rw [addr_block]; exact hab)).trans hac
                  clear hx hac
                  have k1 := pickF_lt x (show 0 < n by omega)
                  have k2 := pickF_lt x (show 0 < i by omega)
                  have HPK1 : Hid (∀ v, Calls Tryd.prog 26 #[.int .i64 x, .int .i64 n] v fun e w' => e = .returned (.int .i64 (pickF x n)) ∧ w' = v) := fun v => pick_f x n n v rfl hx1 hx2 (by omega) (by omega)
                  have HPK2 : Hid (∀ v, Calls Tryd.prog 26 #[.int .i64 x, .int .i64 i] v fun e w' => e = .returned (.int .i64 (pickF x i)) ∧ w' = v) := fun v => pick_f x i i v rfl hx1 hx2 (by omega) (by omega)
                  have HOC : Hid (∀ v F, LateIn W0 v bp bs br F S11 V go capo n blk A one R gf i capf B two G2 Q1 → v.cell? ⟨go, pickF x n, none⟩ = some (.string (frameOf 1 blk ⟨A, one, 0, (pickF x n : Nat)⟩))) := fun v F hv => hv.oldc k1
                  have HFC : Hid (∀ v F, LateIn W0 v bp bs br F S11 V go capo n blk A one R gf i capf B two G2 Q1 → v.cell? ⟨gf, pickF x i, none⟩ = some (.string (frameOf 2 blk ⟨B, two, 0, (pickF x i : Nat)⟩))) := fun v F hv => hv.freshc k2
                  generalize pickF x n = c1 at *
                  generalize pickF x i = c2 at *
                  have hp1 : Hid _ := HP.out c1
                  have hl1 : Hid _ := HL.out c2
                  generalize frameOf 1 blk ⟨A, one, 0, (c1 : Int)⟩ = T1 at *
                  generalize frameOf 2 blk ⟨B, two, 0, (c2 : Int)⟩ = T2 at *
                  have m1 : (0 : Int) ≤ (c1 : Int) := by omega
                  have m2 : (c1 : Int) < (n : Int) := by omega
                  have m3 : (0 : Int) ≤ (c2 : Int) := by omega
                  have m4 : (c2 : Int) < (i : Int) := by omega
                  have s1 := HZC.out _ HLI.out.base.ctx.bel
                  have s2 := HLI.out.base.ctx.pair.cells.2
                  have s3 := HOC.out _ _ HLI.out
                  go_wp2_with fail
                  go_region_held3 (fun v => v.cell? (aa.add j) = some (.int .i64 x) ∧ v.cell? ⟨bp, 1, none⟩ = some (.pointer (some ⟨br, 0, none⟩)) ∧ v.cell? ⟨go, c1, none⟩ = some (.string T1))
                    (first | exact ⟨s1, s2, s3⟩ | exact ⟨t1, t2, t3⟩)
                    (first
                      | (go_at_call 26; refine (HPK1.out _).mono ?_; rintro e1 w16 ⟨rfl, rfl⟩)
                      | (go_at_call 20; refine (hp1.out _ _ HLI.out.base.ctx.net.drew).mono ?_; rintro e1 w17 ⟨rfl, F17, ha17⟩; have hA17 := ha17.pre ((Turn.refl [] _).drew); have hl17 := HLI.out.aft hA17 rfl; have t1 := HZC.out _ hl17.base.ctx.bel; have t2 := hl17.base.ctx.pair.cells.2; have t3 := HOC.out _ _ hl17))
                  have HLI17 : Hid _ := hl17
                  clear s1 s2 s3 t1 t2 t3 hl17 ha17 hA17 HLI
                  have s1 := HZC.out _ HLI17.out.base.ctx.bel
                  have s2 := HLI17.out.base.ctx.pair.cells.2
                  have s3 := HFC.out _ _ HLI17.out
                  go_wp2_with fail
                  go_region_held3 (fun v => v.cell? (aa.add j) = some (.int .i64 x) ∧ v.cell? ⟨bp, 1, none⟩ = some (.pointer (some ⟨br, 0, none⟩)) ∧ v.cell? ⟨gf, c2, none⟩ = some (.string T2))
                    (first | exact ⟨s1, s2, s3⟩ | exact ⟨t1, t2, t3⟩)
                    (first
                      | (go_at_call 26; refine (HPK2.out _).mono ?_; rintro e1 w18 ⟨rfl, rfl⟩)
                      | (go_at_call 20; refine (hl1.out _ _ HLI17.out.base.ctx.net.drew).mono ?_; rintro e1 w19 ⟨G3, rfl, F19, ha19⟩; have hA19 := ha19.pre ((Turn.refl [] _).drew); have hl19 := HLI17.out.aft hA19 rfl; have t1 := HZC.out _ hl19.base.ctx.bel; have t2 := hl19.base.ctx.pair.cells.2; have t3 := HFC.out _ _ hl19))
                  have HLI19 : Hid _ := hl19
                  clear s1 s2 s3 t1 t2 t3 hl19 ha19 hA19 HLI17
                  have s2 := HLI19.out.base.ctx.pair.cells.2
                  obtain ⟨r0, r1, r2⟩ := HLI19.out.q1.three
                  have HRK : Hid (∀ v F, Net v bs br F S11 V → Calls Tryd.prog 29 #[.pointer (some ⟨br, 0, none⟩)] v fun e w' => e = .returned (.agg #[.int .i64 V.num, .int .i64 V.rnk, .int .i64 V.bks]) ∧ ∃ F', NAft v w' bs br F F' S11 V) := fun v F hv => nRank hv
                  go_wp2_with fail
                  go_region_held3 (fun v => v.cell? ⟨bp, 1, none⟩ = some (.pointer (some ⟨br, 0, none⟩)) ∧ v.cell? ⟨Q1, 0, none⟩ = some (.int .i64 V.num) ∧ v.cell? ⟨Q1, 1, none⟩ = some (.int .i64 V.rnk) ∧ v.cell? ⟨Q1, 2, none⟩ = some (.int .i64 V.bks))
                    (first | exact ⟨s2, r0, r1, r2⟩ | exact ⟨t2, t3⟩)
                    (first
                      | (go_at_call 29; refine (HRK.out _ _ HLI19.out.base.ctx.net.drew).mono ?_; rintro e1 w20 ⟨rfl, F20, ha20⟩; have hA20 := ha20.pre ((Turn.refl [] _).drew); have hl20 := HLI19.out.aft hA20 rfl; have t2 := hl20.base.ctx.pair.cells.2; have t3 := hl20.q1.three))
                  have HLI20 : Hid _ := hl20
                  clear s2 r0 r1 r2 t2 t3 hl20 ha20 hA20 HLI19
                  go_wp2_with fail
                  exact ⟨⟨j + 1, F20, by go_num, by omega, HLI20.out⟩, by simp [intOf]; omega⟩
                · obtain rfl : j = zs.length := by omega
                  have g1 : decide ((zs.length : Int) < (zs.length : Int)) = false := by simp
                  obtain ⟨v1, v2, v3, v4, v5⟩ := HV.out
                  obtain ⟨f1, f2, f3, f4⟩ := HAF.out
                  have HF2 : Hid _ := f2
                  have HF3 : Hid _ := f3
                  have HF4 : Hid ((S11.handle (doneB 2 blk)).handle (doneB 2 blk) = S11.handle (doneB 2 blk)) := SV.handle_end (by rw [f1]; exact f4)
                  have HV4 : Hid _ := v4
                  clear v1 v2 v3 v4 v5 f1 f2 f3 f4
                  have s2 := HLI.out.base.ctx.pair.cells.2
                  go_wp2_with fail
                  refine (nTake_none HLI.out.base.ctx.net HV4.out).mono ?_
                  rintro e1 w16 ⟨rfl, F16, ha16⟩
                  have HLI16 : Hid _ := HLI.out.aft ha16 rfl
                  clear s2 ha16 HLI
                  go_wp2_with fail
                  have s1 := HLI16.out.base.ctx.pair.cells.1
                  have s3 := HLI16.out.g2.one
                  have HSH1 : Hid (∀ v F S, Net v bs br F S V → Calls Tryd.prog 21 #[.pointer (some ⟨bs, 0, none⟩), .string (strOf (doneB 2 blk))] v fun e w' => e = .returned (.tuple #[]) ∧ ∃ F', NAft v w' bs br F F' (S.handle (doneB 2 blk)) V) := fun v F S hv => by
                    have := nSHandle (strOf (doneB 2 blk)) hv
                    rw [bytesOf_strOf _ (doneB_lt _ _)] at this
                    exact this
                  go_region_held3 (fun v => v.cell? ⟨G2, 0, none⟩ = some (.string (strOf (doneB 2 blk))) ∧ v.cell? ⟨bp, 0, none⟩ = some (.pointer (some ⟨bs, 0, none⟩)))
                    (first | exact ⟨s3, s1⟩ | exact ⟨t3, t1⟩)
                    (first
                      | (go_at_call 21; refine (HSH1.out _ _ _ HLI16.out.base.ctx.net.drew).mono ?_; rintro e1 w17 ⟨rfl, F17, ha17⟩; have hA17 := ha17.pre ((Turn.refl [] _).drew); have hl17 := HLI16.out.aft hA17 HF3.out; have t1 := hl17.base.ctx.pair.cells.1; have t3 := hl17.g2.one))
                  have HLI17 : Hid _ := hl17
                  clear s1 s3 t1 t3 hl17 ha17 hA17 HLI16
                  have s1 := HLI17.out.base.ctx.pair.cells.1
                  go_wp2_with fail
                  refine (nStatus_eq _ 1 HLI17.out.base.ctx.net HF2.out (by omega)).mono ?_
                  rintro e1 w18 ⟨rfl, F18, ha18⟩
                  have hl18 := HLI17.out.aft ha18 rfl
                  have HY19 : Hid _ := (hl18.base.ctx.alloc_new (.cells #[.int .i64 3, .int .i64 (i : Int)] 45)).2
                  have HLI19 : Hid _ := hl18.turn ((Turn.refl [] w18).alloc (.cells #[.int .i64 3, .int .i64 (i : Int)] 45))
                  clear s1 hl18 ha18 HLI17
                  go_wp2_with fail
                  generalize w18.heap.size = Y1 at *
                  generalize w18.alloc (.cells #[.int .i64 3, .int .i64 (i : Int)] 45) = w19 at *
                  have s1 := HLI19.out.base.ctx.pair.cells.1
                  have s3 := HLI19.out.g2.one
                  go_region_held3 (fun v => v.cell? ⟨G2, 0, none⟩ = some (.string (strOf (doneB 2 blk))) ∧ v.cell? ⟨bp, 0, none⟩ = some (.pointer (some ⟨bs, 0, none⟩)))
                    (first | exact ⟨s3, s1⟩ | exact ⟨t3, t1⟩)
                    (first
                      | (go_at_call 21; refine (HSH1.out _ _ _ HLI19.out.base.ctx.net.drew).mono ?_; rintro e1 w20 ⟨rfl, F20, ha20⟩; rw [HF4.out] at ha20; have hA20 := ha20.pre ((Turn.refl [] _).drew); have hl20 := HLI19.out.aft hA20 rfl; have t1 := hl20.base.ctx.pair.cells.1; have t3 := hl20.g2.one; have hy20 := HY19.out.aft hA20))
                  have HLI20 : Hid _ := hl20
                  have HY20 : Hid _ := hy20
                  clear s1 s3 t1 t3 hl20 ha20 hA20 hy20 HLI19 HY19
                  have s1 := HLI20.out.base.ctx.pair.cells.1
                  go_wp2_with fail
                  refine (nStatus_eq _ 0 HLI20.out.base.ctx.net HLI20.out.base.first (by omega)).mono ?_
                  rintro e1 w21 ⟨rfl, F21, ha21⟩
                  have hl21 := HLI20.out.aft ha21 rfl
                  have hy21 := HY20.out.aft ha21
                  have T22 : Turn [] w21 (w21.alloc (.cells #[.int .i64 4, .int .i64 (n : Int)] 45)) := (Turn.refl [] w21).alloc _
                  have hz22 := (hl21.base.ctx.alloc_new (.cells #[.int .i64 4, .int .i64 (n : Int)] 45)).2
                  have hl22 := hl21.turn T22
                  have hy22 := hy21.turn T22 (by simp)
                  obtain ⟨y0, y1⟩ := hy22.two
                  obtain ⟨z0, z1⟩ := hz22.two
                  obtain ⟨x0, x1⟩ := hl22.base.x.two
                  have HB22 : Hid _ := hl22.base.ctx.bel
                  clear s1 hl21 hl22 hy21 hy22 hz22 T22 ha21 HLI20 HY20
                  go_wp2_with fail
                  go_ret
                  exact ⟨rfl, HB22.out⟩

end Go.Proofs.YtfbbidaoljfloaaDoor
