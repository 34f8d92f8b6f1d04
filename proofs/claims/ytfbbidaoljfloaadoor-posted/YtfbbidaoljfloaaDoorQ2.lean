import Derived.Test.YtfbbidaoljfloaaDoorQ1
namespace Go.Proofs.YtfbbidaoljfloaaDoor
open Go.RowKit Go.MuLone

theorem strEq (s t : ByteArray) : (s.toList == t.toList) = decide (bytesOf s = bytesOf t) := by
  have := str_eq (ns := bytesOf s) (t := t) (bytesOf_lt s)
  rw [strOf_bytesOf] at this
  exact this
theorem TextsIn.below {w w' : World} {sl : Option Addr} {ts : List ByteArray} (h : TextsIn w sl ts) (hb : Below w.heap.size w w') : TextsIn w' sl ts :=
  ⟨fun i x hx => by
    obtain ⟨a, q1, q2, q3⟩ := h.at_ i x hx
    exact ⟨a, q1, Nat.lt_of_lt_of_le q2 hb.size, (hb.cell (by rw [show (a.add i).block = a.block by unfold Addr.add; split <;> rfl]; exact q2)).trans q3⟩, h.sz, h.len⟩
theorem addr_blk (a : Addr) (i : Nat) : (a.add i).block = a.block := by unfold Addr.add; split <;> rfl
structure P1 (w wr : World) (br : Nat) (F : List Nat) (blk : Nat) (ts : List ByteArray) (i : Nat) (tv : Value) (l : List Value) : Prop where
  x : XRv wr br F (stV blk (ts.take i))
  told : Told wr F w.heap.size tv blk ts l
  bel : Below w.heap.size w wr
  new : ∀ g ∈ F, w.heap.size ≤ g
  len : l.length = i
  pos : 0 < w.heap.size
theorem NAns.kept {w w' : World} {F' : List Nat} {e : Ending} {a : Option (List Nat)} (h : NAns w w' F' e a) {B : Nat} {tv : Value} (hB : B ≤ w.heap.size) (ht : ∀ k, tv.ownBlock = some k → k < w.heap.size) : ∃ v, e = .returned v ∧ Kept w' F' B tv v a := by
  cases a with
  | none => exact ⟨_, h.none_ rfl, fun _ => rfl, fun d hd => by cases hd⟩
  | some d =>
    obtain ⟨G, q1, q2, q3, q4⟩ := h.some_ d rfl
    exact ⟨_, q1, (fun hh => by cases hh), fun d2 hd => by
      obtain rfl : d = d2 := by simpa using hd
      exact ⟨G, rfl, q2, by omega, q4, fun e2 => by have := ht G e2; omega⟩⟩
theorem Kept.shape {w : World} {F : List Nat} {B : Nat} {tv v : Value} {a : Option (List Nat)} (h : Kept w F B tv v a) : ∃ o n c, v = .slice o n c := by
  cases a with
  | none => exact ⟨_, _, _, h.none_ rfl⟩
  | some d => obtain ⟨G, q, _⟩ := h.some_ d rfl; exact ⟨_, _, _, q⟩
theorem P1.grown {w w5 w6 w7 : World} {br : Nat} {F : List Nat} {blk : Nat} {ts : List ByteArray} {i g cap : Nat} {tv v : Value} {l : List Value} (hx : XRv w5 br F (stV blk (ts.take (i + 1)))) (ht : Told w5 F w.heap.size tv blk ts l) (hk : Kept w5 F w.heap.size tv v (ansV blk ts l.length)) (hb : Below w.heap.size w w5) (hn : ∀ g ∈ F, w.heap.size ≤ g) (hl : l.length = i) (hp : 0 < w.heap.size) (T6 : Turn [] w5 w6) (hv : Vals w7 F w.heap.size (.slice (some ⟨g, 0, none⟩) (l.length + 1) cap) (l ++ [v])) (T7 : Turn tv.ownBlock.toList w6 w7) (hat : tv.ownBlock = some g ∨ g = w6.heap.size) : P1 w w7 br F blk ts (i + 1) (.slice (some ⟨g, 0, none⟩) (i + 1) cap) (l ++ [v]) := by
  have o := ht.vals.out
  subst hl
  have hb6 : Below w.heap.size w w6 := hb.trans (T6.toBelow hb.size (by simp))
  exact ⟨(hx.turn T6 (by simp) (by simp)).turn T7 (fun g hg hm => (o g (by simpa using hm)).1 hg) (fun hm => by have := (o 0 (by simpa using hm)).2; omega), (ht.turn T6).more (hk.turn T6) hv T7 hat, hb6.trans (T7.toBelow hb6.size (fun x hx => (o x (by simpa using hx)).2)), hn, by simp, hp⟩
theorem P1.handled {w wr w' : World} {br : Nat} {F F' : List Nat} {blk : Nat} {ts : List ByteArray} {i : Nat} {tv : Value} {l : List Value} {t : ByteArray} {e : Ending} (h : P1 w wr br F blk ts i tv l) (ht : ts[i]? = some t) (ha : XAft wr w' br F F' ((stV blk (ts.take i)).handle (bytesOf t)).1) (hn : NAns wr w' F' e ((stV blk (ts.take i)).handle (bytesOf t)).2) :
    ∃ v, e = .returned v ∧ XRv w' br F' (stV blk (ts.take (i + 1))) ∧ Told w' F' w.heap.size tv blk ts l ∧ Kept w' F' w.heap.size tv v (ansV blk ts l.length) ∧ Below w.heap.size w w' ∧ (∀ g ∈ F', w.heap.size ≤ g) := by
  rw [ansV_eq ht] at hn
  rw [stV_succ ht] at ha
  obtain ⟨v, hv, hk⟩ := hn.kept (B := w.heap.size) (tv := tv) h.bel.size (fun k hk => owns_lt h.told.vals.owns hk)
  refine ⟨v, hv, ha.x, h.told.aft ha, by rw [h.len]; exact hk, h.bel.trans (ha.turn.toBelow h.bel.size h.new), fun g hg => ?_⟩
  rcases ha.foot g hg with q | q
  · exact h.new g q
  · have := h.bel.size; omega

set_option maxRecDepth 100000 in
set_option maxHeartbeats 4000000 in
theorem posted_any (block : Int) (a : ByteArray) (one : Int) (sl : Option Addr) (ts : List ByteArray) (tcap : Nat) (w : World) (ht : Tab w) (h1 : -9223372036854775808 ≤ block) (h2 : block ≤ 9223372036854775807) (hz : TextsIn w sl ts) :
    Calls Tryd.prog 8 #[.int .i64 block, .string a, .int .u64 one, .slice sl ts.length tcap] w fun e w' => e = .returned (.bool true) ∧ Below w.heap.size w w' := by
  have hpos : 0 < w.heap.size := World.block_lt_of_cell? w _ (ht 0 0 rfl)
  have hnot := notOp
  have hzl := hz.len
  have HZ : Hid _ := hz
  clear hz
  go_enter Tryd.func8, Tryd.ntmps8
  go_wp2_with fail
  refine (bent_any block 1 32 _ h1 h2 (by omega) (by omega)).mono ?_
  rintro e1 w1 ⟨⟨blk, rfl, hb1, hb2⟩, rfl⟩
  go_wp2_with fail
  refine (fit_any a blk _ hb1 hb2).mono ?_
  rintro e1 w2 ⟨rfl, rfl⟩
  have hd1 := fitD_size a blk
  generalize fitD a blk = A at *
  go_wp2_with fail
  have hg : goodB blk 1000 = true := by unfold goodB; simp; omega
  refine (xNew blk 1000 _ ht hg).mono ?_
  rintro e1 w3 ⟨br, rfl, hb3, hbr3, hx3⟩
  have HB3 : Hid (Below w2.heap.size w2 w3) := hb3
  have HX3 : Hid (XRv w3 br [br] (RV.fresh blk)) := hx3
  clear hb3 hx3 hg
  go_wp2_with fail
  go_loopw [11, 12] (fun tv iv wr => ∃ (i : Nat) (F : List Nat) (l : List Value), iv = .int .i64 i ∧ i ≤ ts.length ∧ i ≤ 200 ∧ P1 w2 wr br F blk ts i tv l) (fun _ iv _ => 200 - (intOf iv).toNat)
  case atStart => exact ⟨0, [br], [], rfl, Nat.zero_le _, by omega, ⟨HX3.out, Told.nil _ _ _ _ _, HB3.out, by simpa using hbr3, rfl, hpos⟩⟩
  case round =>
    obtain ⟨i, F4, l, rfl, hi1, hi2, hp⟩ := hrel
    obtain ⟨slt, capt, rfl, hcap⟩ := hp.told.vals.shape
    have hlen := hp.len
    rw [hlen]
    rw [hlen] at hp hcap
    have HP : Hid _ := hp
    clear hp
    by_cases hjl : i < ts.length ∧ i < 200
    · obtain ⟨t, hx⟩ : ∃ t, ts[i]? = some t := ⟨_, List.getElem?_eq_getElem hjl.1⟩
      obtain ⟨aa, ha, hab, hac⟩ := HZ.out.at_ i t hx
      have htm := HZ.out.sz t (List.mem_of_getElem? hx)
      subst ha
      have g1 : decide ((i : Int) < (ts.length : Int)) = true := by simp; omega
      have g2 : decide ((i : Int) < 200) = true := by simp; omega
      have j0 : (0 : Int) ≤ (i : Int) := by omega
      have j1 : (i : Int) < (ts.length : Int) := by omega
      have s1 : wr.cell? (aa.add i) = some (.string t) := (HP.out.bel.cell (by rw [addr_blk]; exact hab)).trans hac
      go_wp2_with fail
      refine (xHandle t HP.out.x (by omega)).mono ?_
      rintro e1 w5 ⟨F5, ha5, hans⟩
      obtain ⟨v, rfl, hx5, ht5, hk5, hb5, hn5⟩ := HP.out.handled hx ha5 hans
      obtain ⟨vo, vn, vc, rfl⟩ := hk5.shape
      have T6 : Turn [] w5 (w5.alloc (.cells #[.slice vo vn vc] 38)) := (Turn.refl [] w5).alloc _
      have hN6 : (w5.alloc (.cells #[.slice vo vn vc] 38)).cell? ⟨w5.heap.size, 0, none⟩ = some (.slice vo vn vc) := by rw [cell_of_row _ _ _ _ _ _ (heap_alloc_new w5 _)]; rfl
      have hv6 := (ht5.turn T6).vals
      have hlt6 := (hx5.turn T6 (by simp) (by simp)).lt
      have hsz6 := (hb5.trans (T6.toBelow hb5.size (by simp))).size
      go_upto_region 9 with (at_builtin; (refine wpList_vals _ rfl _ _ rfl _ _ hv6 rfl w5.heap.size 1 rfl _ rfl hN6 (by omega) hlt6 hsz6 ?_; intro g2 cap2 w7 hv7 ht7 hat7))
      have HP7 : Hid _ := P1.grown hx5 ht5 hk5 hb5 hn5 hlen hpos T6 hv7 ht7 hat7
      clear hx5 ht5 hk5 hb5 ha5 hans HP T6 hN6 hv6 hlt6 hsz6 hv7 ht7 hat7
      go_wp2_with fail
      exact ⟨⟨i + 1, F5, _, by go_num, by omega, by omega, HP7.out⟩, by simp [intOf]; omega⟩
    · go_upto_region 8 with fail
      go_cut [53] from 46 to 65 (fun v wx => v = .bool false ∧ wx = wr)
      case first =>
        by_cases hin : i < ts.length
        · have g1 : decide ((i : Int) < (ts.length : Int)) = true := by simp; omega
          have g2 : decide ((i : Int) < 200) = false := by simp; omega
          go_wp2_with fail
          go_meet
          exact ⟨rfl, rfl⟩
        · have g1 : decide ((i : Int) < (ts.length : Int)) = false := by simp; omega
          go_wp2_with fail
          go_meet
          exact ⟨rfl, rfl⟩
      case rest =>
        obtain ⟨rfl, rfl⟩ := hcut
        obtain ⟨W1, hW1⟩ : ∃ W1, W1 = wc := ⟨_, rfl⟩
        subst hW1
        go_wp2_with fail
        refine (xRank HP.out.x).mono ?_
        rintro e1 w5 ⟨rfl, F5, ha5⟩
        have T6 : Turn [] w5 (w5.alloc (.cells #[.int .i64 (stV blk (ts.take i)).num, .int .i64 (stV blk (ts.take i)).rnk, .int .i64 (stV blk (ts.take i)).bks] 63)) := (Turn.refl [] w5).alloc _
        have hx6 := ha5.x.turn T6 (by simp) (by simp)
        have ht6 := (HP.out.told.aft ha5).turn T6
        have hb5 := HP.out.bel.trans (ha5.turn.toBelow HP.out.bel.size HP.out.new)
        have hb6 := hb5.trans (T6.toBelow hb5.size (by simp))
        have hr6 := heap_alloc_new w5 (.cells #[.int .i64 (stV blk (ts.take i)).num, .int .i64 (stV blk (ts.take i)).rnk, .int .i64 (stV blk (ts.take i)).bks] 63)
        have hn5 : ∀ g ∈ F5, w2.heap.size ≤ g := fun g hg => by
          rcases ha5.foot g hg with q | q
          · exact HP.out.new g q
          · have := HP.out.bel.size; omega
        have hrF : w5.heap.size ∉ F5 := fun hm => by have := ha5.x.lt _ hm; omega
        generalize hR0 : w5.heap.size = R0 at *
        have HX6 : Hid _ := hx6
        have HT6 : Hid _ := ht6
        have HB6 : Hid _ := hb6
        have HR6 : Hid _ := hr6
        clear hx6 ht6 hb5 hb6 hr6 T6 ha5 HP
        go_wp2_with fail
        generalize w5.alloc (.cells #[.int .i64 (stV blk (ts.take i)).num, .int .i64 (stV blk (ts.take i)).rnk, .int .i64 (stV blk (ts.take i)).bks] 63) = w6 at *
        clear hR0
        refine (xTake HX6.out).mono ?_
        rintro e1 w7 ⟨rfl, F7, V7, ha7⟩
        have hb7 := HB6.out.trans (ha7.turn.toBelow HB6.out.size hn5)
        have ht7 := HT6.out.aft ha7
        have hr7 := (ha7.turn.block R0 (lt_of_heap HR6.out) hrF).trans HR6.out
        have htab7 := ha7.x.tab
        have HB7 : Hid _ := hb7
        have HT7 : Hid _ := ht7
        have HR7 : Hid _ := hr7
        clear hb7 ht7 hr7 ha7 HX6 HT6 HB6 HR6 hn5 hrF
        go_wp2_with fail
        refine (whole_any 4 _ _ 1 2 _ htab7 (by omega) (by omega)).mono ?_
        rintro e1 w8 ⟨rfl, hb8⟩
        have T8 := Turn.below (S := []) hb8 (Nat.le_refl _)
        have htab8 := htab7.turn T8 (by simp)
        have HB8 : Hid (Below w2.heap.size w2 w8) := HB7.out.trans (hb8.mono HB7.out.size)
        have HT8 : Hid (Told w8 F7 w2.heap.size (.slice slt i capt) blk ts l) := HT7.out.turn T8
        have HR8 : Hid (w8.heap[R0]? = some (.cells #[.int .i64 (stV blk (ts.take i)).num, .int .i64 (stV blk (ts.take i)).rnk, .int .i64 (stV blk (ts.take i)).bks] 63)) := (T8.block R0 (lt_of_heap HR7.out) (by simp)).trans HR7.out
        clear HB7 HT7 HR7 hb8 T8 htab7
        go_wp2_with fail
        refine (pair_any blk 1000 _ htab8 hb1 hb2 (by omega) (by omega)).mono ?_
        rintro e1 w9 ⟨bp, bs, bq, F9, rfl, hbel, hpa, hnet, hnew, hbp, hbpF⟩
        have hpos8 : 0 < w8.heap.size := World.block_lt_of_cell? w8 _ (htab8 0 0 rfl)
        have hctx : Ctx w8 w9 bp bs bq F9 _ _ := ⟨hnet, hpa, hbpF, hbel, hnew, hpos8⟩
        obtain ⟨p0, p1⟩ := hpa.cells
        have HC : Hid _ := hctx
        clear hctx hnet hpa hbpF hbel hnew
        go_wp2_with fail
        refine (nSubmit A one HC.out.net hd1 (by simp [SV.fresh]) (by simp [SV.fresh, cntSt])).mono ?_
        rintro e1 w10 ⟨rfl, F10, ha10⟩
        have HC10 : Hid (Ctx w8 w10 bp bs bq F10 (⟨blk, 1000, 0, [⟨A, one, 1, 0⟩]⟩ : SV) (stV blk (ts.take 0))) := HC.out.aft ha10
        clear ha10 HC p0 p1
        go_wp2_with fail
        go_loopw [21] (fun jv wr => ∃ (j : Nat) (st : Int) (F : List Nat), jv = .int .i64 j ∧ j ≤ i ∧ Ctx w8 wr bp bs bq F (⟨blk, 1000, 0, [⟨A, one, st, j⟩]⟩ : SV) (stV blk (ts.take j))) (fun jv _ => i - (intOf jv).toNat)
        case atStart => exact ⟨0, 1, F10, rfl, Nat.zero_le _, HC10.out⟩
        case round =>
          obtain ⟨j, st, F11, rfl, hj, hc11⟩ := hrel
          clear HC10
          obtain ⟨p0, p1⟩ := hc11.pair.cells
          have HC : Hid _ := hc11
          clear hc11
          by_cases hjl : j < i
          · have g1 : decide ((j : Int) < (i : Int)) = true := by simp; omega
            obtain ⟨t, hx⟩ : ∃ t, ts[j]? = some t := ⟨_, List.getElem?_eq_getElem (by omega)⟩
            obtain ⟨aa, ha, hab, hac⟩ := (HZ.out.below HB8.out).at_ j t hx
            subst ha
            obtain ⟨v, hv⟩ : ∃ v, l[j]? = some v := ⟨_, List.getElem?_eq_getElem (by omega)⟩
            obtain ⟨gt, capt2, hsl, hgt, hcv⟩ := HT8.out.vals.get hv
            have hkv := HT8.out.kept j v hv
            obtain ⟨rfl, rfl⟩ : slt = some ⟨gt, 0, none⟩ ∧ capt = capt2 := by injection hsl with a b c; exact ⟨a, c⟩
            have j0 : (0 : Int) ≤ (j : Int) := by omega
            have j1 : (j : Int) < (ts.length : Int) := by omega
            have j2 : (j : Int) < (i : Int) := by omega
            have HZC : Hid (∀ v, Below w8.heap.size w8 v → v.cell? (aa.add j) = some (.string t)) := fun v hv => (hv.cell (by rw [addr_blk]; exact hab)).trans hac
            have HVC : Hid (∀ u, Below w8.heap.size w8 u → u.cell? ⟨gt, j, none⟩ = some v) := fun u hu => (hu.cell hgt).trans hcv
            have HKV : Hid _ := hkv
            clear hsl hkv hcv hac
            go_wp2_with fail
            refine (nTick_send HC.out.net (o := ⟨A, one, st, j⟩) rfl (by show (j : Int) < ((1000 : Nat) : Int); omega)).mono ?_
            rintro e1 w12 ⟨G, rfl, hG, hcG, F12, ha12, hGF⟩
            have hsm := frameOf_small 1 blk ⟨A, one, st, j⟩ hb2
            have hcG1 : w12.heap[G]? = some (.cells #[.string (frameOf 1 blk ⟨A, one, st, (j : Int)⟩)] 9 (0, 0)) := hcG
            have HC12 : Hid (Ctx w8 w12 bp bs bq F12 (⟨blk, 1000, 0, [⟨A, one, 2, ((j + 1 : Nat) : Int)⟩]⟩ : SV) (stV blk (ts.take j))) := HC.out.aft ha12
            have HG12 : Hid (Blk w12 F12 G _) := Blk.mk hcG1 hGF
            clear hcG hcG1 hGF hG ha12 HC p0 p1
            generalize frameOf 1 blk ⟨A, one, st, (j : Int)⟩ = T at *
            have s1 := HZC.out _ HC12.out.bel
            have s2 := HG12.out.one
            obtain ⟨p0, p1⟩ := HC12.out.pair.cells
            by_cases hq : bytesOf T = bytesOf t
            · obtain rfl : T = t := bytesOf_inj hq
              have q : (T.toList == T.toList) = true := by simp
              cases hA : ansV blk ts j with
              | none =>
                have HH : Hid (Calls Tryd.prog 20 #[.pointer (some ⟨bq, 0, none⟩), .string T] w12.drew.drew fun e w' => e = .returned (.slice none 0 0) ∧ ∃ F', NAft w12.drew.drew w' bs bq F12 F' (⟨blk, 1000, 0, [⟨A, one, 2, ((j + 1 : Nat) : Int)⟩]⟩ : SV) (stV blk (ts.take (j + 1)))) := by
                  refine (nHandle _ HC12.out.net.drew.drew hsm).mono ?_
                  rintro e1 w9 ⟨F9, ha9, hans⟩
                  rw [stV_succ hx] at ha9
                  rw [ansV_eq hx, hA] at hans
                  exact ⟨hans.none_ rfl, F9, ha9⟩
                rw [hA] at HKV
                obtain rfl := HKV.out.none_ rfl
                clear HKV hA
                go_wp2_with fail
                go_region
                go_wp2_with fail
                have s2 : w12.drew.cell? ⟨G, 0, none⟩ = some (.string T) := s2
                have p1 : w12.drew.cell? ⟨bp, 1, none⟩ = some (.pointer (some ⟨bq, 0, none⟩)) := p1
                go_region_held3 (fun v => v.cell? ⟨G, 0, none⟩ = some (.string T) ∧ v.cell? ⟨bp, 1, none⟩ = some (.pointer (some ⟨bq, 0, none⟩)))
                  (first | exact ⟨s2, p1⟩ | exact ⟨t2, t1⟩)
                  (first
                    | (go_at_call 20; refine (HH.out).mono ?_; rintro e1 w15 ⟨rfl, F15, ha15⟩; have hA15 := ha15.pre ((Turn.refl [] w12).drew.drew); have hc15 := HC12.out.aft hA15; have t1 := hc15.pair.cells.2; have t2 := (HG12.out.aft hA15).one))
                have HC15 : Hid _ := hc15
                clear hc15 hA15 ha15 t1 t2 s2 p1 p0 HH HC12 HG12
                have s3 := HVC.out _ HC15.out.bel
                go_wp2_with fail
                go_loopw [24] (fun kv wx => kv = .int .i64 0 ∧ wx = w15) (fun _ _ => 0)
                case atStart => exact ⟨rfl, rfl⟩
                case round =>
                  obtain ⟨rfl, hw⟩ := hrel
                  subst hw
                  go_wp2_with fail
                  exact ⟨⟨j + 1, 2, F15, by go_num, by omega, HC15.out⟩, by simp [intOf]; omega⟩
              | some d =>
                have HH : Hid (Calls Tryd.prog 20 #[.pointer (some ⟨bq, 0, none⟩), .string T] w12.drew.drew fun e w' => ∃ G2, e = .returned (.slice (some ⟨G2, 0, none⟩) 1 1) ∧ ∃ F', NAft w12.drew.drew w' bs bq F12 F' (⟨blk, 1000, 0, [⟨A, one, 2, ((j + 1 : Nat) : Int)⟩]⟩ : SV) (stV blk (ts.take (j + 1))) ∧ w'.heap[G2]? = some (.cells #[.string (strOf d)] 9 (0, 0)) ∧ G2 ∉ F') := by
                  refine (nHandle _ HC12.out.net.drew.drew hsm).mono ?_
                  rintro e1 w9 ⟨F9, ha9, hans⟩
                  rw [stV_succ hx] at ha9
                  rw [ansV_eq hx, hA] at hans
                  obtain ⟨G2, q1, q2, _, q4⟩ := hans.some_ d rfl
                  exact ⟨G2, q1, F9, ha9, q2, q4⟩
                rw [hA] at HKV
                obtain ⟨Gk, rfl, hk1, _⟩ := HKV.out.some_ d rfl
                have HKC : Hid (∀ u, Below w8.heap.size w8 u → u.cell? ⟨Gk, 0, none⟩ = some (.string (strOf d))) := fun u hu => (hu.cell (lt_of_heap hk1)).trans (by rw [cell_of_row _ _ _ _ _ _ hk1]; rfl)
                clear HKV hA hk1
                generalize strOf d = D at *
                have qd : (D.toList == D.toList) = true := by simp
                go_wp2_with fail
                go_region
                go_wp2_with fail
                have s2 : w12.drew.cell? ⟨G, 0, none⟩ = some (.string T) := s2
                have p1 : w12.drew.cell? ⟨bp, 1, none⟩ = some (.pointer (some ⟨bq, 0, none⟩)) := p1
                go_region_held3 (fun v => v.cell? ⟨G, 0, none⟩ = some (.string T) ∧ v.cell? ⟨bp, 1, none⟩ = some (.pointer (some ⟨bq, 0, none⟩)))
                  (first | exact ⟨s2, p1⟩ | exact ⟨t2, t1⟩)
                  (first
                    | (go_at_call 20; refine (HH.out).mono ?_; rintro e1 w15 ⟨G2, rfl, F15, ha15, hg2, hg3⟩; have hA15 := ha15.pre ((Turn.refl [] w12).drew.drew); have hc15 := HC12.out.aft hA15; have t1 := hc15.pair.cells.2; have t2 := (HG12.out.aft hA15).one))
                have HC15 : Hid _ := hc15
                have HG15 : Hid (Blk w15 F15 G2 _) := Blk.mk hg2 hg3
                clear hc15 hA15 ha15 t1 t2 s2 p1 p0 HH HC12 HG12 hg2 hg3
                have s3 := HVC.out _ HC15.out.bel
                go_wp2_with fail
                go_loopw [24] (fun kv wx => ∃ k : Nat, kv = .int .i64 k ∧ k ≤ 1 ∧ Ctx w8 wx bp bs bq F15 (⟨blk, 1000, 0, [⟨A, one, 2, ((j + 1 : Nat) : Int)⟩]⟩ : SV) (stV blk (ts.take (j + 1))) ∧ Blk wx F15 G2 (.cells #[.string D] 9 (0, 0))) (fun kv _ => 1 - (intOf kv).toNat)
                case atStart => exact ⟨0, rfl, by omega, HC15.out, HG15.out⟩
                case round =>
                  obtain ⟨k, rfl, hk, hc16, hg16⟩ := hrel
                  have HC16 : Hid _ := hc16
                  have HG16 : Hid _ := hg16
                  have s5 := HVC.out _ hc16.bel
                  have s6 := HKC.out _ hc16.bel
                  have s7 := hg16.one
                  clear hc16 hg16 HC15 HG15 s3
                  by_cases hk0 : k = 0
                  · subst hk0
                    go_wp2_with fail
                    go_region
                    go_wp2_with fail
                    exact ⟨⟨1, by go_num, by omega, HC16.out.turn ((Turn.refl [] _).drew), HG16.out.turn ((Turn.refl [] _).drew) (by simp)⟩, by simp [intOf]⟩
                  · obtain rfl : k = 1 := by omega
                    go_wp2_with fail
                    exact ⟨⟨j + 1, 2, F15, by go_num, by omega, HC16.out⟩, by simp [intOf]; omega⟩
            · have q : (T.toList == t.toList) = false := by rw [strEq]; simpa using hq
              go_wp2_with fail
              go_region
              go_wp2_with fail
              have HBE : Hid (Below w2.heap.size w2 w12.drew) := (HB8.out.trans (HC12.out.bel.mono HB8.out.size)).trans (((Turn.refl [] w12).drew).toBelow (HB8.out.trans (HC12.out.bel.mono HB8.out.size)).size (by simp))
              go_ret
              exact ⟨rfl, HBE.out⟩
          · obtain rfl : j = i := by omega
            have g1 : decide ((j : Int) < (j : Int)) = false := by simp
            go_wp2_with fail
            refine (nRank HC.out.net).mono ?_
            rintro e1 w12 ⟨rfl, F12, ha12⟩
            have T13 : Turn [] w12 (w12.alloc (.cells #[.int .i64 (stV blk (ts.take j)).num, .int .i64 (stV blk (ts.take j)).rnk, .int .i64 (stV blk (ts.take j)).bks] 63)) := (Turn.refl [] w12).alloc _
            have hc12 := HC.out.aft ha12
            have hy12 := hc12.alloc_new (.cells #[.int .i64 (stV blk (ts.take j)).num, .int .i64 (stV blk (ts.take j)).rnk, .int .i64 (stV blk (ts.take j)).bks] 63)
            have HC13 : Hid _ := hy12.1
            have HY13 : Hid _ := hy12.2
            have s1 := HC13.out.pair.cells.2
            clear hc12 hy12 ha12 HC p0 p1 T13
            go_wp2_with fail
            generalize w12.heap.size = Y1 at *
            generalize w12.alloc (.cells #[.int .i64 (stV blk (ts.take j)).num, .int .i64 (stV blk (ts.take j)).rnk, .int .i64 (stV blk (ts.take j)).bks] 63) = w13 at *
            refine (nTake_tk HC13.out.net).mono ?_
            rintro e1 w14 ⟨rfl, F14, V14, ha14⟩
            have hc14 := HC13.out.aft ha14
            obtain ⟨y0, y1, y2⟩ := (HY13.out.aft ha14).three
            have HRC : Hid (w14.heap[R0]? = _) := (hc14.bel.block R0 (lt_of_heap HR8.out)).trans HR8.out
            have r0 : w14.cell? ⟨R0, 0, none⟩ = some (.int .i64 (stV blk (ts.take j)).num) := by rw [cell_of_row _ _ _ _ _ _ HRC.out]; rfl
            have r1 : w14.cell? ⟨R0, 1, none⟩ = some (.int .i64 (stV blk (ts.take j)).rnk) := by rw [cell_of_row _ _ _ _ _ _ HRC.out]; rfl
            have r2 : w14.cell? ⟨R0, 2, none⟩ = some (.int .i64 (stV blk (ts.take j)).bks) := by rw [cell_of_row _ _ _ _ _ _ HRC.out]; rfl
            have HBE : Hid (Below w2.heap.size w2 w14) := HB8.out.trans (hc14.bel.mono HB8.out.size)
            clear hc14 ha14 HC13 HY13 HRC s1
            generalize (stV blk (ts.take j)).num = N0 at *
            generalize (stV blk (ts.take j)).rnk = N1 at *
            generalize (stV blk (ts.take j)).bks = N2 at *
            generalize (tk (stV blk (ts.take j))).1 = X0 at *
            generalize (tk (stV blk (ts.take j))).2.1 = X1 at *
            generalize (tk (stV blk (ts.take j))).2.2 = X2 at *
            have q : (X0.toList == X0.toList) = true := by simp
            go_wp2_with fail
            go_ret
            exact ⟨rfl, HBE.out⟩
end Go.Proofs.YtfbbidaoljfloaaDoor
