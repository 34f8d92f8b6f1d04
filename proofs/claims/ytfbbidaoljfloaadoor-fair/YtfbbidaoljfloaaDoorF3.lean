import Derived.Test.YtfbbidaoljfloaaDoorF2
import Derived.Deep.CutBlock
namespace Go.Proofs.YtfbbidaoljfloaaDoor
open Go.RowKit Go.MuLone

theorem infoIn : (Tryd.prog.info? 3).map (fun i => (i.zero, i.size, i.bytes)) = some (some (.int .i64 0), 1, 8) := by kernel_rfl

theorem IntsF.below {w w' : World} {sl : Option Addr} {zs : List Int} (h : IntsF w sl zs) (hb : Below w.heap.size w w') : IntsF w' sl zs :=
  ⟨fun i x hx => by
    obtain ⟨a, q1, q2, q3⟩ := h.at_ i x hx
    exact ⟨a, q1, Nat.lt_of_lt_of_le q2 hb.size, (hb.cell (by rw [show (a.add i).block = a.block by unfold Addr.add; split <;> rfl]; exact q2)).trans q3⟩, h.lo, h.len⟩

/-- What Fair holds in memory. -/
structure FaW (w wr : World) (bp bs br : Nat) (F : List Nat) (S : SV) (V : RV) (bn f : Nat) (rv : Value) (at_ : Nat) (lost : Nat → Nat) : Prop where
  ctx : Ctx w wr bp bs br F S V
  fair : FairAt wr bn f rv at_ lost
  nF : bn ∉ F
  nn : w.heap.size ≤ bn
  np : bn ≠ bp
section
variable {w wr w' : World} {bp bs br : Nat} {F F' : List Nat} {S S' : SV} {V V' : RV} {bn f at_ a2 : Nat} {rv : Value} {lost lost' : Nat → Nat}
theorem FaW.aft (h : FaW w wr bp bs br F S V bn f rv at_ lost) (ha : NAft wr w' bs br F F' S' V') : FaW w w' bp bs br F' S' V' bn f rv at_ lost :=
  ⟨h.ctx.aft ha, h.fair.turn ha.turn h.nF, fun hm => by
    rcases ha.foot bn hm with q | q
    · exact h.nF q
    · have := h.fair.row.lt; omega, h.nn, h.np⟩
theorem FaW.turn (h : FaW w wr bp bs br F S V bn f rv at_ lost) (ht : Turn [] wr w') : FaW w w' bp bs br F S V bn f rv at_ lost :=
  ⟨h.ctx.turn ht, h.fair.turn ht (by simp), h.nF, h.nn, h.np⟩
theorem FaW.let_ (h : FaW w wr bp bs br F S V bn f rv at_ lost) (hf : FairAt w' bn f rv a2 lost') (T : Turn [bn] wr w') : FaW w w' bp bs br F S V bn f rv a2 lost' := by
  have hp := h.ctx.pos
  have hgn := h.nn
  refine ⟨⟨h.ctx.net.turn T (fun g hg hm => ?_) (by simp; omega), h.ctx.pair.turn T (by simp; exact Ne.symm h.np), h.ctx.bpF, h.ctx.bel.trans (T.toBelow h.ctx.bel.size (by simpa using hgn)), h.ctx.new, hp⟩, hf, h.nF, hgn, h.np⟩
  simp at hm
  subst hm
  exact h.nF hg
end

/-- A list of classes, in memory. -/
structure ClsAt (w : World) (g bn : Nat) (cs : List Nat) : Prop where
  at_ : ∀ (i c : Nat), cs[i]? = some c → w.cell? ⟨g, i, none⟩ = some (.int .i64 c) ∧ c < 34
  ne : g ≠ bn

theorem wrap_in (n : Int) (h : -9223372036854775808 ≤ n ∧ n ≤ 9223372036854775807) : wrap64 n = n := by unfold wrap64; omega
/-- As it is made. -/
theorem fair_new (w : World) (f : Nat) (rv : Value) : FairAt (w.alloc (.cells #[.int .i64 f, rv, .int .i64 0, .int .i64 0, .int .i64 0, .int .i64 0, .int .i64 0, .int .i64 0, .int .i64 0, .int .i64 0, .int .i64 0, .int .i64 0, .int .i64 0, .int .i64 0, .int .i64 0, .int .i64 0, .int .i64 0, .int .i64 0, .int .i64 0, .int .i64 0, .int .i64 0, .int .i64 0, .int .i64 0, .int .i64 0, .int .i64 0, .int .i64 0, .int .i64 0, .int .i64 0, .int .i64 0, .int .i64 0, .int .i64 0, .int .i64 0, .int .i64 0, .int .i64 0, .int .i64 0, .int .i64 0, .int .i64 0, .int .i64 0] 83)) w.heap.size f rv 0 (fun _ => 0) := by
  refine ⟨World.rowIs_alloc w #[.int .i64 f, rv, .int .i64 0, .int .i64 0, .int .i64 0, .int .i64 0, .int .i64 0, .int .i64 0, .int .i64 0, .int .i64 0, .int .i64 0, .int .i64 0, .int .i64 0, .int .i64 0, .int .i64 0, .int .i64 0, .int .i64 0, .int .i64 0, .int .i64 0, .int .i64 0, .int .i64 0, .int .i64 0, .int .i64 0, .int .i64 0, .int .i64 0, .int .i64 0, .int .i64 0, .int .i64 0, .int .i64 0, .int .i64 0, .int .i64 0, .int .i64 0, .int .i64 0, .int .i64 0, .int .i64 0, .int .i64 0, .int .i64 0, .int .i64 0] 83 (fairC f rv 0 (fun _ => 0)) (fun i hi => ?_)⟩
  have hi : i < 38 := hi
  exact match i, hi with
    | 0, _ => rfl
    | 1, _ => rfl
    | 2, _ => rfl
    | 3, _ => rfl
    | 4, _ => rfl
    | 5, _ => rfl
    | 6, _ => rfl
    | 7, _ => rfl
    | 8, _ => rfl
    | 9, _ => rfl
    | 10, _ => rfl
    | 11, _ => rfl
    | 12, _ => rfl
    | 13, _ => rfl
    | 14, _ => rfl
    | 15, _ => rfl
    | 16, _ => rfl
    | 17, _ => rfl
    | 18, _ => rfl
    | 19, _ => rfl
    | 20, _ => rfl
    | 21, _ => rfl
    | 22, _ => rfl
    | 23, _ => rfl
    | 24, _ => rfl
    | 25, _ => rfl
    | 26, _ => rfl
    | 27, _ => rfl
    | 28, _ => rfl
    | 29, _ => rfl
    | 30, _ => rfl
    | 31, _ => rfl
    | 32, _ => rfl
    | 33, _ => rfl
    | 34, _ => rfl
    | 35, _ => rfl
    | 36, _ => rfl
    | 37, _ => rfl
    | n + 38, h => absurd h (by omega)
theorem cls_two (w8 : World) (bn K i : Nat) (zs : Array Value) (hbn : bn < w8.heap.size) (hm : i / 4 % K < 34) :
    ClsAt (((w8.alloc (.cells #[.int .i64 32] 3)).alloc (.cells #[.int .i64 ((i : Int) / 4 % (K : Int))] 3)).alloc (.cells (#[.int .i64 32, .int .i64 ((i : Int) / 4 % (K : Int))] ++ zs) 3)).drew (w8.heap.size + 1 + 1) bn [32, i / 4 % K] := by
  have hx : ((i : Int) / 4 % (K : Int)) = ((i / 4 % K : Nat) : Int) := rfl
  rw [hx]
  have hsz : ((w8.alloc (.cells #[.int .i64 32] 3)).alloc (.cells #[.int .i64 ((i / 4 % K : Nat) : Int)] 3)).heap.size = w8.heap.size + 1 + 1 := by simp
  have hn := heap_alloc_new ((w8.alloc (.cells #[.int .i64 32] 3)).alloc (.cells #[.int .i64 ((i / 4 % K : Nat) : Int)] 3)) (.cells (#[.int .i64 32, .int .i64 ((i / 4 % K : Nat) : Int)] ++ zs) 3)
  rw [hsz] at hn
  refine ⟨fun m c hc => ?_, by omega⟩
  match m, hc with
  | 0, hc =>
    cases hc
    refine ⟨?_, by omega⟩
    show World.cell? (((w8.alloc (.cells #[.int .i64 32] 3)).alloc (.cells #[.int .i64 ((i / 4 % K : Nat) : Int)] 3)).alloc (.cells (#[.int .i64 32, .int .i64 ((i / 4 % K : Nat) : Int)] ++ zs) 3)) ⟨w8.heap.size + 1 + 1, 0, none⟩ = _
    rw [cell_of_row _ _ _ _ _ _ hn, Array.getElem?_append_left (by simp)]
    rfl
  | 1, hc =>
    have hc : i / 4 % K = c := by simpa using hc
    subst hc
    refine ⟨?_, hm⟩
    show World.cell? (((w8.alloc (.cells #[.int .i64 32] 3)).alloc (.cells #[.int .i64 ((i / 4 % K : Nat) : Int)] 3)).alloc (.cells (#[.int .i64 32, .int .i64 ((i / 4 % K : Nat) : Int)] ++ zs) 3)) ⟨w8.heap.size + 1 + 1, 1, none⟩ = _
    rw [cell_of_row _ _ _ _ _ _ hn, Array.getElem?_append_left (by simp)]
    rfl
  | m + 2, hc => simp at hc
/-- What comes of a frame that is let by. -/
theorem fair_step {V : RV} {data : ByteArray} {nonce st : Int} {blk i f most : Nat} {lost : Nat → Nat} (hv : RVOk V) (hb : V.blk = blk) (hd : data.size ≤ 32 * blk) (hf : 1 ≤ f) (hm : most = 4 * blocksOf data.size blk * f + f * f) (h : FairQ V data i f lost ∨ FairD V data i f most lost) :
    ∃ V2, V2.blk = blk ∧ ((V.handle (bytesOf (frameOf 1 blk ⟨data, nonce, st, (i : Int)⟩)) = (V2, none) ∧ FairQ V2 data (i + 1) f (lostF true (clsOf (blocksOf data.size blk) i) lost)) ∨
      (V.handle (bytesOf (frameOf 1 blk ⟨data, nonce, st, (i : Int)⟩)) = (V2, some (doneB 1 blk)) ∧ V2.ready = [(data, 1)] ∧ (lostF true (clsOf (blocksOf data.size blk) i) lost 33 + 1 < f → FairD V2 data (i + 1) f most (lostF false [33] (lostF true (clsOf (blocksOf data.size blk) i) lost))))) := by
  subst hb
  have hK1 := blocksOf_pos data.size V.blk
  have hK2 := blocksOf_le data.size V.blk hv.b1 hd
  have htx : bytesOf (frameOf 1 V.blk ⟨data, nonce, st, (i : Int)⟩) = fText 1 V.blk (Dz.rowOf nonce (blocksOf data.size V.blk) i) data := fText_frame 1 V.blk ⟨data, nonce, st, (i : Int)⟩
  rw [htx]
  rcases h with h | h
  · obtain ⟨V2, hs, hh⟩ := frame_step (row := Dz.rowOf nonce (blocksOf data.size V.blk) i) hv h.track (by omega) (by omega) hd (rowOf_ne _ _ _ hK1) (Dz.rowOf_lt _ _ _ hK1)
    rw [hh]
    by_cases hfl : V2.srk = V2.bks
    · rw [if_pos hfl]
      exact ⟨V2.deliver, hs.blk, .inr ⟨rfl, by rw [hs.data hfl, h.ready]; rfl, fun hb => h.got hv hd hf hm hs hfl hb⟩⟩
    · rw [if_neg hfl]
      exact ⟨V2, hs.blk, .inl ⟨rfl, h.come hv hd hf hs hfl⟩⟩
  · rw [frame_late hv h.dlv (by omega) (by omega) hd (rowOf_ne _ _ _ hK1) (Dz.rowOf_lt _ _ _ hK1)]
    exact ⟨V, rfl, .inr ⟨rfl, h.ready, fun hb => h.come hf hK1 hK2 hb⟩⟩
theorem most_eq (K f : Nat) (hK : K ≤ 32) (hf : f ≤ 5) : wrap64 (wrap64 (4 * (K : Int) * (f : Int)) + wrap64 ((f : Int) * (f : Int))) = ((4 * K * f + f * f : Nat) : Int) := by
  have h1 : 4 * K * f ≤ 128 * 5 := Nat.mul_le_mul (by omega) hf
  have h2 : f * f ≤ 5 * 5 := Nat.mul_le_mul hf hf
  have e1 : 4 * (K : Int) * (f : Int) = ((4 * K * f : Nat) : Int) := by simp
  have e2 : (f : Int) * (f : Int) = ((f * f : Nat) : Int) := by simp
  rw [e1, e2, wrap_in ((4 * K * f : Nat) : Int) (by omega), wrap_in ((f * f : Nat) : Int) (by omega), wrap_in _ (by omega)]
  omega
theorem most_le (K f : Nat) (hK1 : 1 ≤ K) (hK : K ≤ 32) (hf1 : 1 ≤ f) (hf : f ≤ 5) : 1 ≤ 4 * K * f + f * f ∧ 4 * K * f + f * f ≤ 665 := by
  have h1 : 4 * K * f ≤ 128 * 5 := Nat.mul_le_mul (by omega) hf
  have h2 : f * f ≤ 5 * 5 := Nat.mul_le_mul hf hf
  have h3 : 1 * 1 ≤ f * f := Nat.mul_le_mul hf1 hf1
  omega
theorem pair_at (blk bud : Nat) (num : Int) (w : World) (he : num = bud) (ht : Tab w) (h1 : 1 ≤ blk) (h2 : blk ≤ 32) (h3 : 1 ≤ bud) (h4 : bud ≤ 1000) :
    Calls Tryd.prog 15 #[.int .i64 blk, .int .i64 num] w fun e w' => ∃ bp bs br F, e = .returned (.tuple #[.pointer (some ⟨bp, 0, none⟩), .bool true]) ∧ Below w.heap.size w w' ∧ PairAt w' bp bs br ∧ Net w' bs br F (SV.fresh blk bud) (RV.fresh blk) ∧ (∀ g ∈ F, w.heap.size ≤ g) ∧ w.heap.size ≤ bp ∧ bp ∉ F := by
  subst he
  exact pair_any blk bud w ht h1 h2 h3 h4

set_option maxRecDepth 100000 in
set_option maxHeartbeats 4000000 in
theorem fair_any (block : Int) (d : ByteArray) (nonce : Int) (fr : Int) (sl : Option Addr) (zs : List Int) (zcap : Nat) (w : World) (ht : Tab w) (h1 : -9223372036854775808 ≤ block) (h2 : block ≤ 9223372036854775807) (h3 : -9223372036854775808 ≤ fr) (h4 : fr ≤ 9223372036854775807) (hz : IntsF w sl zs) :
    Calls Tryd.prog 10 #[.int .i64 block, .string d, .int .u64 nonce, .int .i64 fr, .slice sl zs.length zcap] w fun e w' => e = .returned (.bool true) ∧ Below w.heap.size w w' := by
  have hpos : 0 < w.heap.size := World.block_lt_of_cell? w _ (ht 0 0 rfl)
  have hnot := notOp
  have HZ : Hid _ := hz
  clear hz
  go_enter Tryd.func10, Tryd.ntmps10
  go_wp2_with fail
  refine (bent_any block 1 32 _ h1 h2 (by omega) (by omega)).mono ?_
  rintro e1 w1 ⟨⟨blk, rfl, hb1, hb2⟩, rfl⟩
  go_wp2_with fail
  refine (bent_any fr 1 5 _ h3 h4 (by omega) (by omega)).mono ?_
  rintro e1 w1 ⟨⟨f, rfl, hf1, hf2⟩, rfl⟩
  go_wp2_with fail
  refine (fit_any d blk _ hb1 hb2).mono ?_
  rintro e1 w2 ⟨rfl, rfl⟩
  have hd1 := fitD_size d blk
  generalize fitD d blk = D at *
  go_wp2_with fail
  refine (blocks_any D blk _ hb1 hb2 hd1).mono ?_
  rintro e1 w3 ⟨rfl, rfl⟩
  have hK1 := blocksOf_pos D.size blk
  have hK2 := blocksOf_le D.size blk hb1 hd1
  obtain ⟨K, hKe⟩ : ∃ K, K = blocksOf D.size blk := ⟨_, rfl⟩
  rw [← hKe] at hK1 hK2
  obtain ⟨hm1, hm2⟩ := most_le K f hK1 hK2 hf1 hf2
  obtain ⟨most, hme⟩ : ∃ most, most = 4 * K * f + f * f := ⟨_, rfl⟩
  rw [← hme] at hm1 hm2
  have HM : Hid (wrap64 (wrap64 (4 * (K : Int) * (f : Int)) + wrap64 ((f : Int) * (f : Int))) = (most : Int)) := by rw [Hid, most_eq K f hK2 hf2, ← hme]
  have HME : Hid _ := hme
  have HKE : Hid _ := hKe
  rw [← hKe]
  clear hme hKe
  go_wp2_with fail
  rw [HM.out]
  refine (pair_at blk most _ _ rfl ht hb1 hb2 hm1 (by omega)).mono ?_
  rintro e1 w4 ⟨bp, bs, br, F, rfl, hbel, hpa, hnet, hnew, hbp, hbpF⟩
  have hctx : Ctx w3 w4 bp bs br F _ _ := ⟨hnet, hpa, hbpF, hbel, hnew, hpos⟩
  obtain ⟨p0, p1⟩ := hpa.cells
  have HC : Hid _ := hctx
  clear hctx hnet hpa hbpF hbel hnew
  go_wp2_with fail
  refine (nSubmit D nonce HC.out.net hd1 (by simp [SV.fresh]) (by simp [SV.fresh, cntSt])).mono ?_
  rintro e1 w5 ⟨rfl, F5, ha5⟩
  have HC5 : Hid (Ctx w3 w5 bp bs br F5 (⟨blk, most, 0, [⟨D, nonce, 1, 0⟩]⟩ : SV) (RV.fresh blk)) := HC.out.aft ha5
  clear ha5 HC p0 p1
  go_wp2_with fail
  have hfn := fair_new w5 f (.slice sl zs.length zcap)
  have T6 := (Turn.refl [] w5).alloc (.cells #[.int .i64 f, .slice sl zs.length zcap, .int .i64 0, .int .i64 0, .int .i64 0, .int .i64 0, .int .i64 0, .int .i64 0, .int .i64 0, .int .i64 0, .int .i64 0, .int .i64 0, .int .i64 0, .int .i64 0, .int .i64 0, .int .i64 0, .int .i64 0, .int .i64 0, .int .i64 0, .int .i64 0, .int .i64 0, .int .i64 0, .int .i64 0, .int .i64 0, .int .i64 0, .int .i64 0, .int .i64 0, .int .i64 0, .int .i64 0, .int .i64 0, .int .i64 0, .int .i64 0, .int .i64 0, .int .i64 0, .int .i64 0, .int .i64 0, .int .i64 0, .int .i64 0] 83)
  have HW6 : Hid (FaW w3 (w5.alloc (.cells #[.int .i64 f, .slice sl zs.length zcap, .int .i64 0, .int .i64 0, .int .i64 0, .int .i64 0, .int .i64 0, .int .i64 0, .int .i64 0, .int .i64 0, .int .i64 0, .int .i64 0, .int .i64 0, .int .i64 0, .int .i64 0, .int .i64 0, .int .i64 0, .int .i64 0, .int .i64 0, .int .i64 0, .int .i64 0, .int .i64 0, .int .i64 0, .int .i64 0, .int .i64 0, .int .i64 0, .int .i64 0, .int .i64 0, .int .i64 0, .int .i64 0, .int .i64 0, .int .i64 0, .int .i64 0, .int .i64 0, .int .i64 0, .int .i64 0, .int .i64 0, .int .i64 0] 83)) bp bs br F5 (⟨blk, most, 0, [⟨D, nonce, 1, 0⟩]⟩ : SV) (RV.fresh blk) w5.heap.size f (.slice sl zs.length zcap) 0 (fun _ => 0)) :=
    ⟨HC5.out.turn T6, hfn, fun hm => by have := HC5.out.net.lt _ hm; omega, HC5.out.bel.size, by have := lt_of_heap HC5.out.pair.obj; omega⟩
  clear hfn T6 HC5
  generalize w5.heap.size = bn at *
  generalize w5.alloc (.cells #[.int .i64 f, .slice sl zs.length zcap, .int .i64 0, .int .i64 0, .int .i64 0, .int .i64 0, .int .i64 0, .int .i64 0, .int .i64 0, .int .i64 0, .int .i64 0, .int .i64 0, .int .i64 0, .int .i64 0, .int .i64 0, .int .i64 0, .int .i64 0, .int .i64 0, .int .i64 0, .int .i64 0, .int .i64 0, .int .i64 0, .int .i64 0, .int .i64 0, .int .i64 0, .int .i64 0, .int .i64 0, .int .i64 0, .int .i64 0, .int .i64 0, .int .i64 0, .int .i64 0, .int .i64 0, .int .i64 0, .int .i64 0, .int .i64 0, .int .i64 0, .int .i64 0] 83) = w6 at *
  go_loopw [18] (fun iv wr => ∃ (i : Nat) (st : Int) (F : List Nat) (V : RV) (a : Nat) (lost : Nat → Nat), iv = .int .i64 i ∧ i ≤ most ∧ a ≤ 2 * i ∧ FaW w3 wr bp bs br F (⟨blk, most, 0, [⟨D, nonce, st, i⟩]⟩ : SV) V bn f (.slice sl zs.length zcap) a lost ∧ V.blk = blk ∧ (FairQ V D i f lost ∨ FairD V D i f most lost)) (fun iv _ => most - (intOf iv).toNat)
  case atStart => exact ⟨0, 1, F5, RV.fresh blk, 0, fun _ => 0, rfl, Nat.zero_le _, Nat.le_refl _, HW6.out, rfl, .inl (FairQ.start D hf1)⟩
  case round =>
    obtain ⟨i, st, F7, V, at7, lost, rfl, him0, hat7, hw7, hvb, hq⟩ := hrel
    clear HW6
    have hrok := hw7.ctx.net.rok
    have him : i < most := by
      rcases hq with q | q
      · have := q.lt hrok (by rw [hvb]; exact hd1)
        rw [hvb, ← HKE.out] at this
        have hm := HME.out
        omega
      · have := q.left
        omega
    have hlim : ∀ c, lost c < f := by
      rcases hq with q | q
      · exact q.lim
      · exact q.lim
    have HQ : Hid _ := hq
    have HL : Hid _ := hlim
    have HW7 : Hid _ := hw7
    have HRK : Hid _ := hrok
    obtain ⟨p0, p1⟩ := hw7.ctx.pair.cells
    have g1 : decide ((i : Int) < (most : Int)) = true := by simp; omega
    clear hw7 hq hlim hrok
    go_wp2_with fail
    refine (nTick_send HW7.out.ctx.net (o := ⟨D, nonce, st, i⟩) rfl (by show (i : Int) < (most : Int); omega)).mono ?_
    rintro e1 w8 ⟨G, rfl, hG, hcG, F8, ha8, hGF⟩
    have hw8 : FaW w3 w8 bp bs br F8 (⟨blk, most, 0, [⟨D, nonce, 2, ((i + 1 : Nat) : Int)⟩]⟩ : SV) V bn f (.slice sl zs.length zcap) at7 lost := HW7.out.aft ha8
    have hsm := frameOf_small 1 blk ⟨D, nonce, st, (i : Int)⟩ hb2
    obtain ⟨V2, hv2, hcase⟩ := fair_step (nonce := nonce) (st := st) HRK.out hvb hd1 hf1 (by rw [← HKE.out]; exact HME.out) HQ.out
    rw [← HKE.out] at hcase
    have hcG1 : w8.heap[G]? = some (.cells #[.string (frameOf 1 blk ⟨D, nonce, st, (i : Int)⟩)] 9 (0, 0)) := hcG
    have HG8 : Hid (Blk w8 F8 G _) := Blk.mk hcG1 hGF
    have hGn : G ≠ bn := by have := HW7.out.fair.row.lt; omega
    generalize frameOf 1 blk ⟨D, nonce, st, (i : Int)⟩ = T at *
    have HCS : Hid _ := hcase
    have T9 := (Turn.refl [] w8).alloc (.cells #[.int .i64 32] 3)
    have hw9 := hw8.turn T9
    have HW9 : Hid _ := hw9
    have HG9 : Hid _ := HG8.out.turn T9 (by simp)
    have hnew9 := heap_alloc_new w8 (.cells #[.int .i64 32] 3)
    have hbn8 : bn < w8.heap.size := hw8.fair.row.lt
    clear hcG hcG1 hGF hG ha8 HW7 hcase hw9
    go_upto_if 84 with fail
    go_cut [20] from 68 to 147 (fun cv wx => ∃ g cap, cv = .slice (some ⟨g, 0, none⟩) (clsOf K i).length cap ∧ ClsAt wx g bn (clsOf K i) ∧ FaW w3 wx bp bs br F8 (⟨blk, most, 0, [⟨D, nonce, 2, ((i + 1 : Nat) : Int)⟩]⟩ : SV) V bn f (.slice sl zs.length zcap) at7 lost ∧ Blk wx F8 G (.cells #[.string T] 9 (0, 0)))
    case first =>
      by_cases h4 : i % 4 = 0
      · have q : ((i : Int) % 4 == 0) = true := by simp; omega
        have kk0 : (0 : Int) < (K : Int) := by omega
        have e1 : clsOf K i = [32, i / 4 % K] := by unfold clsOf; rw [if_pos h4]
        have hmk : i / 4 % K < 34 := by have := Nat.mod_lt (i / 4) (show 0 < K by omega); omega
        go_wp2_with fail
        generalize ((Question.appendCap 2 1 3).cut (w8.tape w8.drawn (Question.appendCap 2 1 3))) = cap
        have hcl := cls_two w8 bn K i (Builtin.zeroCells #[Value.int IntKind.i64 0] (cap - 2)) hbn8 hmk
        have TA : Turn [] w8 (((w8.alloc (.cells #[.int .i64 32] 3)).alloc (.cells #[.int .i64 ((i : Int) / 4 % (K : Int))] 3)).alloc (.cells (#[.int .i64 32, .int .i64 ((i : Int) / 4 % (K : Int))] ++ Builtin.zeroCells #[Value.int IntKind.i64 0] (cap - 2)) 3)).drew := ((((Turn.refl [] w8).alloc _).alloc _).alloc _).drew
        have hwA := hw8.turn TA
        have hgA := HG8.out.turn TA (by simp)
        generalize (((w8.alloc (.cells #[.int .i64 32] 3)).alloc (.cells #[.int .i64 ((i : Int) / 4 % (K : Int))] 3)).alloc (.cells (#[.int .i64 32, .int .i64 ((i : Int) / 4 % (K : Int))] ++ Builtin.zeroCells #[Value.int IntKind.i64 0] (cap - 2)) 3)).drew = wA at *
        go_meet
        exact ⟨w8.heap.size + 1 + 1, cap, by rw [e1]; rfl, by rw [e1]; exact hcl, hwA, hgA⟩
      · have q : ((i : Int) % 4 == 0) = false := by simp; omega
        have e1 : clsOf K i = [32] := by unfold clsOf; rw [if_neg h4]
        go_wp2_with fail
        go_meet
        exact ⟨w8.heap.size, 1, by rw [e1]; rfl, ⟨fun m c hm => by
          rw [e1] at hm
          match m, hm with
          | 0, hm =>
            cases hm
            exact ⟨by rw [cell_of_row _ _ _ _ _ _ hnew9]; rfl, by omega⟩
          | m + 1, hm => simp at hm, by omega⟩, HW9.out, HG9.out⟩
    case rest =>
      obtain ⟨g, cap, rfl, hcl, hwA, hgA⟩ := hcut
      obtain ⟨wA, hWA⟩ : ∃ wA, wA = wc := ⟨_, rfl⟩
      subst hWA
      clear hw8 HG8 HW9 HG9 hnew9 T9
      have HWA : Hid _ := hwA
      have HGA : Hid _ := hgA
      have hcn : (clsOf K i).length ≤ 2 := by unfold clsOf; split <;> simp
      go_wp2_with fail
      refine (lets_any bn g cap f at7 sl zcap zs (clsOf K i) lost wA hwA.fair (HZ.out.below hwA.ctx.bel) hcl.at_ hcn hcl.ne (by omega) (fun c => by have := HL.out c; omega)).mono ?_
      rintro e1 wB ⟨b, a2, rfl, hb, ha2, hfB, hTB⟩
      have HB : Hid _ := hb
      have HWB : Hid _ := HWA.out.let_ hfB hTB
      have HGB : Hid _ := HGA.out.turn hTB (by simpa using hGn)
      clear hcl hwA hgA hb hfB hTB HWA HGA
      cases b with
      | false =>
        have hlo : ∀ c ∈ clsOf K i, lost c + 1 < f := fun c hc => by
          apply Classical.byContradiction
          intro hn
          have := HB.out c hc (by omega)
          cases this
        have HN : Hid (FairQ V D (i + 1) f (lostF false (clsOf K i) lost) ∨ FairD V D (i + 1) f most (lostF false (clsOf K i) lost)) := by
          rcases HQ.out with q | q
          · left
            have := q.lose HRK.out (by rw [hvb]; exact hd1) (by rw [hvb, ← HKE.out]; exact hlo)
            rw [hvb, ← HKE.out] at this
            exact this
          · exact .inr (q.lose hK1 hK2 hlo)
        clear HB HCS HQ HL hlo
        go_wp2_with fail
        exact ⟨⟨i + 1, 2, F8, V, a2, _, by go_num, by omega, by omega, HWB.out, hvb, HN.out⟩, by simp [intOf]; omega⟩
      | true =>
        obtain ⟨p0, p1⟩ := HWB.out.ctx.pair.cells
        have s2 := HGB.out.one
        have HL1 : Hid (∀ c, lostF true (clsOf K i) lost c < f) := lim_won hf1 _ HL.out
        clear HB HQ HL
        generalize lostF true (clsOf K i) lost = L1 at *
        rcases HCS.out with ⟨hh, hq2⟩ | ⟨hh, hr2, hd2⟩
        · have HQ2 : Hid _ := hq2
          have HH : Hid (∀ v F, Net v bs br F (⟨blk, most, 0, [⟨D, nonce, 2, ((i + 1 : Nat) : Int)⟩]⟩ : SV) V → Calls Tryd.prog 20 #[.pointer (some ⟨br, 0, none⟩), .string T] v fun e w' => e = .returned (.slice none 0 0) ∧ ∃ F', NAft v w' bs br F F' (⟨blk, most, 0, [⟨D, nonce, 2, ((i + 1 : Nat) : Int)⟩]⟩ : SV) V2) := fun v F hv => by
            refine (nHandle _ hv hsm).mono ?_
            rintro e1 w9 ⟨F9, ha9, hans⟩
            rw [hh] at ha9 hans
            exact ⟨hans.none_ rfl, F9, ha9⟩
          clear HCS hq2 hh
          go_wp2_with fail
          go_region_held3 (fun v => v.cell? ⟨bp, 1, none⟩ = some (.pointer (some ⟨br, 0, none⟩)) ∧ v.cell? ⟨G, 0, none⟩ = some (.string T))
            (first | exact ⟨p1, s2⟩ | exact ⟨t1, t2⟩)
            (first
              | (go_at_call 20; refine (HH.out _ _ HWB.out.ctx.net.drew).mono ?_; rintro e1 wC ⟨rfl, FC, haC⟩; have hAC := haC.pre ((Turn.refl [] _).drew); have hwC := HWB.out.aft hAC; have t1 := hwC.ctx.pair.cells.2; have t2 := (HGB.out.aft hAC).one))
          have HWC : Hid _ := hwC
          clear hwC haC hAC t1 t2 p0 p1 s2 HWB HGB HH
          go_wp2_with fail
          go_loopw [23] (fun jv wx => jv = .int .i64 0 ∧ wx = wC) (fun _ _ => 0)
          case atStart => exact ⟨rfl, rfl⟩
          case round =>
            obtain ⟨rfl, hw⟩ := hrel
            subst hw
            obtain ⟨p0, p1⟩ := HWC.out.ctx.pair.cells
            go_wp2_with fail
            refine (nStatus_eq 1 0 HWC.out.ctx.net rfl (by omega)).mono ?_
            rintro e1 wD ⟨rfl, FD, haD⟩
            have HWD : Hid _ := (HWC.out.aft haD).turn ((Turn.refl [] wD).alloc (.cells #[.int .i64 2, .int .i64 ((i + 1 : Nat) : Int)] 45))
            clear haD p0 p1 HWC
            go_wp2_with fail
            exact ⟨⟨i + 1, 2, FD, V2, a2, L1, by go_num, by omega, by omega, HWD.out, hv2, .inl HQ2.out⟩, by simp [intOf]; omega⟩
        · have HR2 : Hid _ := hr2
          have HD2 : Hid _ := hd2
          have HH : Hid (∀ v F, Net v bs br F (⟨blk, most, 0, [⟨D, nonce, 2, ((i + 1 : Nat) : Int)⟩]⟩ : SV) V → Calls Tryd.prog 20 #[.pointer (some ⟨br, 0, none⟩), .string T] v fun e w' => ∃ G2, e = .returned (.slice (some ⟨G2, 0, none⟩) 1 1) ∧ ∃ F', NAft v w' bs br F F' (⟨blk, most, 0, [⟨D, nonce, 2, ((i + 1 : Nat) : Int)⟩]⟩ : SV) V2 ∧ w'.heap[G2]? = some (.cells #[.string (strOf (doneB 1 blk))] 9 (0, 0)) ∧ v.heap.size ≤ G2 ∧ G2 ∉ F') := fun v F hv => by
            refine (nHandle _ hv hsm).mono ?_
            rintro e1 w9 ⟨F9, ha9, hans⟩
            rw [hh] at ha9 hans
            obtain ⟨G2, q1, q2, q3, q4⟩ := hans.some_ _ rfl
            exact ⟨G2, q1, F9, ha9, q2, q3, q4⟩
          have hS2 : (⟨blk, most, 0, [⟨D, nonce, 2, ((i + 1 : Nat) : Int)⟩]⟩ : SV).handle (doneB 1 blk) = (⟨blk, most, 1, [⟨.empty, 0, 3, ((i + 1 : Nat) : Int)⟩]⟩ : SV) := by simp [SV.handle, SV.done]
          have HSH : Hid (∀ v F, Net v bs br F (⟨blk, most, 0, [⟨D, nonce, 2, ((i + 1 : Nat) : Int)⟩]⟩ : SV) V2 → Calls Tryd.prog 21 #[.pointer (some ⟨bs, 0, none⟩), .string (strOf (doneB 1 blk))] v fun e w' => e = .returned (.tuple #[]) ∧ ∃ F', NAft v w' bs br F F' (⟨blk, most, 1, [⟨.empty, 0, 3, ((i + 1 : Nat) : Int)⟩]⟩ : SV) V2) := fun v F hv => by
            have := nSHandle (strOf (doneB 1 blk)) hv
            rw [bytesOf_strOf _ (doneB_lt _ _), hS2] at this
            exact this
          clear HCS hr2 hd2 hh hS2
          generalize strOf (doneB 1 blk) = U at *
          have hbnB := HWB.out.fair.row.lt
          go_wp2_with fail
          go_region_held3 (fun v => v.cell? ⟨bp, 1, none⟩ = some (.pointer (some ⟨br, 0, none⟩)) ∧ v.cell? ⟨G, 0, none⟩ = some (.string T))
            (first | exact ⟨p1, s2⟩ | exact ⟨t1, t2⟩)
            (first
              | (go_at_call 20; refine (HH.out _ _ HWB.out.ctx.net.drew).mono ?_; rintro e1 wC ⟨G2, rfl, FC, haC, hg1, hg2, hg3⟩; have hAC := haC.pre ((Turn.refl [] _).drew); have hwC := HWB.out.aft hAC; have t1 := hwC.ctx.pair.cells.2; have t2 := (HGB.out.aft hAC).one))
          have HWC : Hid _ := hwC
          have HGC : Hid (Blk wC FC G2 _) := Blk.mk hg1 hg3
          have hg2n : G2 ≠ bn := by have : wB.heap.size ≤ G2 := hg2; omega
          clear hwC haC hAC t1 t2 p0 p1 s2 HWB HGB HH hg1 hg2 hg3
          go_wp2_with fail
          go_loopw [23] (fun jv wx => (jv = .int .i64 0 ∧ FaW w3 wx bp bs br FC (⟨blk, most, 0, [⟨D, nonce, 2, ((i + 1 : Nat) : Int)⟩]⟩ : SV) V2 bn f (.slice sl zs.length zcap) a2 L1 ∧ Blk wx FC G2 (.cells #[.string U] 9 (0, 0))) ∨ (jv = .int .i64 1 ∧ ∃ (F : List Nat) (a3 : Nat), a3 ≤ a2 + 1 ∧ ((L1 33 + 1 < f ∧ FaW w3 wx bp bs br F (⟨blk, most, 0, [⟨D, nonce, 2, ((i + 1 : Nat) : Int)⟩]⟩ : SV) V2 bn f (.slice sl zs.length zcap) a3 (lostF false [33] L1)) ∨ (∃ l3, FaW w3 wx bp bs br F (⟨blk, most, 1, [⟨.empty, 0, 3, ((i + 1 : Nat) : Int)⟩]⟩ : SV) V2 bn f (.slice sl zs.length zcap) a3 l3)))) (fun jv _ => 1 - (intOf jv).toNat)
          case atStart => exact .inl ⟨rfl, HWC.out, HGC.out⟩
          case round =>
            clear HWC HGC
            rcases hrel with ⟨rfl, hwx, hgx⟩ | ⟨rfl, F3, a3, ha3, hor⟩
            · have HWX : Hid _ := hwx
              have HGX : Hid _ := hgx
              have TX := (Turn.refl [] wr).alloc (.cells #[.int .i64 33] 3)
              have hwy := hwx.turn TX
              have hgy := hgx.turn TX (by simp)
              have hny := heap_alloc_new wr (.cells #[.int .i64 33] 3)
              have hbny : bn < wr.heap.size := hwx.fair.row.lt
              have HWY : Hid _ := hwy
              have HGY : Hid _ := hgy
              have hcy : ∀ m c : Nat, ([33] : List Nat)[m]? = some c → (wr.alloc (.cells #[.int .i64 33] 3)).cell? ⟨wr.heap.size, m, none⟩ = some (.int .i64 c) ∧ c < 34 := fun m c hm => by
                match m, hm with
                | 0, hm =>
                  cases hm
                  exact ⟨by rw [cell_of_row _ _ _ _ _ _ hny]; rfl, by omega⟩
                | m + 1, hm => simp at hm
              have hz2 := HZ.out.below hwy.ctx.bel
              clear hwx hgx hgy hny TX HWX HGX
              go_wp2_with fail
              refine (lets_any bn wr.heap.size 1 f a2 sl zcap zs [33] L1 _ HWY.out.fair hz2 hcy (by simp) (by omega) (by omega) (fun c => by have := HL1.out c; omega)).mono ?_
              rintro e1 wE ⟨b3, a3, rfl, hb3, ha3, hfE, hTE⟩
              have hwe := HWY.out.let_ hfE hTE
              have hge := HGY.out.turn hTE (by simpa using hg2n)
              have HWE : Hid _ := hwe
              have HGE : Hid _ := hge
              have HB3 : Hid _ := hb3
              clear hwy hcy hz2 hfE hTE hb3 HWY HGY hwe hge
              cases b3 with
              | false =>
                have hlo : L1 33 + 1 < f := by
                  apply Classical.byContradiction
                  intro hn
                  have := HB3.out 33 (by simp) (by omega)
                  cases this
                go_wp2_with fail
                exact ⟨.inr ⟨by go_num, FC, a3, ha3, .inl ⟨hlo, HWE.out⟩⟩, by simp [intOf]⟩
              | true =>
                obtain ⟨p0, p1⟩ := HWE.out.ctx.pair.cells
                have s2 := HGE.out.one
                go_wp2_with fail
                go_region_held3 (fun v => v.cell? ⟨bp, 0, none⟩ = some (.pointer (some ⟨bs, 0, none⟩)) ∧ v.cell? ⟨G2, 0, none⟩ = some (.string U))
                  (first | exact ⟨p0, s2⟩ | exact ⟨t1, t2⟩)
                  (first
                    | (go_at_call 21; refine (HSH.out _ _ HWE.out.ctx.net.drew).mono ?_; rintro e1 wG ⟨rfl, FG, haG⟩; have hAG := haG.pre ((Turn.refl [] _).drew); have hwG := HWE.out.aft hAG; have t1 := hwG.ctx.pair.cells.1; have t2 := (HGE.out.aft hAG).one))
                have HWG : Hid _ := hwG
                clear hwG haG hAG t1 t2 p0 p1 s2 HWE HGE
                go_wp2_with fail
                exact ⟨.inr ⟨by go_num, FG, a3, ha3, .inr ⟨_, HWG.out⟩⟩, by simp [intOf]⟩
            · rcases hor with ⟨hlo, hwx⟩ | ⟨l3, hwx⟩
              · have HWX : Hid _ := hwx
                obtain ⟨p0, p1⟩ := hwx.ctx.pair.cells
                have HN : Hid _ := HD2.out hlo
                clear hwx
                go_wp2_with fail
                refine (nStatus_eq 1 0 HWX.out.ctx.net rfl (by omega)).mono ?_
                rintro e1 wD ⟨rfl, FD, haD⟩
                have HWD : Hid _ := (HWX.out.aft haD).turn ((Turn.refl [] wD).alloc (.cells #[.int .i64 2, .int .i64 ((i + 1 : Nat) : Int)] 45))
                clear haD p0 p1 HWX
                go_wp2_with fail
                exact ⟨⟨i + 1, 2, FD, V2, a3, _, by go_num, by omega, by omega, HWD.out, hv2, .inr HN.out⟩, by simp [intOf]; omega⟩
              · have HWX : Hid _ := hwx
                obtain ⟨p0, p1⟩ := hwx.ctx.pair.cells
                clear hwx
                go_wp2_with fail
                refine (nStatus_eq 1 0 HWX.out.ctx.net rfl (by omega)).mono ?_
                rintro e1 wD ⟨rfl, FD, haD⟩
                have hwd := HWX.out.aft haD
                have hwe := hwd.turn ((Turn.refl [] wD).alloc (.cells #[.int .i64 3, .int .i64 ((i + 1 : Nat) : Int)] 45))
                have HYE : Hid _ := (hwd.ctx.alloc_new (.cells #[.int .i64 3, .int .i64 ((i + 1 : Nat) : Int)] 45)).2
                have HWE : Hid _ := hwe
                clear haD p0 p1 HWX hwd hwe
                go_wp2_with fail
                refine (taken_any bp bs br 1 FD _ V2 D _ HWE.out.ctx.net HWE.out.ctx.pair HR2.out).mono ?_
                rintro e1 wH ⟨rfl, FH, haH⟩
                have HBH : Hid _ := (HWE.out.ctx.aft haH).bel
                obtain ⟨y0, y1⟩ := (HYE.out.aft haH).two
                clear haH HWE HYE
                go_wp2_with fail
                go_ret
                exact ⟨rfl, HBH.out⟩
end Go.Proofs.YtfbbidaoljfloaaDoor
