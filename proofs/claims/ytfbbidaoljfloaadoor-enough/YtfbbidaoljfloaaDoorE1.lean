import Derived.Test.YtfbbidaoljfloaaDoorK4
namespace Go.Proofs.YtfbbidaoljfloaaDoor
open Go.RowKit Go.MuLone

def framesOf (blk : Nat) (D : ByteArray) (nonce : Int) (n : Nat) : List ByteArray := (List.range n).map (fun (j : Nat) => frameOf 1 blk ⟨D, nonce, 0, (j : Int)⟩)
theorem framesOf_len (blk : Nat) (D : ByteArray) (nonce : Int) (n : Nat) : (framesOf blk D nonce n).length = n := by simp [framesOf]
theorem framesOf_succ (blk : Nat) (D : ByteArray) (nonce : Int) (n : Nat) : framesOf blk D nonce n ++ [frameOf 1 blk ⟨D, nonce, 0, n⟩] = framesOf blk D nonce (n + 1) := by simp [framesOf, List.range_succ]
theorem framesOf_get (blk : Nat) (D : ByteArray) (nonce : Int) {n k : Nat} (h : k < n) : (framesOf blk D nonce n)[k]? = some (frameOf 1 blk ⟨D, nonce, 0, k⟩) := by simp [framesOf, h]

structure FrIn (w wr : World) (bp bs br : Nat) (F : List Nat) (blk n i : Nat) (st : Int) (D : ByteArray) (nonce : Int) (v : Value) : Prop where
  ctx : Ctx w wr bp bs br F (⟨blk, n, 0, [⟨D, nonce, st, i⟩]⟩ : SV) (RV.fresh blk)
  strs : Strs wr F w.heap.size v (framesOf blk D nonce i)
  ap : v.ownBlock ≠ some bp

set_option maxRecDepth 100000 in
set_option maxHeartbeats 4000000 in
theorem frames_any (blk n : Nat) (D : ByteArray) (nonce : Int) (w : World) (ht : Tab w) (hb1 : 1 ≤ blk) (hb2 : blk ≤ 32) (hn1 : 1 ≤ n) (hn2 : n ≤ 1000) (hd : D.size ≤ 32 * blk) :
    Calls Tryd.prog 25 #[.int .i64 blk, .string D, .int .u64 nonce, .int .i64 n] w fun e w' => ∃ g cap bs br F S, e = .returned (.tuple #[.slice (some ⟨g, 0, none⟩) n cap, .pointer (some ⟨br, 0, none⟩), .bool true]) ∧ Net w' bs br F S (RV.fresh blk) ∧ Below w.heap.size w w' ∧ (∀ g ∈ F, w.heap.size ≤ g) ∧ Strs w' F w.heap.size (.slice (some ⟨g, 0, none⟩) n cap) (framesOf blk D nonce n) := by
  have hpos : 0 < w.heap.size := World.block_lt_of_cell? w _ (ht 0 0 rfl)
  have hnot := notOp
  go_enter Tryd.func25, Tryd.ntmps25
  go_wp2_with fail
  refine (pair_any blk n _ ht hb1 hb2 hn1 hn2).mono ?_
  rintro e1 w2 ⟨bp, bs, br, F, rfl, hbel, hpa, hnet, hnew, hbp, hbpF⟩
  have hctx : Ctx w w2 bp bs br F _ _ := ⟨hnet, hpa, hbpF, hbel, hnew, hpos⟩
  obtain ⟨p0, p1⟩ := hpa.cells
  have HC : Hid _ := hctx
  clear hctx hnet hpa hbpF hbel hnew
  go_wp2_with fail
  refine (nSubmit D nonce HC.out.net hd (by simp [SV.fresh]) (by simp [SV.fresh, cntSt])).mono ?_
  rintro e1 w5 ⟨rfl, F5, ha5⟩
  have hc5 := HC.out.aft ha5
  have HC5 : Hid _ := hc5
  clear hc5 ha5 HC p0 p1
  go_wp2_with fail
  have HI : Hid (FrIn w w5 bp bs br F5 blk n 0 1 D nonce (.slice none 0 0)) := ⟨HC5.out, Strs.nil _ _ _, by simp [Value.ownBlock]⟩
  go_loopw [15, 16] (fun lv v wr => ∃ (i : Nat) (st : Int) (F : List Nat), v = .int .i64 i ∧ i ≤ n ∧ FrIn w wr bp bs br F blk n i st D nonce lv) (fun _ v _ => n - (intOf v).toNat)
  case atStart => exact ⟨0, 1, F5, rfl, Nat.zero_le _, HI.out⟩
  case round =>
    obtain ⟨i, st, F1, rfl, hi, hfi⟩ := hrel
    clear HC5 HI
    obtain ⟨p0, p1⟩ := hfi.ctx.pair.cells
    obtain ⟨sl, cap, hv, hcap⟩ := hfi.strs.shape
    rw [framesOf_len] at hv hcap
    subst hv
    have HFI : Hid _ := hfi
    clear hfi
    by_cases hin : i < n
    · have g1 : decide ((i : Int) < (n : Int)) = true := by simp; omega
      go_wp2_with fail
      refine (nTick_send HFI.out.ctx.net (o := ⟨D, nonce, st, i⟩) rfl (by show (i : Int) < (n : Int); omega)).mono ?_
      rintro e1 w7 ⟨G, rfl, hG, hcG, F7, ha7, hGF⟩
      have hc7 := HFI.out.ctx.aft ha7
      have hs7 := HFI.out.strs.aft ha7
      have hGc := (Blk.mk hcG hGF).one
      have hlt7 := hc7.net.lt
      have hsz7 := hc7.bel.size
      go_upto_region 8 with (at_builtin; refine wpList_strs _ rfl _ _ rfl _ _ hs7 rfl G 1 rfl _ hGc (by rw [framesOf_len]; omega) hlt7 hsz7 ?_; intro g2 cap2 w8 hs8 ht8 hat8)
      have hap := HFI.out.ap
      have hc8 := hc7.grown hs7 ht8 hap
      have HC8 : Hid (Ctx w w8 bp bs br F7 (⟨blk, n, 0, [⟨D, nonce, 2, ((i + 1 : Nat) : Int)⟩]⟩ : SV) (RV.fresh blk)) := hc8
      rw [show framesOf blk D nonce i ++ [frameOf (SV.en ⟨blk, n, 0, [⟨D, nonce, st, (i : Int)⟩]⟩ + 1) (SV.blk ⟨blk, n, 0, [⟨D, nonce, st, (i : Int)⟩]⟩) ⟨D, nonce, st, (i : Int)⟩] = framesOf blk D nonce (i + 1) from framesOf_succ blk D nonce i] at hs8
      have hap8 : (Value.slice (some ⟨g2, 0, none⟩) ((framesOf blk D nonce i).length + 1) cap2).ownBlock ≠ some bp := by
        intro e
        obtain rfl : g2 = bp := by simpa [Value.ownBlock] using e
        rcases hat8 with q | q
        · exact hap q
        · have := hc7.blk.lt; omega
      have HS8 : Hid _ := hs8
      clear hc7 hs7 hGc hlt7 hsz7 hs8 ht8 hat8 ha7 hcG hc8 p0 p1
      go_wp2_with fail
      exact ⟨⟨i + 1, 2, F7, by go_num, by omega, HC8.out, HS8.out, hap8⟩, by simp [intOf]; omega⟩
    · obtain rfl : i = n := by omega
      have g1 : decide ((i : Int) < (i : Int)) = false := by simp
      go_wp2_with fail
      refine (nTick_fail HFI.out.ctx.net (o := ⟨D, nonce, st, i⟩) rfl rfl).mono ?_
      rintro e1 w7 ⟨rfl, F7, ha7⟩
      have hc7 := HFI.out.ctx.aft ha7
      have hs7 := HFI.out.strs.aft ha7
      have HC7 : Hid _ := hc7
      have HS7 : Hid _ := hs7
      obtain ⟨p0, p1⟩ := hc7.pair.cells
      clear hc7 hs7 ha7
      go_wp2_with fail
      refine (nStatus_eq _ 0 (o := ⟨.empty, 0, 4, i⟩) HC7.out.net rfl (by omega)).mono ?_
      rintro e1 w8 ⟨rfl, F8, ha8⟩
      have hc8 := HC7.out.aft ha8
      have hs8 := HS7.out.aft ha8
      obtain ⟨hc9, hQ9⟩ := hc8.alloc_new (.cells #[.int .i64 4, .int .i64 (i : Int)] 45)
      have hs9 := hs8.turn ((Turn.refl [] w8).alloc (.cells #[.int .i64 4, .int .i64 (i : Int)] 45)) (by simp)
      have HC9 : Hid _ := hc9
      have HS9 : Hid _ := hs9
      have HQ9 : Hid _ := hQ9
      clear hc8 hs8 ha8 hc9 hs9 hQ9 HC7 HS7 p0 p1
      go_wp2_with fail
      generalize w8.heap.size = R at *
      generalize w8.alloc (.cells #[.int .i64 4, .int .i64 (i : Int)] 45) = w9 at *
      obtain ⟨p0, p1⟩ := HC9.out.pair.cells
      obtain ⟨q0, q1⟩ := HQ9.out.two
      go_region
      obtain ⟨g, cap', hv, _⟩ := HS9.out.get (framesOf_get blk D nonce (show 0 < i by omega))
      rw [framesOf_len] at hv
      obtain ⟨rfl, rfl⟩ : sl = some ⟨g, 0, none⟩ ∧ cap = cap' := by injection hv with a b c; exact ⟨a, c⟩
      clear p0 p1 q0 q1 hv
      go_wp2_with fail
      have hd9 : Turn [] w9 w9.drew := (Turn.refl [] w9).drew
      refine bodyPost_ret (results_tmp3 rfl _ _ _) rfl ⟨g, cap, bs, br, F8, _, rfl, HC9.out.net.drew, (HC9.out.turn hd9).bel, HC9.out.new, HS9.out.turn hd9 (by simp)⟩

end Go.Proofs.YtfbbidaoljfloaaDoor
