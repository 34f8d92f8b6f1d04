import Derived.Test.YtfbbidaoljfloaaDoorE3
namespace Go.Proofs.YtfbbidaoljfloaaDoor
open Go.RowKit Go.MuLone

/-- A list of numbers that came in. -/
structure Ints (w : World) (sl : Option Addr) (zs : List Int) : Prop where
  at_ : ∀ i x, zs[i]? = some x → ∃ a, sl = some a ∧ a.block < w.heap.size ∧ w.cell? (a.add i) = some (.int .i64 x)
  lo : ∀ x ∈ zs, -9223372036854775808 ≤ x ∧ x ≤ 9223372036854775807
  len : zs.length ≤ 1152921504606846976

structure EnIn (w wr : World) (bs br : Nat) (F : List Nat) (S : SV) (V : RV) (g n cap kb blk : Nat) (D : ByteArray) (nonce : Int) (Kp : Rx.SetV) : Prop where
  net : Net wr bs br F S V
  bel : Below w.heap.size w wr
  new : ∀ g ∈ F, w.heap.size ≤ g
  strs : Strs wr F w.heap.size (.slice (some ⟨g, 0, none⟩) n cap) (framesOf blk D nonce n)
  kept : KeptAt wr kb (fun j => (Kp j).1)
  kbF : kb ∉ F
  kbg : kb ≠ g
  kb0 : w.heap.size ≤ kb
  pos : 0 < w.heap.size
  blk : V.blk = blk

section
variable {w wr w' : World} {bs br : Nat} {F F' : List Nat} {S S' : SV} {V V' : RV} {g n cap kb blk : Nat} {D : ByteArray} {nonce : Int} {Kp Kp' : Rx.SetV}
theorem EnIn.aft (h : EnIn w wr bs br F S V g n cap kb blk D nonce Kp) (ha : NAft wr w' bs br F F' S' V') (hb : V'.blk = V.blk) : EnIn w w' bs br F' S' V' g n cap kb blk D nonce Kp := by
  have hs := h.bel.size
  have hb2 := (Blk.mk h.kept h.kbF).aft ha
  refine ⟨ha.net, h.bel.trans (ha.turn.toBelow h.bel.size h.new), fun q hq => ?_, h.strs.aft ha, hb2.at_, hb2.out, h.kbg, h.kb0, h.pos, hb.trans h.blk⟩
  rcases ha.foot q hq with r | r
  · exact h.new q r
  · omega
theorem EnIn.turn (h : EnIn w wr bs br F S V g n cap kb blk D nonce Kp) (ht : Turn [] wr w') : EnIn w w' bs br F S V g n cap kb blk D nonce Kp :=
  ⟨h.net.turn0 ht, h.bel.trans (ht.toBelow h.bel.size (by simp)), h.new, h.strs.turn ht (by simp), ((Blk.mk h.kept h.kbF).turn ht (by simp)).at_, h.kbF, h.kbg, h.kb0, h.pos, h.blk⟩
theorem EnIn.least (h : EnIn w wr bs br F S V g n cap kb blk D nonce Kp) (ht : Turn [kb] wr w') (hk : KeptAt w' kb (fun j => (Kp' j).1)) : EnIn w w' bs br F S V g n cap kb blk D nonce Kp' := by
  have h0 := h.kb0
  have hp := h.pos
  refine ⟨h.net.turn ht (fun q hq hm => h.kbF (by simp at hm; rwa [hm] at hq)) (by simp; omega), h.bel.trans (ht.toBelow h.bel.size (by simpa using h.kb0)), h.new, h.strs.turn ht (fun k hk2 => ?_), hk, h.kbF, h.kbg, h.kb0, h.pos, h.blk⟩
  obtain rfl : g = k := by simpa [Value.ownBlock] using hk2
  simpa using Ne.symm h.kbg
end

theorem addr_block (a : Addr) (i : Nat) : (a.add i).block = a.block := by unfold Addr.add; split <;> rfl

theorem row_eq (nonce id num : Int) (K : Nat) (w : World) (he : num = id) (hK : 1 ≤ K) (hK2 : K ≤ 32) (hi0 : 0 ≤ id) (hi1 : id < 1048576) :
    Calls Tryd.prog 27 #[.int .u64 nonce, .int .i64 K, .int .i64 num] w fun e w' => e = .returned (.tuple #[.int .u32 (Dz.rowOf nonce K id), .int .i64 0]) ∧ Below w.heap.size w w' := by
  subst he
  exact row_any nonce num K w hK hK2 hi0 hi1
theorem keepPick_eq (c num : Int) (n : Nat) (w : World) (he : num = n) (h1 : -9223372036854775808 ≤ c) (h2 : c ≤ 9223372036854775807) (hn : 0 < n) (hn2 : n ≤ 4611686018427387904) :
    Calls Tryd.prog 26 #[.int .i64 c, .int .i64 num] w fun e w' => ∃ k : Nat, k < n ∧ e = .returned (.int .i64 k) ∧ w' = w := by
  subst he
  exact keepPick_any c n w h1 h2 hn hn2
theorem frames_eq (blk n : Nat) (num : Int) (D : ByteArray) (nonce : Int) (w : World) (he : num = n) (ht : Tab w) (hb1 : 1 ≤ blk) (hb2 : blk ≤ 32) (hn1 : 1 ≤ n) (hn2 : n ≤ 1000) (hd : D.size ≤ 32 * blk) :
    Calls Tryd.prog 25 #[.int .i64 blk, .string D, .int .u64 nonce, .int .i64 num] w fun e w' => ∃ g cap bs br F S, e = .returned (.tuple #[.slice (some ⟨g, 0, none⟩) n cap, .pointer (some ⟨br, 0, none⟩), .bool true]) ∧ Net w' bs br F S (RV.fresh blk) ∧ Below w.heap.size w w' ∧ (∀ g ∈ F, w.heap.size ≤ g) ∧ Strs w' F w.heap.size (.slice (some ⟨g, 0, none⟩) n cap) (framesOf blk D nonce n) := by
  subst he
  exact frames_any blk n D nonce w ht hb1 hb2 hn1 hn2 hd

theorem rank_eq {w : World} {bs br : Nat} {F : List Nat} {S : SV} {V : RV} {a b c : Nat} (h : Net w bs br F S V) (h1 : V.num = a) (h2 : V.rnk = b) (h3 : V.bks = c) :
    Calls Tryd.prog 29 #[.pointer (some ⟨br, 0, none⟩)] w fun e w' => e = .returned (.agg #[.int .i64 (a : Int), .int .i64 (b : Int), .int .i64 (c : Int)]) ∧ ∃ F', NAft w w' bs br F F' S V := by
  subst h1 h2 h3
  exact nRank h

theorem least_eq (kb row : Nat) (K Kq : Nat → Nat) (more : Bool) (w : World) (h : KeptAt w kb K) (hr : row < 4294967296) (hKr : ∀ j, K j < 4294967296) (he : leastF 32 0 K row = (Kq, more)) :
    Calls Tryd.prog 28 #[.pointer (some ⟨kb, 0, none⟩), .int .u32 row] w fun e w' => e = .returned (.bool more) ∧ Turn [kb] w w' ∧ KeptAt w' kb Kq := by
  have := least_any kb row K w h hr hKr
  rw [he] at this
  exact this

theorem rv_ready_nil {V : RV} (h : V.ready = []) : { V with ready := [] } = V := by
  cases V
  simp only at h
  subst h
  rfl
theorem EnSt.mono {V : RV} {D : ByteArray} {m m' rank : Nat} {Kp : Rx.SetV} (h : EnSt V D m Kp rank) (hm : m' ≤ m) : EnSt V D m' Kp rank := by
  rcases h with h | h
  · exact .inl ⟨⟨h.prog.track, h.prog.part, fun k hk h4 => h.prog.red k (by omega) h4⟩, h.kept, h.rank, h.ready⟩
  · exact .inr h

theorem zeros32 : (Array.ofFn fun i : Fin 32 => Value.int .u32 (((emptyS i).1 : Nat) : Int)) = #[.int .u32 0, .int .u32 0, .int .u32 0, .int .u32 0, .int .u32 0, .int .u32 0, .int .u32 0, .int .u32 0, .int .u32 0, .int .u32 0, .int .u32 0, .int .u32 0, .int .u32 0, .int .u32 0, .int .u32 0, .int .u32 0, .int .u32 0, .int .u32 0, .int .u32 0, .int .u32 0, .int .u32 0, .int .u32 0, .int .u32 0, .int .u32 0, .int .u32 0, .int .u32 0, .int .u32 0, .int .u32 0, .int .u32 0, .int .u32 0, .int .u32 0, .int .u32 0] := by rfl

set_option maxRecDepth 100000 in
set_option maxHeartbeats 4000000 in
theorem enough_any (block : Int) (d : ByteArray) (nonce : Int) (sl : Option Addr) (zs : List Int) (zcap : Nat) (w : World) (ht : Tab w) (h1 : -9223372036854775808 ≤ block) (h2 : block ≤ 9223372036854775807) (hz : Ints w sl zs) :
    Calls Tryd.prog 5 #[.int .i64 block, .string d, .int .u64 nonce, .slice sl zs.length zcap] w fun e w' => e = .returned (.bool true) ∧ Below w.heap.size w w' := by
  have hpos : 0 < w.heap.size := World.block_lt_of_cell? w _ (ht 0 0 rfl)
  have hnot := notOp
  have hzl := hz.len
  have HZ : Hid _ := hz
  clear hz
  go_enter Tryd.func5, Tryd.ntmps5
  go_wp2_with fail
  refine (bent_any block 1 32 _ h1 h2 (by omega) (by omega)).mono ?_
  rintro e1 w1 ⟨⟨blk, rfl, hb1, hb2⟩, rfl⟩
  go_wp2_with fail
  refine (fit_any d blk _ hb1 hb2).mono ?_
  rintro e1 w3 ⟨rfl, rfl⟩
  have hd1 := fitD_size d blk
  generalize fitD d blk = D at *
  have hK1 := blocksOf_pos D.size blk
  have hK2 := blocksOf_le D.size blk hb1 hd1
  go_wp2_with fail
  refine (blocks_any D blk _ hb1 hb2 hd1).mono ?_
  rintro e1 w4 ⟨rfl, rfl⟩
  go_wp2_with fail
  refine (frames_eq blk (4 * blocksOf D.size blk + 3) _ D nonce _ (by omega) ht hb1 hb2 (by omega) (by omega) hd1).mono ?_
  rintro e1 w5 ⟨g, cap, bs, br, F5, S5, rfl, hnet, hbel, hnew, hstrs⟩
  have HN5 : Hid _ := hnet
  have HB5 : Hid _ := hbel
  have HS5 : Hid _ := hstrs
  have HW5 : Hid _ := hnew
  clear hnet hbel hstrs hnew
  go_wp2_with fail
  have HI : Hid (EnIn w4 (w5.alloc (.cells #[.int .u32 0, .int .u32 0, .int .u32 0, .int .u32 0, .int .u32 0, .int .u32 0, .int .u32 0, .int .u32 0, .int .u32 0, .int .u32 0, .int .u32 0, .int .u32 0, .int .u32 0, .int .u32 0, .int .u32 0, .int .u32 0, .int .u32 0, .int .u32 0, .int .u32 0, .int .u32 0, .int .u32 0, .int .u32 0, .int .u32 0, .int .u32 0, .int .u32 0, .int .u32 0, .int .u32 0, .int .u32 0, .int .u32 0, .int .u32 0, .int .u32 0, .int .u32 0] 56)) bs br F5 S5 (RV.fresh blk) g (4 * blocksOf D.size blk + 3) cap w5.heap.size blk D nonce emptyS) := by
    have T := (Turn.refl [] w5).alloc (.cells #[.int .u32 0, .int .u32 0, .int .u32 0, .int .u32 0, .int .u32 0, .int .u32 0, .int .u32 0, .int .u32 0, .int .u32 0, .int .u32 0, .int .u32 0, .int .u32 0, .int .u32 0, .int .u32 0, .int .u32 0, .int .u32 0, .int .u32 0, .int .u32 0, .int .u32 0, .int .u32 0, .int .u32 0, .int .u32 0, .int .u32 0, .int .u32 0, .int .u32 0, .int .u32 0, .int .u32 0, .int .u32 0, .int .u32 0, .int .u32 0, .int .u32 0, .int .u32 0] 56)
    have hg := owns_lt HS5.out.owns (g := g) rfl
    refine ⟨Net.turn0 HN5.out T, HB5.out.trans (T.toBelow HB5.out.size (by simp)), HW5.out, HS5.out.turn T (by simp), ?_, fun hm => ?_, by omega, HB5.out.size, hpos, rfl⟩
    · unfold KeptAt
      rw [zeros32]
      exact heap_alloc_new w5 _
    · have := Net.lt HN5.out _ hm; omega
  have HE : Hid (EnSt (RV.fresh blk) D 0 emptyS 0) := .inl ⟨Prog.start rfl (by show 0 < 1; omega), rfl, (emptyS_cnt _).symm, rfl⟩
  clear HN5 HB5 HS5 HW5
  generalize hkb : w5.heap.size = kb at *
  generalize w5.alloc (.cells #[.int .u32 0, .int .u32 0, .int .u32 0, .int .u32 0, .int .u32 0, .int .u32 0, .int .u32 0, .int .u32 0, .int .u32 0, .int .u32 0, .int .u32 0, .int .u32 0, .int .u32 0, .int .u32 0, .int .u32 0, .int .u32 0, .int .u32 0, .int .u32 0, .int .u32 0, .int .u32 0, .int .u32 0, .int .u32 0, .int .u32 0, .int .u32 0, .int .u32 0, .int .u32 0, .int .u32 0, .int .u32 0, .int .u32 0, .int .u32 0, .int .u32 0, .int .u32 0] 56) = w6 at *
  clear hkb
  go_loopw [15, 16] (fun rv iv wr => ∃ (i rank : Nat) (F : List Nat) (S : SV) (V : RV) (Kp : Rx.SetV), rv = .int .i64 rank ∧ iv = .int .i64 i ∧ i ≤ zs.length + (4 * blocksOf D.size blk + 3) ∧ rank ≤ blocksOf D.size blk ∧ EnIn w4 wr bs br F S V g (4 * blocksOf D.size blk + 3) cap kb blk D nonce Kp ∧ EnSt V D (i - zs.length) Kp rank) (fun _ iv _ => zs.length + (4 * blocksOf D.size blk + 3) - (intOf iv).toNat)
  case atStart => exact ⟨0, 0, F5, S5, _, _, rfl, rfl, by omega, by omega, HI.out, by rw [Nat.zero_sub]; exact HE.out⟩
  case round =>
    obtain ⟨i, rank, F1, S1, V1, Kp, rfl, rfl, hi, hrk, hin, hst⟩ := hrel
    clear HI HE
    have HIN : Hid _ := hin
    have HST : Hid (EnSt V1 D (i - zs.length) Kp rank) := hst
    clear hin hst
    by_cases hlt : i < zs.length + (4 * blocksOf D.size blk + 3)
    · have g1 : decide ((i : Int) < (zs.length : Int) + (4 * (blocksOf D.size blk : Int) + 3)) = true := by simp; omega
      have g1' : decide ((i : Int) < (zs.length : Int) + (((4 * blocksOf D.size blk + 3 : Nat) : Int))) = true := by simp; omega
      go_upto_if 64 with fail
      go_cut [17] from 49 to 151 (fun v wx => ∃ c : Nat, v = .int .i64 c ∧ c < 4 * blocksOf D.size blk + 3 ∧ (zs.length ≤ i → c = i - zs.length) ∧ wx = wr)
      case first =>
        by_cases hio : i < zs.length
        · obtain ⟨x, hx⟩ : ∃ x, zs[i]? = some x := ⟨_, List.getElem?_eq_getElem hio⟩
          obtain ⟨a, ha, hab, hac⟩ := HZ.out.at_ i x hx
          obtain ⟨hx1, hx2⟩ := HZ.out.lo x (List.mem_of_getElem? hx)
          subst ha
          have hcell : wr.cell? (a.add i) = some (.int .i64 x) := (HIN.out.bel.cell (by rw [addr_block]; exact hab)).trans hac
          have g2 : decide ((i : Int) < (zs.length : Int)) = true := by simp; omega
          have i0 : (0 : Int) ≤ (i : Int) := by omega
          have i1 : (i : Int) < (zs.length : Int) := by omega
          clear hx hac
          go_wp2_with fail
          refine (keepPick_eq x _ (4 * blocksOf D.size blk + 3) _ (by omega) hx1 hx2 (by omega) (by omega)).mono ?_
          rintro e1 w7 ⟨c, hc, rfl, rfl⟩
          go_wp2_with fail
          go_meet
          exact ⟨c, rfl, hc, fun h => by omega, rfl⟩
        · have g2 : decide ((i : Int) < (zs.length : Int)) = false := by simp; omega
          go_wp2_with fail
          go_meet
          exact ⟨i - zs.length, by congr 1; omega, by omega, fun _ => rfl, rfl⟩
      case rest =>
        obtain ⟨c, rfl, hc, hci, rfl⟩ := hcut
        have hvb := HIN.out.blk
        have HVB : Hid _ := hvb
        clear hvb
        go_wp2_with fail
        refine (row_eq nonce c _ (blocksOf D.size blk) _ (by omega) hK1 hK2 (by omega) (by omega)).mono ?_
        rintro e1 w7 ⟨rfl, hb7⟩
        have hr := Dz.rowOf_lt nonce (blocksOf D.size blk) c hK1
        have hr32 := Rx.lt32 hK2 hr
        have hT7 : Turn [] wc w7 := Turn.below hb7 (Nat.le_refl _)
        have HIN7 : Hid _ := HIN.out.turn hT7
        have hok := EnSt.ok (V := V1) (D := D) (m := i - zs.length) (Kp := Kp) (rank := rank) HST.out HIN.out.net.rok
        rw [HVB.out] at hok
        have HLE : Hid _ := leastF_addF hK2 hok 32 0 (Dz.rowOf nonce (blocksOf D.size blk) c) 33 (sumRow D blk (Dz.rowOf nonce (blocksOf D.size blk) c)) rfl hr (fun i hi => by omega) (by omega)
        have HKR : Hid (∀ j, (Kp j).1 < 4294967296) := fun j => by
          by_cases h0 : (Kp j).1 = 0
          · omega
          · exact Rx.lt32 hK2 (hok.row j h0).1
        have hstep := en_step (V := V1) (D := D) (m := i - zs.length) (Kp := Kp) (rank := rank) (c := c) (nonce := nonce) HST.out HIN.out.net.rok (by rw [HVB.out]; exact hd1)
        rw [HVB.out] at hstep
        have hfr : bytesOf (frameOf 1 blk ⟨D, nonce, 0, (c : Int)⟩) = fText 1 blk (Dz.rowOf nonce (blocksOf D.size blk) c) D := fText_frame 1 blk ⟨D, nonce, 0, (c : Int)⟩
        have HFR : Hid _ := hfr
        have HSTEP : Hid _ := hstep
        clear hstep hfr hb7 hT7 hok hr
        generalize Dz.rowOf nonce (blocksOf D.size blk) c = row at *
        generalize hp : Rx.addF 33 Kp row (sumRow D blk row) = p at *
        clear hp
        obtain ⟨Kq, more⟩ := p
        have HL : Hid (Calls Tryd.prog 28 #[.pointer (some ⟨kb, 0, none⟩), .int .u32 row] w7 fun e w' => e = .returned (.bool more) ∧ Turn [kb] w7 w' ∧ KeptAt w' kb (fun j => (Kq j).1)) := least_eq kb row (fun j => (Kp j).1) _ _ _ HIN7.out.kept hr32 HKR.out HLE.out
        clear HLE HKR
        go_wp2_with fail
        refine (HL.out).mono ?_
        rintro e1 w8 ⟨rfl, ht8, hk8⟩
        have HIN8 : Hid _ := HIN7.out.least ht8 hk8
        clear ht8 hk8 HL HIN7
        go_upto_if 85 with fail
        go_cut [15] from 85 to 88 (fun v wx => v = .int .i64 ((rank + bitN more : Nat) : Int) ∧ wx = w8)
        case first =>
          cases more
          · go_wp2_with fail
            go_meet
            exact ⟨rfl, rfl⟩
          · go_wp2_with fail
            go_meet
            exact ⟨by simp [bitN], rfl⟩
        case rest =>
          obtain ⟨rfl, rfl⟩ := hcut
          obtain ⟨g', cap', hv', hg'⟩ := HIN8.out.strs.get (framesOf_get blk D nonce hc)
          obtain ⟨hgl, hgF, hcell⟩ := hg'
          rw [framesOf_len] at hv'
          obtain ⟨rfl, rfl⟩ : g = g' ∧ cap = cap' := by injection hv' with a b c; injection a with a; injection a with a; exact ⟨a, c⟩
          have c0 : (0 : Int) ≤ (c : Int) := by omega
          have c1 : (c : Int) < ((4 * blocksOf D.size blk + 3 : Nat) : Int) := by omega
          have c2 : (c : Int) < 4 * (blocksOf D.size blk : Int) + 3 := by omega
          have hsm : (frameOf 1 blk ⟨D, nonce, 0, (c : Int)⟩).size ≤ 4611686018427387904 := frameOf_small _ _ _ hb2
          have HRL : Hid (∀ (V' : RV) (m r : Nat), EnSt { V' with ready := [] } D m Kq r → V'.blk = V1.blk → r ≤ blocksOf D.size blk) := fun V' m r hh hbb => by
            have hb3 : V'.blk = blk := hbb.trans HVB.out
            rcases hh with q | q
            · rw [q.rank]
              show Rx.cntR Kq (blocksOf D.size V'.blk) ≤ _
              rw [hb3]
              exact Rx.cntR_le _ _
            · have := q.rank
              rw [this]
              show blocksOf D.size V'.blk ≤ _
              rw [hb3]
              exact Nat.le_refl _
          clear hv' hgl hgF
          have HNH := nHandle (frameOf 1 blk ⟨D, nonce, 0, (c : Int)⟩) HIN8.out.net hsm
          rw [HFR.out] at HNH
          generalize hTT : frameOf 1 blk ⟨D, nonce, 0, (c : Int)⟩ = T at *
          clear HFR hTT
          rcases HSTEP.out with ⟨V2, hV, n1, n2, hout⟩ | ⟨V2, hV, n1, n2, hout⟩ | ⟨hV, n1, n2, hout⟩
          · have q1 : ((rank : Int) == (blocksOf D.size blk : Int)) = false := by rw [beq_eq_false_iff_ne]; omega
            have q2 : ((((rank + bitN more : Nat) : Int)) == (blocksOf D.size blk : Int)) = false := by rw [beq_eq_false_iff_ne]; omega
            have HH : Hid (Calls Tryd.prog 20 #[.pointer (some ⟨br, 0, none⟩), .string T] wc fun e w' => e = .returned (.slice none 0 0) ∧ ∃ F', NAft wc w' bs br F1 F' S1 V2) := by
              refine HNH.mono ?_
              rintro e1 w9 ⟨F9, ha9, hans⟩
              rw [hV] at ha9 hans
              exact ⟨hans.none_ rfl, F9, ha9⟩
            clear HNH HSTEP
            have hrk2 : rank + bitN more ≤ blocksOf D.size blk := HRL.out _ _ _ hout.st hout.blk
            generalize hrr : rank + bitN more = rank2 at *
            have HOUT : Hid _ := hout
            clear hout hrr hV
            go_wp2_with fail
            refine (HH.out).mono ?_
            rintro e1 w9 ⟨rfl, F9, ha9⟩
            have HIN9 : Hid _ := HIN8.out.aft ha9 HOUT.out.blk
            clear ha9 HH
            go_wp2_with fail
            refine (rank_eq HIN9.out.net HOUT.out.num HOUT.out.rnk (HOUT.out.bks.trans (by rw [HVB.out]))).mono ?_
            rintro e1 w10 ⟨rfl, F10, ha10⟩
            have HIN10 : Hid _ := (HIN9.out.aft ha10 rfl).turn ((Turn.refl [] w10).alloc (.cells #[.int .i64 1, .int .i64 rank2, .int .i64 (blocksOf D.size blk)] 63))
            clear ha10 HIN9
            go_wp2_with fail
            refine (nTake_none HIN10.out.net HOUT.out.ready).mono ?_
            rintro e1 w11 ⟨rfl, F11, ha11⟩
            have HIN11 : Hid _ := HIN10.out.aft ha11 rfl
            have hst2 := HOUT.out.st
            rw [rv_ready_nil HOUT.out.ready] at hst2
            have HST2 : Hid _ := EnSt.mono (m' := i + 1 - zs.length) hst2 (by split <;> omega)
            clear ha11 HIN10 hst2
            go_wp2_with fail
            exact ⟨⟨i + 1, rank2, F11, _, _, Kq, rfl, by go_num, by omega, hrk2, HIN11.out, HST2.out⟩, by simp [intOf]; omega⟩
          · have q1 : ((rank : Int) == (blocksOf D.size blk : Int)) = false := by rw [beq_eq_false_iff_ne]; omega
            have q2 : ((((rank + bitN more : Nat) : Int)) == (blocksOf D.size blk : Int)) = true := by rw [beq_iff_eq]; omega
            have HH : Hid (Calls Tryd.prog 20 #[.pointer (some ⟨br, 0, none⟩), .string T] wc fun e w' => ∃ G2, e = .returned (.slice (some ⟨G2, 0, none⟩) 1 1) ∧ ∃ F', NAft wc w' bs br F1 F' S1 V2) := by
              refine HNH.mono ?_
              rintro e1 w9 ⟨F9, ha9, hans⟩
              rw [hV] at ha9 hans
              obtain ⟨G2, g1, g2, g3, g4⟩ := hans.some_ _ rfl
              exact ⟨G2, g1, F9, ha9⟩
            clear HNH HSTEP
            have hrk2 : rank + bitN more ≤ blocksOf D.size blk := HRL.out _ _ _ hout.st hout.blk
            generalize hrr : rank + bitN more = rank2 at *
            have HOUT : Hid _ := hout
            clear hout hrr hV
            subst n2
            go_wp2_with fail
            refine (HH.out).mono ?_
            rintro e1 w9 ⟨G2, rfl, F9, ha9⟩
            have HIN9 : Hid _ := HIN8.out.aft ha9 HOUT.out.blk
            clear ha9 HH
            go_wp2_with fail
            refine (rank_eq HIN9.out.net HOUT.out.num HOUT.out.rnk (HOUT.out.bks.trans (by rw [HVB.out]))).mono ?_
            rintro e1 w10 ⟨rfl, F10, ha10⟩
            have HIN10 : Hid _ := (HIN9.out.aft ha10 rfl).turn ((Turn.refl [] w10).alloc (.cells #[.int .i64 1, .int .i64 (blocksOf D.size blk), .int .i64 (blocksOf D.size blk)] 63))
            clear ha10 HIN9
            go_wp2_with fail
            refine (nTake_some HIN10.out.net HOUT.out.ready).mono ?_
            rintro e1 w11 ⟨rfl, F11, ha11⟩
            have HIN11 : Hid _ := HIN10.out.aft ha11 rfl
            clear ha11 HIN10
            go_wp2_with fail
            exact ⟨⟨i + 1, (blocksOf D.size blk), F11, _, _, Kq, rfl, by go_num, by omega, hrk2, HIN11.out, EnSt.mono HOUT.out.st (by split <;> omega)⟩, by simp [intOf]; omega⟩
          · have q1 : ((rank : Int) == (blocksOf D.size blk : Int)) = true := by rw [beq_iff_eq]; omega
            have q2 : ((((rank + bitN more : Nat) : Int)) == (blocksOf D.size blk : Int)) = true := by rw [beq_iff_eq]; omega
            have HH : Hid (Calls Tryd.prog 20 #[.pointer (some ⟨br, 0, none⟩), .string T] wc fun e w' => ∃ G2, e = .returned (.slice (some ⟨G2, 0, none⟩) 1 1) ∧ ∃ F', NAft wc w' bs br F1 F' S1 V1) := by
              refine HNH.mono ?_
              rintro e1 w9 ⟨F9, ha9, hans⟩
              rw [hV] at ha9 hans
              obtain ⟨G2, g1, g2, g3, g4⟩ := hans.some_ _ rfl
              exact ⟨G2, g1, F9, ha9⟩
            clear HNH HSTEP
            have hrk2 : rank + bitN more ≤ blocksOf D.size blk := HRL.out _ _ _ hout.st hout.blk
            generalize hrr : rank + bitN more = rank2 at *
            have HOUT : Hid _ := hout
            clear hout hrr hV
            subst n2
            go_wp2_with fail
            refine (HH.out).mono ?_
            rintro e1 w9 ⟨G2, rfl, F9, ha9⟩
            have HIN9 : Hid _ := HIN8.out.aft ha9 HOUT.out.blk
            clear ha9 HH
            go_wp2_with fail
            refine (rank_eq HIN9.out.net HOUT.out.num HOUT.out.rnk (HOUT.out.bks.trans (by rw [HVB.out]))).mono ?_
            rintro e1 w10 ⟨rfl, F10, ha10⟩
            have HIN10 : Hid _ := (HIN9.out.aft ha10 rfl).turn ((Turn.refl [] w10).alloc (.cells #[.int .i64 1, .int .i64 (blocksOf D.size blk), .int .i64 (blocksOf D.size blk)] 63))
            clear ha10 HIN9
            go_wp2_with fail
            refine (nTake_none HIN10.out.net HOUT.out.ready).mono ?_
            rintro e1 w11 ⟨rfl, F11, ha11⟩
            have HIN11 : Hid _ := HIN10.out.aft ha11 rfl
            have hst2 := HOUT.out.st
            rw [rv_ready_nil HOUT.out.ready] at hst2
            have HST2 : Hid _ := EnSt.mono (m' := i + 1 - zs.length) hst2 (by split <;> omega)
            clear ha11 HIN10 hst2
            go_wp2_with fail
            exact ⟨⟨i + 1, (blocksOf D.size blk), F11, _, _, Kq, rfl, by go_num, by omega, hrk2, HIN11.out, HST2.out⟩, by simp [intOf]; omega⟩
    · obtain rfl : i = zs.length + (4 * blocksOf D.size blk + 3) := by omega
      have hrK : rank = blocksOf D.size blk := by
        have := EnSt.last (V := V1) (D := D) (m := zs.length + (4 * blocksOf D.size blk + 3) - zs.length) (Kp := Kp) (rank := rank) HST.out HIN.out.net.rok (by rw [HIN.out.blk]; exact hd1) (by rw [HIN.out.blk]; omega)
        rwa [HIN.out.blk] at this
      subst hrK
      go_wp2_with fail
      go_ret
      exact ⟨rfl, HIN.out.bel⟩

end Go.Proofs.YtfbbidaoljfloaaDoor
