import Derived.Test.YtfbbidaoljfloaaDoorE2
namespace Go.Proofs.YtfbbidaoljfloaaDoor
open Go.RowKit Go.MuLone

/-- Where a receiver is with an object of which some frames have come, and the rows that were kept. -/
structure EnA (V : RV) (D : ByteArray) (m : Nat) (Kp : Rx.SetV) (rank : Nat) : Prop where
  prog : Prog V 1 D m
  kept : Kp = V.sofar 1
  rank : rank = Rx.cntR Kp (blocksOf D.size V.blk)
  ready : V.ready = []
structure EnB (V : RV) (D : ByteArray) (Kp : Rx.SetV) (rank : Nat) : Prop where
  dlv : V.dlv 1 = true
  num : V.num = 1
  rnk : V.rnk = blocksOf D.size V.blk
  bks : V.bks = blocksOf D.size V.blk
  ready : V.ready = []
  ok : Rx.SetOk V.blk (blocksOf D.size V.blk) Kp
  all : ∀ j, j < blocksOf D.size V.blk → (Kp j).1 ≠ 0
  rank : rank = blocksOf D.size V.blk
def EnSt (V : RV) (D : ByteArray) (m : Nat) (Kp : Rx.SetV) (rank : Nat) : Prop := EnA V D m Kp rank ∨ EnB V D Kp rank

theorem EnA.ne {V : RV} {D : ByteArray} {m rank : Nat} {Kp : Rx.SetV} (h : EnA V D m Kp rank) (hv : RVOk V) : rank ≠ blocksOf D.size V.blk := by
  have hK1 := blocksOf_pos D.size V.blk
  rw [h.rank, h.kept]
  unfold RV.sofar
  rcases h.prog.track.at_ with q | ⟨q1, q2, q3, q4, q5⟩
  · rw [if_pos q, emptyS_cnt]; omega
  · rw [if_neg (by omega)]
    rcases h.prog.part with p | p
    · omega
    · intro e
      apply p
      rw [hv.cnt, q3]
      exact e
theorem EnSt.ok {V : RV} {D : ByteArray} {m rank : Nat} {Kp : Rx.SetV} (h : EnSt V D m Kp rank) (hv : RVOk V) : Rx.SetOk V.blk (blocksOf D.size V.blk) Kp := by
  rcases h with h | h
  · rw [h.kept]; exact sofar_ok hv h.prog.track
  · exact h.ok
theorem EnSt.last {V : RV} {D : ByteArray} {m rank : Nat} {Kp : Rx.SetV} (h : EnSt V D m Kp rank) (hv : RVOk V) (hd : D.size ≤ 32 * V.blk) (hm : 4 * blocksOf D.size V.blk ≤ m) : rank = blocksOf D.size V.blk := by
  rcases h with h | h
  · have := h.prog.lt hv hd; omega
  · exact h.rank

theorem Prog.keep {V V2 : RV} {num k c : Nat} {data : ByteArray} {nonce : Int} (h : Prog V num data k) (hv : RVOk V) (hd : data.size ≤ 32 * V.blk) (hs : Stepped V V2 num (Dz.rowOf nonce (blocksOf data.size V.blk) c) data) (hnf : ¬ V2.srk = V2.bks) : Prog V2 num data (if c = k then k + 1 else k) := by
  by_cases hc : c = k
  · rw [if_pos hc]
    subst hc
    exact h.next hv hd hs hnf
  · rw [if_neg hc]
    refine ⟨hs.track h.track, .inr hnf, fun m hm h4 => ?_⟩
    rw [hs.sofar, hs.set, hs.blk]
    exact redF_addF _ _ _ _ _ _ (h.red m (by omega) h4)

/-- A frame comes: not yet, just now, or long ago. -/
structure EnOut (V V' : RV) (D : ByteArray) (m : Nat) (Kp : Rx.SetV) (rank : Nat) (ready : Parcels) : Prop where
  num : V'.num = 1
  rnk : V'.rnk = rank
  bks : V'.bks = blocksOf D.size V.blk
  ready : V'.ready = ready
  blk : V'.blk = V.blk
  st : EnSt { V' with ready := [] } D m Kp rank

theorem en_step {V : RV} {D : ByteArray} {m c rank : Nat} {Kp : Rx.SetV} {nonce : Int} (h : EnSt V D m Kp rank) (hv : RVOk V) (hd : D.size ≤ 32 * V.blk) :
    (∃ V', V.handle (fText 1 V.blk (Dz.rowOf nonce (blocksOf D.size V.blk) c) D) = (V', none) ∧ rank ≠ blocksOf D.size V.blk ∧ rank + bitN (Rx.addF 33 Kp (Dz.rowOf nonce (blocksOf D.size V.blk) c) (sumRow D V.blk (Dz.rowOf nonce (blocksOf D.size V.blk) c))).2 ≠ blocksOf D.size V.blk ∧
      EnOut V V' D (if c = m then m + 1 else m) (Rx.addF 33 Kp (Dz.rowOf nonce (blocksOf D.size V.blk) c) (sumRow D V.blk (Dz.rowOf nonce (blocksOf D.size V.blk) c))).1 (rank + bitN (Rx.addF 33 Kp (Dz.rowOf nonce (blocksOf D.size V.blk) c) (sumRow D V.blk (Dz.rowOf nonce (blocksOf D.size V.blk) c))).2) []) ∨
    (∃ V', V.handle (fText 1 V.blk (Dz.rowOf nonce (blocksOf D.size V.blk) c) D) = (V', some (doneB 1 V.blk)) ∧ rank ≠ blocksOf D.size V.blk ∧ rank + bitN (Rx.addF 33 Kp (Dz.rowOf nonce (blocksOf D.size V.blk) c) (sumRow D V.blk (Dz.rowOf nonce (blocksOf D.size V.blk) c))).2 = blocksOf D.size V.blk ∧
      EnOut V V' D (if c = m then m + 1 else m) (Rx.addF 33 Kp (Dz.rowOf nonce (blocksOf D.size V.blk) c) (sumRow D V.blk (Dz.rowOf nonce (blocksOf D.size V.blk) c))).1 (rank + bitN (Rx.addF 33 Kp (Dz.rowOf nonce (blocksOf D.size V.blk) c) (sumRow D V.blk (Dz.rowOf nonce (blocksOf D.size V.blk) c))).2) [(D, 1)]) ∨
    (V.handle (fText 1 V.blk (Dz.rowOf nonce (blocksOf D.size V.blk) c) D) = (V, some (doneB 1 V.blk)) ∧ rank = blocksOf D.size V.blk ∧ rank + bitN (Rx.addF 33 Kp (Dz.rowOf nonce (blocksOf D.size V.blk) c) (sumRow D V.blk (Dz.rowOf nonce (blocksOf D.size V.blk) c))).2 = blocksOf D.size V.blk ∧
      EnOut V V D (if c = m then m + 1 else m) (Rx.addF 33 Kp (Dz.rowOf nonce (blocksOf D.size V.blk) c) (sumRow D V.blk (Dz.rowOf nonce (blocksOf D.size V.blk) c))).1 (rank + bitN (Rx.addF 33 Kp (Dz.rowOf nonce (blocksOf D.size V.blk) c) (sumRow D V.blk (Dz.rowOf nonce (blocksOf D.size V.blk) c))).2) []) := by
  have hK1 := blocksOf_pos D.size V.blk
  have hK := blocksOf_le D.size V.blk hv.b1 hd
  have hr0 := rowOf_ne nonce (blocksOf D.size V.blk) c hK1
  have hr := Dz.rowOf_lt nonce (blocksOf D.size V.blk) c hK1
  rcases h with ha | hb
  · have hne := ha.ne hv
    obtain ⟨V2, hst, hh⟩ := frame_step (row := Dz.rowOf nonce (blocksOf D.size V.blk) c) hv ha.prog.track (by omega) (by omega) hd hr0 hr
    have hset := hst.set
    rw [← ha.kept] at hset
    have hcnt : V2.srk = rank + bitN (Rx.addF 33 Kp (Dz.rowOf nonce (blocksOf D.size V.blk) c) (sumRow D V.blk (Dz.rowOf nonce (blocksOf D.size V.blk) c))).2 := by
      rw [hst.ok.cnt, hset, hst.bks, Rx.addF_cnt hK 33 Kp _ _ (EnSt.ok (.inl ha) hv) hr, ← ha.rank]
      rfl
    rw [← hset, ← hcnt]
    rw [hh]
    by_cases hf : V2.srk = V2.bks
    · rw [if_pos hf]
      refine .inr (.inl ⟨V2.deliver, rfl, hne, by rw [hf, hst.bks], ⟨hst.snum, hst.rnk, hst.bks, ?_, hst.blk, .inr ⟨?_, hst.snum, ?_, ?_, rfl, ?_, ?_, ?_⟩⟩⟩)
      · have := hst.data hf
        rw [ha.ready] at this
        exact this
      · show (if 1 = V2.num then true else V2.dlv 1) = true
        rw [hst.snum, if_pos rfl]
      · show V2.rnk = blocksOf D.size V2.blk
        rw [hst.rnk, hf, hst.bks, hst.blk]
      · show V2.bks = blocksOf D.size V2.blk
        rw [hst.bks, hst.blk]
      · show Rx.SetOk V2.blk (blocksOf D.size V2.blk) V2.set
        rw [hst.blk, ← hst.bks, ← hst.blk]
        exact hst.ok.set
      · show ∀ j, j < blocksOf D.size V2.blk → (V2.set j).1 ≠ 0
        rw [hst.blk, ← hst.bks]
        exact hst.ok.full hf
      · show V2.srk = blocksOf D.size V2.blk
        rw [hf, hst.bks, hst.blk]
    · rw [if_neg hf]
      refine .inl ⟨V2, rfl, hne, by rw [← hst.bks]; exact hf, ⟨hst.snum, hst.rnk, hst.bks, by rw [hst.ready]; exact ha.ready, hst.blk, .inl ⟨?_, ?_, ?_, rfl⟩⟩⟩
      · have := ha.prog.keep hv hd hst hf
        exact ⟨⟨this.track.und, this.track.at_⟩, this.part, this.red⟩
      · exact hst.sofar.symm
      · show V2.srk = Rx.cntR V2.set (blocksOf D.size V2.blk)
        rw [hst.ok.cnt, hst.bks, hst.blk]
  · have hl := frame_late (row := Dz.rowOf nonce (blocksOf D.size V.blk) c) hv hb.dlv (by omega) (by omega) hd hr0 hr
    rw [addF_all hK hb.ok hb.all 33 _ _ hr]
    refine .inr (.inr ⟨hl, hb.rank, hb.rank, ⟨hb.num, ?_, hb.bks, hb.ready, rfl, .inr ⟨hb.dlv, hb.num, hb.rnk, hb.bks, rfl, hb.ok, hb.all, hb.rank⟩⟩⟩)
    rw [hb.rnk]
    exact hb.rank.symm

end Go.Proofs.YtfbbidaoljfloaaDoor
