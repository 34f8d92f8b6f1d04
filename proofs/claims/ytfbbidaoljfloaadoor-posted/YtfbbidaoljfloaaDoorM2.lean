import Derived.Test.YtfbbidaoljfloaaDoorY19
namespace Go.Proofs.YtfbbidaoljfloaaDoor
open Go.RowKit

/-- The receiver is at work on this object, or has not heard of it yet. -/
structure Track (V : RV) (num : Nat) (data : ByteArray) : Prop where
  und : V.dlv num = false
  at_ : V.num < num ∨ (V.num = num ∧ V.len = data.size ∧ V.bks = blocksOf data.size V.blk ∧ GoodSet data V.blk V.set ∧ V.rnk = V.srk)

/-- The set so far. -/
def RV.sofar (V : RV) (num : Nat) : Rx.SetV := if V.num < num then emptyS else V.set

/-- The text of a frame. -/
def fText (num blk row : Nat) (data : ByteArray) : List Nat := sumText num data.size row (sumRow data blk row)
theorem fText_frame (num blk : Nat) (o : Thing) : bytesOf (frameOf num blk o) = fText num blk (Dz.rowOf o.nonce (blocksOf o.data.size blk) o.sent) o.data := by
  unfold frameOf fText sumRow
  exact bytesOf_strOf _ (sumText_lt _ _ _ _ (sumUp_lt _ _ _ _))

structure Stepped (V V2 : RV) (num row : Nat) (data : ByteArray) : Prop where
  blk : V2.blk = V.blk
  snum : V2.num = num
  len : V2.len = data.size
  bks : V2.bks = blocksOf data.size V.blk
  set : V2.set = (Rx.addF 33 (V.sofar num) row (sumRow data V.blk row)).1
  rnk : V2.rnk = V2.srk
  dlv : V2.dlv = V.dlv
  ready : V2.ready = V.ready
  ok : RVOk V2
  good : GoodSet data V.blk V2.set

/-- A FRAME COMES. -/
theorem frame_step {V : RV} {num row : Nat} {data : ByteArray} (hv : RVOk V) (ht : Track V num data) (h1 : 1 ≤ num) (h5 : num ≤ 500) (hd : data.size ≤ 32 * V.blk) (hr0 : row ≠ 0) (hr : row < 2 ^ blocksOf data.size V.blk) :
    ∃ V2, Stepped V V2 num row data ∧ V.handle (fText num V.blk row data) = (if V2.srk = V2.bks then (V2.deliver, some (doneB num V.blk)) else (V2, none)) := by
  have hb1 := hv.b1
  have hb2 := hv.b2
  have hK := blocksOf_le data.size V.blk hb1 hd
  have hr32 := Rx.lt32 hK hr
  have hrd : readS (fText num V.blk row data) V.blk = some (num, data.size, row, sumRow data V.blk row) := by
    have := readS_text (x1 := num) (x2 := data.size) (x3 := row) (ns := sumRow data V.blk row) (by omega) (by omega) hr32
    rw [sumRow_len] at this
    exact this
  have hc : canB num data.size row V.blk = true := canB_iff.2 ⟨h1, h5, hK, hr0, hr⟩
  have hgo : V.gone num data.size row (sumRow data V.blk row) = V.gather num data.size row (sumRow data V.blk row) := by rw [RV.gone, if_neg (by rw [ht.und]; exact Bool.false_ne_true)]
  obtain ⟨f1, f2, f3, f4, f5⟩ := hv.first hc (by omega)
  have hfn : (V.first num data.size).num = num ∧ (V.first num data.size).len = data.size ∧ (V.first num data.size).bks = blocksOf data.size V.blk ∧ (V.first num data.size).set = V.sofar num ∧ GoodSet data V.blk (V.first num data.size).set := by
    unfold RV.first RV.sofar
    rcases ht.at_ with q | ⟨q1, q2, q3, q4, q5⟩
    · rw [if_pos q, if_pos q]
      exact ⟨rfl, rfl, rfl, rfl, fun j hj => absurd rfl hj⟩
    · rw [if_neg (by omega), if_neg (by omega)]
      exact ⟨q1, q2, q3, rfl, q4⟩
  obtain ⟨g1, g2, g3, g4, g5⟩ := hfn
  have hadd := f1.add (x3 := row) (ns := sumRow data V.blk row) (by rw [g3]; exact hr) (by rw [sumRow_len, f2]) (sumRow_lt _ _ _)
  have hgood : GoodSet data V.blk ((V.first num data.size).add row (sumRow data V.blk row)).set := addF_good (by omega) 33 _ row g5
  refine ⟨(V.first num data.size).add row (sumRow data V.blk row), ⟨f2, g1, g2, g3, by show (Rx.addF 33 (V.first num data.size).set row _).1 = _; rw [g4], rfl, f4, f5, hadd, hgood⟩, ?_⟩
  have hga : V.gather num data.size row (sumRow data V.blk row) = ((V.first num data.size).add row (sumRow data V.blk row)).last := by
    unfold RV.gather
    rw [if_neg (by rw [g1, g2]; omega)]
  unfold RV.handle
  rw [hrd]
  simp only
  rw [if_pos hc, hgo, hga]
  unfold RV.last
  by_cases hf : ((V.first num data.size).add row (sumRow data V.blk row)).srk = ((V.first num data.size).add row (sumRow data V.blk row)).bks
  · rw [if_pos hf, if_pos hf]
    have : (((V.first num data.size).add row (sumRow data V.blk row)).deliver).dlv num = true := by
      show (if num = (V.first num data.size).num then true else (V.first num data.size).dlv num) = true
      rw [if_pos g1.symm]
    rw [if_pos this]
  · rw [if_neg hf, if_neg hf]
    have : ((V.first num data.size).add row (sumRow data V.blk row)).dlv num = false := by
      show (V.first num data.size).dlv num = false
      rw [f4]; exact ht.und
    rw [if_neg (by rw [this]; exact Bool.false_ne_true)]

theorem Stepped.track {V V2 : RV} {num row : Nat} {data : ByteArray} (h : Stepped V V2 num row data) (ht : Track V num data) : Track V2 num data :=
  ⟨by rw [h.dlv]; exact ht.und, .inr ⟨h.snum, h.len, by rw [h.blk]; exact h.bks, by rw [h.blk]; exact h.good, h.rnk⟩⟩
theorem Stepped.sofar {V V2 : RV} {num row : Nat} {data : ByteArray} (h : Stepped V V2 num row data) : V2.sofar num = V2.set := by
  unfold RV.sofar
  rw [if_neg (by rw [h.snum]; omega)]

/-- What is delivered is the object. -/
theorem Stepped.data {V V2 : RV} {num row : Nat} {data : ByteArray} (h : Stepped V V2 num row data) (hf : V2.srk = V2.bks) : V2.deliver.ready = V.ready ++ [(data, num)] := by
  show V2.ready ++ [(strOf ((Rx.joinF V2.set V2.bks).take V2.len), V2.num)] = _
  have hb := h.ok.b1
  rw [h.len, joinF_data (data := data) (blk := V2.blk) (by omega) h.ok.bks (by rw [h.bks, h.blk]; exact blocksOf_cover _ _ (by rw [← h.blk]; exact hb)) h.ok.set (h.ok.full hf) (by rw [h.blk]; exact h.good), h.ready, h.snum]

/-- A frame of an object that was delivered. -/
theorem frame_late {V : RV} {num row : Nat} {data : ByteArray} (hv : RVOk V) (hdl : V.dlv num = true) (h1 : 1 ≤ num) (h5 : num ≤ 500) (hd : data.size ≤ 32 * V.blk) (hr0 : row ≠ 0) (hr : row < 2 ^ blocksOf data.size V.blk) :
    V.handle (fText num V.blk row data) = (V, some (doneB num V.blk)) := by
  have hb1 := hv.b1
  have hb2 := hv.b2
  have hK := blocksOf_le data.size V.blk hb1 hd
  have hr32 := Rx.lt32 hK hr
  have hrd : readS (fText num V.blk row data) V.blk = some (num, data.size, row, sumRow data V.blk row) := by
    have := readS_text (x1 := num) (x2 := data.size) (x3 := row) (ns := sumRow data V.blk row) (by omega) (by omega) hr32
    rw [sumRow_len] at this
    exact this
  have hc : canB num data.size row V.blk = true := canB_iff.2 ⟨h1, h5, hK, hr0, hr⟩
  have hgo : V.gone num data.size row (sumRow data V.blk row) = V := by rw [RV.gone, if_pos hdl]
  unfold RV.handle
  rw [hrd]
  simp only
  rw [if_pos hc, hgo, if_pos hdl]

end Go.Proofs.YtfbbidaoljfloaaDoor
