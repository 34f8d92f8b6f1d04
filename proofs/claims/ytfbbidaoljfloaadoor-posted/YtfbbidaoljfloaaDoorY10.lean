import Derived.Test.YtfbbidaoljfloaaDoorY9
namespace Go.Proofs.YtfbbidaoljfloaaDoor
open Go.RowKit

/-- A receiver, as a thing of numbers. -/
structure RV where
  blk : Nat
  num : Nat
  rnk : Nat
  bks : Nat
  len : Nat
  set : Rx.SetV
  srk : Nat
  dlv : Nat → Bool
  ready : Parcels

def emptyS : Rx.SetV := fun _ => (0, [])
def RV.begin (V : RV) (x1 x2 : Nat) : RV := { V with num := x1, rnk := 0, bks := blocksOf x2 V.blk, len := x2, set := emptyS, srk := 0 }
def RV.add (V : RV) (x3 : Nat) (ns : List Nat) : RV := { V with set := (Rx.addF 33 V.set x3 ns).1, srk := V.srk + bitN (Rx.addF 33 V.set x3 ns).2, rnk := V.srk + bitN (Rx.addF 33 V.set x3 ns).2 }
def RV.deliver (V : RV) : RV := { V with set := emptyS, srk := 0, dlv := fun i => if i = V.num then true else V.dlv i, ready := V.ready ++ [(strOf ((Rx.joinF V.set V.bks).take V.len), V.num)] }
def RV.first (V : RV) (x1 x2 : Nat) : RV := if V.num < x1 then V.begin x1 x2 else V
def RV.last (V : RV) : RV := if V.srk = V.bks then V.deliver else V
def RV.gather (V : RV) (x1 x2 x3 : Nat) (ns : List Nat) : RV :=
  if x1 < (V.first x1 x2).num ∨ x2 ≠ (V.first x1 x2).len then V.first x1 x2 else ((V.first x1 x2).add x3 ns).last

def cntD (d : Nat → Bool) : Nat := (List.range 501).countP d
theorem cntD_le (d : Nat → Bool) : cntD d ≤ 501 := by
  have := List.countP_le_length (p := d) (l := List.range 501)
  simpa [cntD] using this
theorem cntD_set {d : Nat → Bool} {n : Nat} (h : d n = false) (hn : n < 501) : cntD (fun i => if i = n then true else d i) = cntD d + 1 := by
  have : ∀ K, (List.range K).countP (fun i => if i = n then true else d i) = (List.range K).countP d + if n < K then 1 else 0 := by
    intro K
    induction K with
    | zero => simp
    | succ K ih =>
      rw [List.range_succ, List.countP_append, List.countP_append, ih, List.countP_cons, List.countP_cons, List.countP_nil, List.countP_nil]
      by_cases hK : K = n
      · subst hK
        simp [h]
      · have e : (if n < K then 1 else 0) = (if n < K + 1 then 1 else 0) := by
          by_cases hl : n < K
          · rw [if_pos hl, if_pos (by omega)]
          · rw [if_neg hl, if_neg (by omega)]
        rw [if_neg hK, e]
        omega
  unfold cntD
  rw [this, if_pos hn]

/-- What a receiver keeps to. -/
structure RVOk (V : RV) : Prop where
  b1 : 1 ≤ V.blk
  b2 : V.blk ≤ 32
  num : V.num ≤ 500
  bks : V.bks ≤ 32
  set : Rx.SetOk V.blk V.bks V.set
  cnt : V.srk = Rx.cntR V.set V.bks
  shape : 1 ≤ V.num → V.bks = blocksOf V.len V.blk ∧ V.len < 65536
  ready : V.ready.length ≤ cntD V.dlv
  zero : V.dlv 0 = false

theorem emptyS_ok (blk K : Nat) : Rx.SetOk blk K emptyS := ⟨fun _ hj => absurd rfl hj⟩
theorem emptyS_cnt (K : Nat) : Rx.cntR emptyS K = 0 := by
  unfold Rx.cntR
  rw [List.countP_eq_zero]
  intro j _
  simp [emptyS]

theorem canB_iff {x1 x2 x3 blk : Nat} : canB x1 x2 x3 blk = true ↔ 1 ≤ x1 ∧ x1 ≤ 500 ∧ blocksOf x2 blk ≤ 32 ∧ x3 ≠ 0 ∧ x3 < 2 ^ blocksOf x2 blk := by
  simp [canB, and_assoc]

theorem RVOk.first {V : RV} (h : RVOk V) {x1 x2 x3 : Nat} (hc : canB x1 x2 x3 V.blk = true) (hx2 : x2 < 65536) : RVOk (V.first x1 x2) ∧ (V.first x1 x2).blk = V.blk ∧ x1 ≤ (V.first x1 x2).num ∧ (V.first x1 x2).dlv = V.dlv ∧ (V.first x1 x2).ready = V.ready := by
  obtain ⟨c1, c2, c3, c4, c5⟩ := canB_iff.1 hc
  unfold RV.first
  by_cases hl : V.num < x1
  · rw [if_pos hl]
    exact ⟨⟨h.b1, h.b2, c2, c3, emptyS_ok _ _, (emptyS_cnt _).symm, fun _ => ⟨rfl, hx2⟩, h.ready, h.zero⟩, rfl, Nat.le_refl _, rfl, rfl⟩
  · rw [if_neg hl]
    exact ⟨h, rfl, by omega, rfl, rfl⟩

theorem RVOk.add {V : RV} (h : RVOk V) {x3 : Nat} {ns : List Nat} (hx : x3 < 2 ^ V.bks) (hl : ns.length = V.blk) (hb : ∀ b ∈ ns, b < 256) : RVOk (V.add x3 ns) := by
  refine ⟨h.b1, h.b2, h.num, h.bks, Rx.addF_ok h.bks 33 _ _ _ h.set hx hl hb, ?_, h.shape, h.ready, h.zero⟩
  show V.srk + bitN (Rx.addF 33 V.set x3 ns).2 = Rx.cntR (Rx.addF 33 V.set x3 ns).1 V.bks
  rw [Rx.addF_cnt h.bks 33 _ _ _ h.set hx, h.cnt]
  rfl

theorem RVOk.deliver {V : RV} (h : RVOk V) (hd : V.dlv V.num = false) (hn : 1 ≤ V.num) : RVOk V.deliver := by
  refine ⟨h.b1, h.b2, h.num, h.bks, emptyS_ok _ _, (emptyS_cnt _).symm, h.shape, ?_, ?_⟩
  · show (V.ready ++ [_]).length ≤ cntD (fun i => if i = V.num then true else V.dlv i)
    rw [cntD_set hd (by have := h.num; omega), List.length_append]
    have := h.ready
    simp
    omega
  · show (if 0 = V.num then true else V.dlv 0) = false
    rw [if_neg (by omega)]
    exact h.zero

theorem RVOk.full {V : RV} (h : RVOk V) (e : V.srk = V.bks) : ∀ t, t < V.bks → (V.set t).1 ≠ 0 := Rx.cntR_full (by rw [← h.cnt]; exact e)

theorem blocksOf_cover (len blk : Nat) (h : 1 ≤ blk) : len ≤ blocksOf len blk * blk := by
  unfold blocksOf
  have h1 := Nat.div_add_mod (len + blk - 1) blk
  have h2 := Nat.mod_lt (len + blk - 1) (show 0 < blk by omega)
  have h3 : (len + blk - 1) / blk * blk ≤ max 1 ((len + blk - 1) / blk) * blk := Nat.mul_le_mul_right _ (by omega)
  rw [Nat.mul_comm] at h1
  omega

def RC.foot (R : RC) (br : Nat) : List Nat := br :: (R.blocks ++ R.rdy.ownBlock.toList)

/-- The receiver in memory. -/
structure Recv (w : World) (br : Nat) (R : RC) (V : RV) : Prop where
  held : Held w br R V.set
  eblk : R.blk = V.blk
  enum : R.num = V.num
  ernk : R.rnk = V.rnk
  ebks : R.bks = V.bks
  elen : R.len = V.len
  esrk : R.srk = V.srk
  edlv : R.dlv = V.dlv
  owns : w.ownsRow 0 132 2 R.rdy V.ready.length (parcelCells V.ready)
  rn1 : R.rdy.ownBlock ≠ some br
  rn2 : ∀ g ∈ R.blocks, R.rdy.ownBlock ≠ some g

theorem Recv.turn {S : List Nat} {w w' : World} {br : Nat} {R : RC} {V : RV} (h : Recv w br R V) (ht : Turn S w w') (hn : ∀ g ∈ R.foot br, g ∉ S) : Recv w' br R V :=
  ⟨h.held.turn ht (hn br (by simp [RC.foot])) (fun g hg => hn g (by simp [RC.foot, hg])), h.eblk, h.enum, h.ernk, h.ebks, h.elen, h.esrk, h.edlv,
   ht.owns h.owns (fun k hk => hn k (by simp [RC.foot, hk])), h.rn1, h.rn2⟩
theorem Recv.lt {w : World} {br : Nat} {R : RC} {V : RV} (h : Recv w br R V) : ∀ g ∈ R.foot br, g < w.heap.size := by
  intro g hg
  simp only [RC.foot, List.mem_cons, List.mem_append, Option.mem_toList] at hg
  rcases hg with rfl | hg | hg
  · exact h.held.at_.lt
  · exact h.held.lt g hg
  · exact (h.owns.lt g hg).2

structure Aft (w w' : World) (br : Nat) (R R' : RC) (V' : RV) : Prop where
  recv : Recv w' br R' V'
  lk : R'.lk = R.lk
  turn : Turn (R.foot br) w w'
  foot : ∀ g ∈ R'.foot br, g ∈ R.foot br ∨ w.heap.size ≤ g

theorem Aft.refl {w : World} {br : Nat} {R : RC} {V : RV} (h : Recv w br R V) : Aft w w br R R V := ⟨h, rfl, Turn.refl _ _, fun _ hg => .inl hg⟩
theorem Aft.trans {w w1 w2 : World} {br : Nat} {R R1 R2 : RC} {V1 V2 : RV} (h : Aft w w1 br R R1 V1) (k : Aft w1 w2 br R1 R2 V2) : Aft w w2 br R R2 V2 :=
  ⟨k.recv, k.lk.trans h.lk, h.turn.trans k.turn h.foot, fun g hg => by
    rcases k.foot g hg with q | q
    · exact h.foot g q
    · exact .inr (Nat.le_trans h.turn.size q)⟩
theorem Aft.zero {w w' : World} {br : Nat} {R R' : RC} {V' : RV} (h : Aft w w' br R R' V') (h0 : 0 ∉ R.foot br) (hs : 0 < w.heap.size) : 0 ∉ R'.foot br := fun hm => by
  rcases h.foot 0 hm with q | q
  · exact h0 q
  · omega

theorem Recv.begin {w w' : World} {br : Nat} {R : RC} {V : RV} (h : Recv w br R V) (x1 x2 : Nat) (ht : Turn [br] w w') (ha : RAt w' br (RC.emptied { R with num := x1, rnk := 0, bks := blocksOf x2 R.blk, len := x2 })) :
    Aft w w' br R (RC.emptied { R with num := x1, rnk := 0, bks := blocksOf x2 R.blk, len := x2 }) (V.begin x1 x2) := by
  have hbl : (RC.emptied { R with num := x1, rnk := 0, bks := blocksOf x2 R.blk, len := x2 }).blocks = [] := by
    rw [List.eq_nil_iff_forall_not_mem]
    intro g hg
    obtain ⟨j, _, e⟩ := RC.mem_blocks.1 hg
    cases e
  refine ⟨⟨⟨ha, fun j _ => rfl, fun j _ => .inl ⟨rfl, rfl⟩, fun i j g _ _ _ e => by cases e⟩, h.eblk, rfl, rfl, (show blocksOf x2 R.blk = blocksOf x2 V.blk by rw [h.eblk]), rfl, rfl, h.edlv, ?_, h.rn1, by rw [hbl]; simp⟩, rfl, ht.mono (by simp [RC.foot]), ?_⟩
  · exact ht.owns h.owns (fun k hk => by
      intro hm
      simp at hm
      rw [hm] at hk
      exact h.rn1 hk)
  · intro g hg
    left
    unfold RC.foot at hg ⊢
    rw [hbl] at hg
    simp only [List.nil_append, List.mem_cons] at hg
    rcases hg with q | q
    · simp [q]
    · have q' : g ∈ R.rdy.ownBlock.toList := q
      simp at q'
      simp [q']

end Go.Proofs.YtfbbidaoljfloaaDoor
