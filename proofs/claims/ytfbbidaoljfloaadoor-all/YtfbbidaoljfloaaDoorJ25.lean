import Derived.Test.YtfbbidaoljfloaaDoorJ24
import Derived.Deep.Cut
import Derived.Deep.CutRange
namespace Go.Proofs.YtfbbidaoljfloaaDoor
open Go.RowKit

/-- What was delivered and not taken. -/
abbrev Parcels := List (ByteArray × Nat)
def parcelCells (l : Parcels) : List Value := l.flatMap (fun p => [.string p.1, .int .i64 (p.2 : Nat)])
theorem parcelCells_len (l : Parcels) : (parcelCells l).length = l.length * 2 := by
  unfold parcelCells
  induction l with
  | nil => rfl
  | cons p l ih => simp only [List.flatMap_cons, List.length_append, ih, List.length_cons]; simp; omega
theorem parcelCells_append (a b : Parcels) : parcelCells (a ++ b) = parcelCells a ++ parcelCells b := List.flatMap_append
theorem infoParcel : (Tryd.prog.info? 132).map (fun i => (i.zero, i.size, i.bytes)) = some (some (.agg #[.string .empty, .int .i64 0]), 2, 24) := by kernel_rfl

theorem BRow.cut {w : World} {g n cap : Nat} {ns : List Nat} (h : BRow w g n cap ns) (m : Nat) (hm : m ≤ n) : BRow w g m cap (ns.take m) :=
  ⟨⟨fun k x hx => h.cells.cell k x (by
      have hk : k < m := by
        have := (List.getElem?_eq_some_iff.1 hx).1
        simp at this
        omega
      rwa [List.getElem?_take_of_lt hk] at hx), fun b hb => h.cells.lt b (List.mem_of_mem_take hb)⟩, by rw [List.length_take, h.len]; omega, h.room, Nat.le_trans hm h.le⟩

structure D0 (w wc : World) (br : Nat) (R : RC) : Prop where
  turn : Turn (br :: R.blocks) w wc
  at_ : ∃ rows', RAt wc br { R with rows := rows' }

theorem RAt.c5 {w : World} {br : Nat} {R : RC} (h : RAt w br R) : w.cell? ⟨br, 5, none⟩ = some (.int .i64 R.bks) := h.cell (by decide)
theorem RAt.c6 {w : World} {br : Nat} {R : RC} (h : RAt w br R) : w.cell? ⟨br, 6, none⟩ = some (.int .i64 R.len) := h.cell (by decide)
theorem RAt.c2 {w : World} {br : Nat} {R : RC} (h : RAt w br R) : w.cell? ⟨br, 2, none⟩ = some (.int .i64 R.blk) := h.cell (by decide)
theorem RAt.c3 {w : World} {br : Nat} {R : RC} (h : RAt w br R) : w.cell? ⟨br, 3, none⟩ = some (.int .i64 R.num) := h.cell (by decide)
theorem RAt.c4 {w : World} {br : Nat} {R : RC} (h : RAt w br R) : w.cell? ⟨br, 4, none⟩ = some (.int .i64 R.rnk) := h.cell (by decide)
theorem RAt.c71 {w : World} {br : Nat} {R : RC} (h : RAt w br R) : w.cell? ⟨br, 71, none⟩ = some (.int .i64 R.srk) := h.cell (by decide)
theorem RAt.c573 {w : World} {br : Nat} {R : RC} (h : RAt w br R) : w.cell? ⟨br, 573, none⟩ = some R.rdy := h.cell (by decide)
theorem RAt.c0 {w : World} {br : Nat} {R : RC} (h : RAt w br R) : w.cell? ⟨br, 0, none⟩ = some (.int .i32 R.lk) := h.cell (by decide)

structure DelAft (w w' : World) (br : Nat) (R : RC) (ready : Parcels) (rdy' : Value) : Prop where
  turn : Turn (br :: (R.blocks ++ R.rdy.ownBlock.toList)) w w'
  at_ : RAt w' br (RC.emptied { R with rdy := rdy', dlv := fun i => if i = R.num then true else R.dlv i })
  owns : w'.ownsRow 0 132 2 rdy' ready.length (parcelCells ready)
  new : ∀ g, rdy'.ownBlock = some g → R.rdy.ownBlock = some g ∨ w.heap.size ≤ g

set_option maxRecDepth 100000 in
set_option maxHeartbeats 1600000 in
theorem deliver_any (br : Nat) (R : RC) (S : Rx.SetV) (ready : Parcels) (w : World) (h : Held w br R S) (hok : Rx.SetOk R.blk R.bks S) (hK : R.bks ≤ 32) (hK1 : 1 ≤ R.bks) (ht : Tab w) (hb0 : 0 ∉ br :: R.blocks) (hnz : ∀ t, t < R.bks → (S t).1 ≠ 0) (h1 : 1 ≤ R.blk) (h2 : R.blk ≤ 32)
    (hlen : R.len ≤ R.bks * R.blk) (hnum : R.num ≤ 500) (ho : w.ownsRow 0 132 2 R.rdy ready.length (parcelCells ready)) (hrl : ready.length ≤ 1000) (hr1 : R.rdy.ownBlock ≠ some br) (hr2 : ∀ g ∈ R.blocks, R.rdy.ownBlock ≠ some g) :
    Calls Tryd.prog 80 #[.pointer (some ⟨br, 0, none⟩)] w fun e w' => e = .returned (.tuple #[]) ∧ ∃ rdy', DelAft w w' br R (ready ++ [(strOf ((Rx.joinF S R.bks).take R.len), R.num)]) rdy' := by
  obtain ⟨i0, hi, hz0, hz1, hz2⟩ := info_parts infoParcel
  have c5 := h.at_.c5
  have c6 := h.at_.c6
  have HH : Hid (Held w br R S) := h
  have hblk : R.bks * R.blk ≤ 32 * 32 := Nat.mul_le_mul hK h2
  clear h
  go_enter Tryd.func80, Tryd.ntmps80
  go_upto_region 0 with fail
  go_cut [2] from 3 to 17 (fun v wx => v = .string (strOf ((Rx.joinF S R.bks).take R.len)) ∧ D0 w wx br R)
  case first =>
    refine wp_region_noPanic ?_
    go_region_law (first
      | (go_simp; go_at_call 106; refine (join_any br R S R.bks w.drew (HH.out.turn ((Turn.refl [] w).drew) (by simp) (by simp)) hok hK hK1 ht hb0 hnz h1 h2).mono ?_; rintro e w2 ⟨g, c, rfl, hj⟩; obtain ⟨rows', hR⟩ := hj.at_; have d6 := hR.c6; have hcap := hj.bytes.brow.le; have e1 : (0 : Int) ≤ (R.len : Int) := (by omega); have e2 : R.len ≤ c := (by omega); have hcv := BRow.conv (BRow.cut hj.bytes.brow R.len hlen)))
    all_goals
      refine NoPanic.normal ?_
      go_wp2_with fail
      go_meet
      exact ⟨rfl, ((Turn.refl _ w).drew).trans hj.turn (fun x hx => .inl hx), rows', hR⟩
  case rest =>
    obtain ⟨rfl, hD⟩ := hcut
    obtain ⟨rows', hR⟩ := hD.at_
    have d3 := hR.c3
    have d573 := hR.c573
    have dlt := hR.lt
    have hf := hR.frozen 573
    have how : wc.ownsRow 0 132 2 R.rdy ready.length (parcelCells ready) := hD.turn.owns ho (fun x hx hm => by
      rcases List.mem_cons.1 hm with q | q
      · rw [q] at hx; exact hr1 hx
      · exact hr2 x q hx)
    have HD : Hid _ := hD
    have HR : Hid (RAt wc br { R with rows := rows' }) := hR
    clear hR hD
    go_upto_region 1 with fail
    go_cut [] from 18 to 33 (fun wx => ∃ rdy', (Turn (br :: R.rdy.ownBlock.toList) wc wx ∧ RAt wx br { R with rows := rows', rdy := rdy' } ∧ wx.ownsRow 0 132 2 rdy' (ready.length + 1) (parcelCells (ready ++ [(strOf ((Rx.joinF S R.bks).take R.len), R.num)])) ∧ (∀ g, rdy'.ownBlock = some g → R.rdy.ownBlock = some g ∨ wc.heap.size ≤ g)))
    case first =>
      refine wp_region_noPanic ?_
      go_region_law (first
        | (refine step_append_far _ (by rfl) _ _ 121 (by rfl) 132 i0 _ 2 24 Tryd.underlying121 hi hz0 hz1 hz2 rfl (by decide) R.rdy ready.length (parcelCells ready) (by simp [Act.eval]) (how.alloc _) ⟨wc.heap.size, 0, none⟩ 1 1 [.string (strOf ((Rx.joinF S R.bks).take R.len)), .int .i64 R.num] (by simp [Act.eval]) rfl (World.news_of_block (heap_alloc_new wc _)) (by intro u hu; simp at hu; rcases hu with rfl | rfl <;> rfl) (by decide) (by unfold maxLen; omega) (by omega) ?_; intro g cap' wa hown hgrow hat hlt; have hca := (hgrow.cell_far ⟨br, 573, none⟩ (by simp; omega) (Ne.symm hr1)).trans (cellNew d573 _); have hfa := (hgrow.frozen_far ⟨br, 573, none⟩ (by simp; omega) (Ne.symm hr1)).trans (frozenNew hf dlt _)))
      all_goals
        refine NoPanic.normal ?_
        go_wp2_with fail
        go_meet
        have hT : Turn R.rdy.ownBlock.toList wc wa := (((Turn.refl _ wc).drew).alloc _).grown hgrow (fun x hx => .inl (by simp [hx]))
        have hnb : br ∉ R.rdy.ownBlock.toList := fun q => hr1 (by simpa using q)
        have hgb : g ≠ br := by
          rcases hat with q | q
          · intro e; exact hr1 (by rw [q, e])
          · simp at q; omega
        refine ⟨.slice (some ⟨g, 0, none⟩) (ready.length + 1) cap', (hT.mono (fun x hx => List.mem_cons_of_mem _ hx)).setCell (.inl (by simp)) _, RAt.setRdy (R := { R with rows := rows' }) (RAt.turn HR.out hT hnb) _, ?_, fun x hx => ?_⟩
        · rw [parcelCells_append]
          exact ((Turn.refl [br] wa).setCell (.inl (by simp)) _).owns hown (fun x hx => by simp [Value.ownBlock] at hx; simp; omega)
        · obtain rfl : g = x := by simpa [Value.ownBlock] using hx
          rcases hat with q | q
          · exact .inl q
          · right; simp at q; omega
    case rest =>
      obtain ⟨rdy', hT1, hR1, how1, hnew1⟩ := hcut
      have f3 := hR1.c3
      have fd := hR1.dlvAt (show R.num < 501 by omega)
      have ff := hR1.frozen (72 + R.num)
      have g0 : (0 : Int) ≤ (R.num : Int) := by omega
      have g1 : (R.num : Int) < 501 := by omega
      have hnrb : rdy'.ownBlock ≠ some br := fun e => by
        rcases hnew1 br e with q | q
        · exact hr1 q
        · omega
      have HR1 : Hid (RAt _ br { R with rows := rows', rdy := rdy' }) := hR1
      have HT1 : Hid _ := hT1
      have HN1 : Hid _ := hnew1
      clear hR1 hT1 hnew1
      go_upto_region 2 with fail
      go_region
      go_wp2_with (refine wpList_store_mid rfl 119 _ _ rfl br 7 emptySet.toArray rfl rfl ?thr (by rw [emptySet_size]; exact infoSet) emptySet_one ?_)
      case thr =>
        have hR2 := RAt.setDlv HR1.out R.num (by omega) true
        rw [emptySet_len]
        exact hR2.there (by decide)
      have hR2 := RAt.setDlv HR1.out R.num (by omega) true
      have hR3 : RAt _ br _ := RAt.empty (RAt.turn hR2 ((Turn.refl [] _).drew) (by simp))
      refine bodyPost_end (results_none rfl _ _ _) rfl ⟨rfl, rdy', ⟨?_, hR3, ?_, fun g hg => ?_⟩⟩
      · refine Turn.setCells (by simp) _ _ (((HD.out.turn.mono (fun x hx => ?_)).trans HT1.out (fun x hx => .inl ?_)).setCell (.inl (by simp)) _).drew
        · rcases List.mem_cons.1 hx with q | q
          · simp [q]
          · simp [q]
        · rcases List.mem_cons.1 hx with q | q
          · simp [q]
          · simp at q; simp [q]
      · rw [List.length_append]
        exact (Turn.setCells (S := [br]) (by simp) _ _ (((Turn.refl [br] _).setCell (.inl (by simp)) _).drew)).owns how1 (fun x hx => by
          intro hm
          simp at hm
          rw [hm] at hx
          exact hnrb hx)
      · rcases HN1.out g hg with q | q
        · exact .inl q
        · right
          have := HD.out.turn.size
          omega

end Go.Proofs.YtfbbidaoljfloaaDoor


namespace Go.Proofs.YtfbbidaoljfloaaDoor
open Go.RowKit

/-- A receiver, as a thing of numbers. -/
structure RV where
  blk : Nat
  num : Nat
  rnk : Nat
  bks : Nat
  len : Nat
  set : Rx.SetV
  srk : Nat
  dlv : Nat → Bool
  ready : Parcels

def emptyS : Rx.SetV := fun _ => (0, [])
def RV.begin (V : RV) (x1 x2 : Nat) : RV := { V with num := x1, rnk := 0, bks := blocksOf x2 V.blk, len := x2, set := emptyS, srk := 0 }
def RV.add (V : RV) (x3 : Nat) (ns : List Nat) : RV := { V with set := (Rx.addF 33 V.set x3 ns).1, srk := V.srk + bitN (Rx.addF 33 V.set x3 ns).2, rnk := V.srk + bitN (Rx.addF 33 V.set x3 ns).2 }
def RV.deliver (V : RV) : RV := { V with set := emptyS, srk := 0, dlv := fun i => if i = V.num then true else V.dlv i, ready := V.ready ++ [(strOf ((Rx.joinF V.set V.bks).take V.len), V.num)] }
def RV.first (V : RV) (x1 x2 : Nat) : RV := if V.num < x1 then V.begin x1 x2 else V
def RV.last (V : RV) : RV := if V.srk = V.bks then V.deliver else V
def RV.gather (V : RV) (x1 x2 x3 : Nat) (ns : List Nat) : RV :=
  if x1 < (V.first x1 x2).num ∨ x2 ≠ (V.first x1 x2).len then V.first x1 x2 else ((V.first x1 x2).add x3 ns).last

def cntD (d : Nat → Bool) : Nat := (List.range 501).countP d
theorem cntD_le (d : Nat → Bool) : cntD d ≤ 501 := by
  have := List.countP_le_length (p := d) (l := List.range 501)
  simpa [cntD] using this
theorem cntD_set {d : Nat → Bool} {n : Nat} (h : d n = false) (hn : n < 501) : cntD (fun i => if i = n then true else d i) = cntD d + 1 := by
  have : ∀ K, (List.range K).countP (fun i => if i = n then true else d i) = (List.range K).countP d + if n < K then 1 else 0 := by
    intro K
    induction K with
    | zero => simp
    | succ K ih =>
      rw [List.range_succ, List.countP_append, List.countP_append, ih, List.countP_cons, List.countP_cons, List.countP_nil, List.countP_nil]
      by_cases hK : K = n
      · subst hK
        simp [h]
      · have e : (if n < K then 1 else 0) = (if n < K + 1 then 1 else 0) := by
          by_cases hl : n < K
          · rw [if_pos hl, if_pos (by omega)]
          · rw [if_neg hl, if_neg (by omega)]
        rw [if_neg hK, e]
        omega
  unfold cntD
  rw [this, if_pos hn]

/-- What a receiver keeps to. -/
structure RVOk (V : RV) : Prop where
  b1 : 1 ≤ V.blk
  b2 : V.blk ≤ 32
  num : V.num ≤ 500
  bks : V.bks ≤ 32
  set : Rx.SetOk V.blk V.bks V.set
  cnt : V.srk = Rx.cntR V.set V.bks
  shape : 1 ≤ V.num → V.bks = blocksOf V.len V.blk ∧ V.len < 65536
  ready : V.ready.length ≤ cntD V.dlv
  zero : V.dlv 0 = false

theorem emptyS_ok (blk K : Nat) : Rx.SetOk blk K emptyS := ⟨fun _ hj => absurd rfl hj⟩
theorem emptyS_cnt (K : Nat) : Rx.cntR emptyS K = 0 := by
  unfold Rx.cntR
  rw [List.countP_eq_zero]
  intro j _
  simp [emptyS]

theorem canB_iff {x1 x2 x3 blk : Nat} : canB x1 x2 x3 blk = true ↔ 1 ≤ x1 ∧ x1 ≤ 500 ∧ blocksOf x2 blk ≤ 32 ∧ x3 ≠ 0 ∧ x3 < 2 ^ blocksOf x2 blk := by
  simp [canB, and_assoc]

theorem RVOk.first {V : RV} (h : RVOk V) {x1 x2 x3 : Nat} (hc : canB x1 x2 x3 V.blk = true) (hx2 : x2 < 65536) : RVOk (V.first x1 x2) ∧ (V.first x1 x2).blk = V.blk ∧ x1 ≤ (V.first x1 x2).num ∧ (V.first x1 x2).dlv = V.dlv ∧ (V.first x1 x2).ready = V.ready := by
  obtain ⟨c1, c2, c3, c4, c5⟩ := canB_iff.1 hc
  unfold RV.first
  by_cases hl : V.num < x1
  · rw [if_pos hl]
    exact ⟨⟨h.b1, h.b2, c2, c3, emptyS_ok _ _, (emptyS_cnt _).symm, fun _ => ⟨rfl, hx2⟩, h.ready, h.zero⟩, rfl, Nat.le_refl _, rfl, rfl⟩
  · rw [if_neg hl]
    exact ⟨h, rfl, by omega, rfl, rfl⟩

theorem RVOk.add {V : RV} (h : RVOk V) {x3 : Nat} {ns : List Nat} (hx : x3 < 2 ^ V.bks) (hl : ns.length = V.blk) (hb : ∀ b ∈ ns, b < 256) : RVOk (V.add x3 ns) := by
  refine ⟨h.b1, h.b2, h.num, h.bks, Rx.addF_ok h.bks 33 _ _ _ h.set hx hl hb, ?_, h.shape, h.ready, h.zero⟩
  show V.srk + bitN (Rx.addF 33 V.set x3 ns).2 = Rx.cntR (Rx.addF 33 V.set x3 ns).1 V.bks
  rw [Rx.addF_cnt h.bks 33 _ _ _ h.set hx, h.cnt]
  rfl

theorem RVOk.deliver {V : RV} (h : RVOk V) (hd : V.dlv V.num = false) (hn : 1 ≤ V.num) : RVOk V.deliver := by
  refine ⟨h.b1, h.b2, h.num, h.bks, emptyS_ok _ _, (emptyS_cnt _).symm, h.shape, ?_, ?_⟩
  · show (V.ready ++ [_]).length ≤ cntD (fun i => if i = V.num then true else V.dlv i)
    rw [cntD_set hd (by have := h.num; omega), List.length_append]
    have := h.ready
    simp
    omega
  · show (if 0 = V.num then true else V.dlv 0) = false
    rw [if_neg (by omega)]
    exact h.zero

theorem RVOk.full {V : RV} (h : RVOk V) (e : V.srk = V.bks) : ∀ t, t < V.bks → (V.set t).1 ≠ 0 := Rx.cntR_full (by rw [← h.cnt]; exact e)

theorem blocksOf_cover (len blk : Nat) (h : 1 ≤ blk) : len ≤ blocksOf len blk * blk := by
  unfold blocksOf
  have h1 := Nat.div_add_mod (len + blk - 1) blk
  have h2 := Nat.mod_lt (len + blk - 1) (show 0 < blk by omega)
  have h3 : (len + blk - 1) / blk * blk ≤ max 1 ((len + blk - 1) / blk) * blk := Nat.mul_le_mul_right _ (by omega)
  rw [Nat.mul_comm] at h1
  omega

def RC.foot (R : RC) (br : Nat) : List Nat := br :: (R.blocks ++ R.rdy.ownBlock.toList)

/-- The receiver in memory. -/
structure Recv (w : World) (br : Nat) (R : RC) (V : RV) : Prop where
  held : Held w br R V.set
  eblk : R.blk = V.blk
  enum : R.num = V.num
  ernk : R.rnk = V.rnk
  ebks : R.bks = V.bks
  elen : R.len = V.len
  esrk : R.srk = V.srk
  edlv : R.dlv = V.dlv
  owns : w.ownsRow 0 132 2 R.rdy V.ready.length (parcelCells V.ready)
  rn1 : R.rdy.ownBlock ≠ some br
  rn2 : ∀ g ∈ R.blocks, R.rdy.ownBlock ≠ some g

theorem Recv.turn {S : List Nat} {w w' : World} {br : Nat} {R : RC} {V : RV} (h : Recv w br R V) (ht : Turn S w w') (hn : ∀ g ∈ R.foot br, g ∉ S) : Recv w' br R V :=
  ⟨h.held.turn ht (hn br (by simp [RC.foot])) (fun g hg => hn g (by simp [RC.foot, hg])), h.eblk, h.enum, h.ernk, h.ebks, h.elen, h.esrk, h.edlv,
   ht.owns h.owns (fun k hk => hn k (by simp [RC.foot, hk])), h.rn1, h.rn2⟩
theorem Recv.lt {w : World} {br : Nat} {R : RC} {V : RV} (h : Recv w br R V) : ∀ g ∈ R.foot br, g < w.heap.size := by
  intro g hg
  simp only [RC.foot, List.mem_cons, List.mem_append, Option.mem_toList] at hg
  rcases hg with rfl | hg | hg
  · exact h.held.at_.lt
  · exact h.held.lt g hg
  · exact (h.owns.lt g hg).2

structure Aft (w w' : World) (br : Nat) (R R' : RC) (V' : RV) : Prop where
  recv : Recv w' br R' V'
  lk : R'.lk = R.lk
  turn : Turn (R.foot br) w w'
  foot : ∀ g ∈ R'.foot br, g ∈ R.foot br ∨ w.heap.size ≤ g

theorem Aft.refl {w : World} {br : Nat} {R : RC} {V : RV} (h : Recv w br R V) : Aft w w br R R V := ⟨h, rfl, Turn.refl _ _, fun _ hg => .inl hg⟩
theorem Aft.trans {w w1 w2 : World} {br : Nat} {R R1 R2 : RC} {V1 V2 : RV} (h : Aft w w1 br R R1 V1) (k : Aft w1 w2 br R1 R2 V2) : Aft w w2 br R R2 V2 :=
  ⟨k.recv, k.lk.trans h.lk, h.turn.trans k.turn h.foot, fun g hg => by
    rcases k.foot g hg with q | q
    · exact h.foot g q
    · exact .inr (Nat.le_trans h.turn.size q)⟩
theorem Aft.zero {w w' : World} {br : Nat} {R R' : RC} {V' : RV} (h : Aft w w' br R R' V') (h0 : 0 ∉ R.foot br) (hs : 0 < w.heap.size) : 0 ∉ R'.foot br := fun hm => by
  rcases h.foot 0 hm with q | q
  · exact h0 q
  · omega

theorem Recv.begin {w w' : World} {br : Nat} {R : RC} {V : RV} (h : Recv w br R V) (x1 x2 : Nat) (ht : Turn [br] w w') (ha : RAt w' br (RC.emptied { R with num := x1, rnk := 0, bks := blocksOf x2 R.blk, len := x2 })) :
    Aft w w' br R (RC.emptied { R with num := x1, rnk := 0, bks := blocksOf x2 R.blk, len := x2 }) (V.begin x1 x2) := by
  have hbl : (RC.emptied { R with num := x1, rnk := 0, bks := blocksOf x2 R.blk, len := x2 }).blocks = [] := by
    rw [List.eq_nil_iff_forall_not_mem]
    intro g hg
    obtain ⟨j, _, e⟩ := RC.mem_blocks.1 hg
    cases e
  refine ⟨⟨⟨ha, fun j _ => rfl, fun j _ => .inl ⟨rfl, rfl⟩, fun i j g _ _ _ e => by cases e⟩, h.eblk, rfl, rfl, (show blocksOf x2 R.blk = blocksOf x2 V.blk by rw [h.eblk]), rfl, rfl, h.edlv, ?_, h.rn1, by rw [hbl]; simp⟩, rfl, ht.mono (by simp [RC.foot]), ?_⟩
  · exact ht.owns h.owns (fun k hk => by
      intro hm
      simp at hm
      rw [hm] at hk
      exact h.rn1 hk)
  · intro g hg
    left
    unfold RC.foot at hg ⊢
    rw [hbl] at hg
    simp only [List.nil_append, List.mem_cons] at hg
    rcases hg with q | q
    · simp [q]
    · have q' : g ∈ R.rdy.ownBlock.toList := q
      simp at q'
      simp [q']

end Go.Proofs.YtfbbidaoljfloaaDoor
