import Derived.Test.YtfbbidaoljfloaaDoorY8
import Derived.Deep.Cut
import Derived.Deep.CutRange
namespace Go.Proofs.YtfbbidaoljfloaaDoor
open Go.RowKit

/-- What was delivered and not taken. -/
abbrev Parcels := List (ByteArray × Nat)
def parcelCells (l : Parcels) : List Value := l.flatMap (fun p => [.string p.1, .int .i64 (p.2 : Nat)])
theorem parcelCells_len (l : Parcels) : (parcelCells l).length = l.length * 2 := by
  unfold parcelCells
  induction l with
  | nil => rfl
  | cons p l ih => simp only [List.flatMap_cons, List.length_append, ih, List.length_cons]; simp; omega
theorem parcelCells_append (a b : Parcels) : parcelCells (a ++ b) = parcelCells a ++ parcelCells b := List.flatMap_append
theorem infoParcel : (Tryd.prog.info? 132).map (fun i => (i.zero, i.size, i.bytes)) = some (some (.agg #[.string .empty, .int .i64 0]), 2, 24) := by kernel_rfl

theorem BRow.cut {w : World} {g n cap : Nat} {ns : List Nat} (h : BRow w g n cap ns) (m : Nat) (hm : m ≤ n) : BRow w g m cap (ns.take m) :=
  ⟨⟨fun k x hx => h.cells.cell k x (by
      have hk : k < m := by
        have := (List.getElem?_eq_some_iff.1 hx).1
        simp at this
        omega
      rwa [List.getElem?_take_of_lt hk] at hx), fun b hb => h.cells.lt b (List.mem_of_mem_take hb)⟩, by rw [List.length_take, h.len]; omega, h.room, Nat.le_trans hm h.le⟩

structure D0 (w wc : World) (br : Nat) (R : RC) : Prop where
  turn : Turn (br :: R.blocks) w wc
  at_ : ∃ rows', RAt wc br { R with rows := rows' }

theorem RAt.c5 {w : World} {br : Nat} {R : RC} (h : RAt w br R) : w.cell? ⟨br, 5, none⟩ = some (.int .i64 R.bks) := h.cell (by decide)
theorem RAt.c6 {w : World} {br : Nat} {R : RC} (h : RAt w br R) : w.cell? ⟨br, 6, none⟩ = some (.int .i64 R.len) := h.cell (by decide)
theorem RAt.c2 {w : World} {br : Nat} {R : RC} (h : RAt w br R) : w.cell? ⟨br, 2, none⟩ = some (.int .i64 R.blk) := h.cell (by decide)
theorem RAt.c3 {w : World} {br : Nat} {R : RC} (h : RAt w br R) : w.cell? ⟨br, 3, none⟩ = some (.int .i64 R.num) := h.cell (by decide)
theorem RAt.c4 {w : World} {br : Nat} {R : RC} (h : RAt w br R) : w.cell? ⟨br, 4, none⟩ = some (.int .i64 R.rnk) := h.cell (by decide)
theorem RAt.c71 {w : World} {br : Nat} {R : RC} (h : RAt w br R) : w.cell? ⟨br, 71, none⟩ = some (.int .i64 R.srk) := h.cell (by decide)
theorem RAt.c573 {w : World} {br : Nat} {R : RC} (h : RAt w br R) : w.cell? ⟨br, 573, none⟩ = some R.rdy := h.cell (by decide)
theorem RAt.c0 {w : World} {br : Nat} {R : RC} (h : RAt w br R) : w.cell? ⟨br, 0, none⟩ = some (.int .i32 R.lk) := h.cell (by decide)

structure DelAft (w w' : World) (br : Nat) (R : RC) (ready : Parcels) (rdy' : Value) : Prop where
  turn : Turn (br :: (R.blocks ++ R.rdy.ownBlock.toList)) w w'
  at_ : RAt w' br (RC.emptied { R with rdy := rdy', dlv := fun i => if i = R.num then true else R.dlv i })
  owns : w'.ownsRow 0 132 2 rdy' ready.length (parcelCells ready)
  new : ∀ g, rdy'.ownBlock = some g → R.rdy.ownBlock = some g ∨ w.heap.size ≤ g

set_option maxRecDepth 100000 in
set_option maxHeartbeats 1600000 in
theorem deliver_any (br : Nat) (R : RC) (S : Rx.SetV) (ready : Parcels) (w : World) (h : Held w br R S) (hok : Rx.SetOk R.blk R.bks S) (hK : R.bks ≤ 32) (hK1 : 1 ≤ R.bks) (ht : Tab w) (hb0 : 0 ∉ br :: R.blocks) (hnz : ∀ t, t < R.bks → (S t).1 ≠ 0) (h1 : 1 ≤ R.blk) (h2 : R.blk ≤ 32)
    (hlen : R.len ≤ R.bks * R.blk) (hnum : R.num ≤ 500) (ho : w.ownsRow 0 132 2 R.rdy ready.length (parcelCells ready)) (hrl : ready.length ≤ 1000) (hr1 : R.rdy.ownBlock ≠ some br) (hr2 : ∀ g ∈ R.blocks, R.rdy.ownBlock ≠ some g) :
    Calls Tryd.prog 80 #[.pointer (some ⟨br, 0, none⟩)] w fun e w' => e = .returned (.tuple #[]) ∧ ∃ rdy', DelAft w w' br R (ready ++ [(strOf ((Rx.joinF S R.bks).take R.len), R.num)]) rdy' := by
  obtain ⟨i0, hi, hz0, hz1, hz2⟩ := info_parts infoParcel
  have c5 := h.at_.c5
  have c6 := h.at_.c6
  have HH : Hid (Held w br R S) := h
  have hblk : R.bks * R.blk ≤ 32 * 32 := Nat.mul_le_mul hK h2
  clear h
  go_enter Tryd.func80, Tryd.ntmps80
  go_upto_region 0 with fail
  go_cut [2] from 3 to 17 (fun v wx => v = .string (strOf ((Rx.joinF S R.bks).take R.len)) ∧ D0 w wx br R)
  case first =>
    refine wp_region_noPanic ?_
    go_region_law (first
      | (go_simp; go_at_call 106; refine (join_any br R S R.bks w.drew (HH.out.turn ((Turn.refl [] w).drew) (by simp) (by simp)) hok hK hK1 ht hb0 hnz h1 h2).mono ?_; rintro e w2 ⟨g, c, rfl, hj⟩; obtain ⟨rows', hR⟩ := hj.at_; have d6 := hR.c6; have hcap := hj.bytes.brow.le; have e1 : (0 : Int) ≤ (R.len : Int) := (by omega); have e2 : R.len ≤ c := (by omega); have hcv := BRow.conv (BRow.cut hj.bytes.brow R.len hlen)))
    all_goals
      refine NoPanic.normal ?_
      go_wp2_with fail
      go_meet
      exact ⟨rfl, ((Turn.refl _ w).drew).trans hj.turn (fun x hx => .inl hx), rows', hR⟩
  case rest =>
    obtain ⟨rfl, hD⟩ := hcut
    obtain ⟨rows', hR⟩ := hD.at_
    have d3 := hR.c3
    have d573 := hR.c573
    have dlt := hR.lt
    have hf := hR.frozen 573
    have how : wc.ownsRow 0 132 2 R.rdy ready.length (parcelCells ready) := hD.turn.owns ho (fun x hx hm => by
      rcases List.mem_cons.1 hm with q | q
      · rw [q] at hx; exact hr1 hx
      · exact hr2 x q hx)
    have HD : Hid _ := hD
    have HR : Hid (RAt wc br { R with rows := rows' }) := hR
    clear hR hD
    go_upto_region 1 with fail
    go_cut [] from 18 to 33 (fun wx => ∃ rdy', (Turn (br :: R.rdy.ownBlock.toList) wc wx ∧ RAt wx br { R with rows := rows', rdy := rdy' } ∧ wx.ownsRow 0 132 2 rdy' (ready.length + 1) (parcelCells (ready ++ [(strOf ((Rx.joinF S R.bks).take R.len), R.num)])) ∧ (∀ g, rdy'.ownBlock = some g → R.rdy.ownBlock = some g ∨ wc.heap.size ≤ g)))
    case first =>
      refine wp_region_noPanic ?_
      go_region_law (first
        | (refine step_append_far _ (by rfl) _ _ 121 (by rfl) 132 i0 _ 2 24 Tryd.underlying121 hi hz0 hz1 hz2 rfl (by decide) R.rdy ready.length (parcelCells ready) (by simp [Act.eval]) (how.alloc _) ⟨wc.heap.size, 0, none⟩ 1 1 [.string (strOf ((Rx.joinF S R.bks).take R.len)), .int .i64 R.num] (by simp [Act.eval]) rfl (World.news_of_block (heap_alloc_new wc _)) (by intro u hu; simp at hu; rcases hu with rfl | rfl <;> rfl) (by decide) (by unfold maxLen; omega) (by omega) ?_; intro g cap' wa hown hgrow hat hlt; have hca := (hgrow.cell_far ⟨br, 573, none⟩ (by simp; omega) (Ne.symm hr1)).trans (cellNew d573 _); have hfa := (hgrow.frozen_far ⟨br, 573, none⟩ (by simp; omega) (Ne.symm hr1)).trans (frozenNew hf dlt _)))
      all_goals
        refine NoPanic.normal ?_
        go_wp2_with fail
        go_meet
        have hT : Turn R.rdy.ownBlock.toList wc wa := (((Turn.refl _ wc).drew).alloc _).grown hgrow (fun x hx => .inl (by simp [hx]))
        have hnb : br ∉ R.rdy.ownBlock.toList := fun q => hr1 (by simpa using q)
        have hgb : g ≠ br := by
          rcases hat with q | q
          · intro e; exact hr1 (by rw [q, e])
          · simp at q; omega
        refine ⟨.slice (some ⟨g, 0, none⟩) (ready.length + 1) cap', (hT.mono (fun x hx => List.mem_cons_of_mem _ hx)).setCell (.inl (by simp)) _, RAt.setRdy (R := { R with rows := rows' }) (RAt.turn HR.out hT hnb) _, ?_, fun x hx => ?_⟩
        · rw [parcelCells_append]
          exact ((Turn.refl [br] wa).setCell (.inl (by simp)) _).owns hown (fun x hx => by simp [Value.ownBlock] at hx; simp; omega)
        · obtain rfl : g = x := by simpa [Value.ownBlock] using hx
          rcases hat with q | q
          · exact .inl q
          · right; simp at q; omega
    case rest =>
      obtain ⟨rdy', hT1, hR1, how1, hnew1⟩ := hcut
      have f3 := hR1.c3
      have fd := hR1.dlvAt (show R.num < 501 by omega)
      have ff := hR1.frozen (72 + R.num)
      have g0 : (0 : Int) ≤ (R.num : Int) := by omega
      have g1 : (R.num : Int) < 501 := by omega
      have hnrb : rdy'.ownBlock ≠ some br := fun e => by
        rcases hnew1 br e with q | q
        · exact hr1 q
        · omega
      have HR1 : Hid (RAt _ br { R with rows := rows', rdy := rdy' }) := hR1
      have HT1 : Hid _ := hT1
      have HN1 : Hid _ := hnew1
      clear hR1 hT1 hnew1
      go_upto_region 2 with fail
      go_region
      go_wp2_with (refine wpList_store_mid rfl 119 _ _ rfl br 7 emptySet.toArray rfl rfl ?thr (by rw [emptySet_size]; exact infoSet) emptySet_one ?_)
      case thr =>
        have hR2 := RAt.setDlv HR1.out R.num (by omega) true
        rw [emptySet_len]
        exact hR2.there (by decide)
      have hR2 := RAt.setDlv HR1.out R.num (by omega) true
      have hR3 : RAt _ br _ := RAt.empty (RAt.turn hR2 ((Turn.refl [] _).drew) (by simp))
      refine bodyPost_end (results_none rfl _ _ _) rfl ⟨rfl, rdy', ⟨?_, hR3, ?_, fun g hg => ?_⟩⟩
      · refine Turn.setCells (by simp) _ _ (((HD.out.turn.mono (fun x hx => ?_)).trans HT1.out (fun x hx => .inl ?_)).setCell (.inl (by simp)) _).drew
        · rcases List.mem_cons.1 hx with q | q
          · simp [q]
          · simp [q]
        · rcases List.mem_cons.1 hx with q | q
          · simp [q]
          · simp at q; simp [q]
      · rw [List.length_append]
        exact (Turn.setCells (S := [br]) (by simp) _ _ (((Turn.refl [br] _).setCell (.inl (by simp)) _).drew)).owns how1 (fun x hx => by
          intro hm
          simp at hm
          rw [hm] at hx
          exact hnrb hx)
      · rcases HN1.out g hg with q | q
        · exact .inl q
        · right
          have := HD.out.turn.size
          omega

end Go.Proofs.YtfbbidaoljfloaaDoor
