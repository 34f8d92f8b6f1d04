import Derived.Test.YtfbbidaoljfloaaDoorX3
import Derived.Deep.RegionHeld3
namespace Go.Proofs.YtfbbidaoljfloaaDoor
open Go.RowKit

/-- What a frame's making reads. -/
structure FrameReads (w : World) (bs g p : Nat) (blk en : Int) (o : Thing) : Prop where
  c0 : w.cell? ⟨g, p, none⟩ = some (.string o.data)
  c1 : w.cell? ⟨g, p + 1, none⟩ = some (.int .u64 o.nonce)
  c3 : w.cell? ⟨g, p + 3, none⟩ = some (.int .i64 o.sent)
  s2 : w.cell? ⟨bs, 2, none⟩ = some (.int .i64 blk)
  s5 : w.cell? ⟨bs, 5, none⟩ = some (.int .i64 en)

/-- The frame of an object of a number that follows on those that were sent. -/
def frameOf (num blk : Nat) (o : Thing) : ByteArray :=
  strOf (sumText num o.data.size (Dz.rowOf o.nonce (blocksOf o.data.size blk) o.sent) (sumUp o.data blk (Dz.rowOf o.nonce (blocksOf o.data.size blk) o.sent) o.data.size))
theorem frameOf_size (num blk : Nat) (o : Thing) : (frameOf num blk o).size = blk + 13 := by
  rw [frameOf, strOf_size, sumText_len, sumUp_len]

set_option maxHeartbeats 1000000 in
theorem nextFrame_any (bs g p blk en : Nat) (o : Thing) (w : World) (h : FrameReads w bs g p blk en o) (h1 : 1 ≤ blk) (h2 : blk ≤ 32) (hd : o.data.size ≤ 32 * blk) (hs0 : 0 ≤ o.sent) (hs1 : o.sent < 1000) (hen : en ≤ 500) :
    Calls Tryd.prog 44 #[.pointer (some ⟨bs, 0, none⟩), .pointer (some ⟨g, p, none⟩)] w fun e w' => e = .returned (.string (frameOf (en + 1) blk o)) ∧ Below w.heap.size w w' := by
  obtain ⟨c0, c1, c3, s2, s5⟩ := h
  have hK := blocksOf_pos o.data.size blk
  have hK2 := blocksOf_le o.data.size blk h1 hd
  have hglt : g < w.heap.size := World.block_lt_of_cell? w _ c0
  have hblt : bs < w.heap.size := World.block_lt_of_cell? w _ s2
  go_enter Tryd.func44, Tryd.ntmps44
  go_wp2_with fail
  go_region_held3 (fun w' => w'.cell? ⟨g, p, none⟩ = some (.string o.data) ∧ w'.cell? ⟨g, p + 1, none⟩ = some (.int .u64 o.nonce) ∧ w'.cell? ⟨g, p + 2 + 1, none⟩ = some (.int .i64 o.sent) ∧ w'.cell? ⟨bs, 2, none⟩ = some (.int .i64 blk) ∧ Below w.heap.size w w')
    (first | exact ⟨c0, c1, c3, s2, (Below.refl _ _).drew⟩ | (go_split_ands; refine ⟨?_, ?_, ?_, ?_, ?_⟩ <;> first | assumption | exact (hbr.cell (by have := Below.size (by assumption : Below w.heap.size w _); simp; omega)).trans (by assumption) | (refine Below.trans ?_ (hbr.mono ?_) <;> first | assumption | exact Below.size (by assumption))))
    (first | (go_at_call 72; refine (blockCount_any o.data.size blk _ h1 h2 (by omega)).mono ?_; rintro e w' ⟨rfl, rfl⟩) | (go_at_call 27; refine (row_any o.nonce o.sent (blocksOf o.data.size blk) _ hK hK2 hs0 (by omega)).mono ?_; rintro e w' ⟨rfl, hbr⟩))
  rename_i hH
  obtain ⟨d0, d1, d3, d2, hB1⟩ := hH
  have hr0 := Dz.rowOf_lt o.nonce (blocksOf o.data.size blk) o.sent hK
  have hrl : Dz.rowOf o.nonce (blocksOf o.data.size blk) o.sent < 4294967296 := Nat.lt_of_lt_of_le hr0 (Nat.le_trans (Nat.pow_le_pow_right (by decide) hK2) (by decide))
  have HF : Hid (frameOf (en + 1) blk o = strOf (sumText (en + 1) o.data.size (Dz.rowOf o.nonce (blocksOf o.data.size blk) o.sent) (sumUp o.data blk (Dz.rowOf o.nonce (blocksOf o.data.size blk) o.sent) o.data.size))) := rfl
  generalize Dz.rowOf o.nonce (blocksOf o.data.size blk) o.sent = row at *
  have d5 : w'.cell? ⟨bs, 5, none⟩ = some (.int .i64 en) := (hB1.cell (p := ⟨bs, 5, none⟩) hblt).trans s5
  have HW : Hid (IntKind.i64.wrap ((en : Int) + 1) = ((en + 1 : Nat) : Int)) := by rw [Hid]; simp [IntKind.wrap, IntKind.signed, IntKind.bits]; omega
  clear hbr d1 d3 c0 c1 c3 s2 s5 hr0
  go_wp2_with fail
  go_region_held3 (fun v => v.cell? ⟨g, p, none⟩ = some (.string o.data) ∧ v.cell? ⟨bs, 2, none⟩ = some (.int .i64 blk) ∧ v.cell? ⟨bs, 5, none⟩ = some (.int .i64 en))
    (first | exact ⟨d0, d2, d5⟩ | exact ⟨(hbs.cell (World.block_lt_of_cell? _ _ d0)).trans d0, (hbs.cell (World.block_lt_of_cell? _ _ d2)).trans d2, (hbs.cell (World.block_lt_of_cell? _ _ d5)).trans d5⟩ | (go_split_ands; refine ⟨?_, ?_, ?_⟩ <;> (refine (hbt.cell ?_).trans ?_; rotate_left; assumption; exact World.block_lt_of_cell? _ _ (by assumption))))
    (first | (go_at_call 73; refine (sumOf_any o.data blk row _ h1 h2 hd hrl).mono ?_; rintro e ws ⟨gs, rfl, hby, hbs⟩) | (go_at_call 74; refine (text_any _ _ _ (en + 1) o.data.size row gs blk blk _ _ hby (by omega) (by omega) HW.out rfl rfl (by omega) (by omega) hrl).mono ?_; rintro e wt ⟨rfl, htt⟩; have hbt := htt.toBelow (Nat.le_refl _) (by simp)))
  go_wp2
  go_ret
  have hB2 := (hB1.drew).trans (hbs.mono hB1.size)
  exact ⟨by rw [HF.out]; rfl, hB2.trans (hbt.mono hB2.size)⟩

end Go.Proofs.YtfbbidaoljfloaaDoor
