import Derived.Test.YtafipndlfkklfaaDoorJ32
import Derived.Deep.OwnRows
import Derived.BigQuiet
namespace Go.Proofs.YtafipndlfkklfaaDoor
open Go.RowKit Go.MuLone

/-- A row of the document's, in memory. -/
def BR (w : World) (g K r : Nat) : Prop := w.rowIs g 4 K (fun j => .bool (r.testBit j))
def rowV (g K : Nat) : Value := .slice (some ⟨g, 0, none⟩) K K
theorem BR.turn {Z : List Nat} {w w' : World} {g K r : Nat} (h : BR w g K r) (ht : Turn Z w w') (hz : g ∉ Z) : BR w' g K r := World.rowIs.of_block h (ht.block g (World.rowIs.lt h) hz)

/-- The first block of a row. -/
def firstI (r : Nat) : Int := if r = 0 then -1 else (Rx.low r : Int)

set_option maxRecDepth 100000 in
set_option maxHeartbeats 1000000 in
theorem first_any (g K r : Nat) (w : World) (hK : K ≤ 32) (hr : r < 2 ^ K) (h : BR w g K r) :
    Calls Tryd.prog 90 #[rowV g K] w fun e w' => e = .returned (.int .i64 (firstI r)) ∧ w' = w := by
  have HR : Hid _ := h
  unfold rowV
  go_enter Tryd.func90, Tryd.ntmps90
  go_wp2_with fail
  go_loop [3] (fun jv => ∃ j : Nat, jv = .int .i64 j ∧ j ≤ K ∧ ∀ i, i < j → r.testBit i = false) (fun jv => K - (intOf jv).toNat)
  case atStart => exact ⟨0, rfl, Nat.zero_le _, fun i hi => by omega⟩
  case round =>
    obtain ⟨j, rfl, hj, hb⟩ := hrel
    have HB : Hid _ := hb
    clear hb
    by_cases hjl : j < K
    · have g1 : decide ((j : Int) < (K : Int)) = true := by simp; omega
      have j0 : (0 : Int) ≤ (j : Int) := by omega
      have j1 : (j : Int) < (K : Int) := by omega
      have hc : w.cell? ⟨g, j, none⟩ = some (.bool (r.testBit j)) := World.rowIs.cell HR.out hjl
      cases hbj : r.testBit j with
      | true =>
        rw [hbj] at hc
        have hr0 : r ≠ 0 := fun e => by rw [e] at hbj; simp at hbj
        have hlow : Rx.low r = j := Rx.low_unique (Rx.lt32 hK hr) hbj HB.out
        have HE : Hid (firstI r = (j : Int)) := by unfold firstI; rw [Hid, if_neg hr0, hlow]
        clear hbj hlow
        go_wp2_with fail
        go_ret
        exact ⟨by rw [HE.out]; rfl, rfl⟩
      | false =>
        rw [hbj] at hc
        have HB2 : Hid (∀ i, i < j + 1 → r.testBit i = false) := fun i hi => by
          by_cases e : i = j
          · rw [e]; exact hbj
          · exact HB.out i (by omega)
        clear hbj
        go_wp2_with fail
        exact ⟨⟨j + 1, by go_num, by omega, HB2.out⟩, by simp [intOf]; omega⟩
    · obtain rfl : j = K := by omega
      have g1 : decide ((j : Int) < (j : Int)) = false := by simp
      have hr0 : r = 0 := by
        apply Nat.eq_of_testBit_eq
        intro i
        rw [Nat.zero_testBit]
        by_cases q : i < j
        · exact HB.out i q
        · exact Nat.testBit_lt_two_pow (Nat.lt_of_lt_of_le hr (Nat.pow_le_pow_right (by decide) (by omega)))
      go_wp2_with fail
      go_ret
      exact ⟨rfl, rfl⟩

set_option maxRecDepth 100000 in
set_option maxHeartbeats 1000000 in
theorem plus_any (g1 g2 K a b : Nat) (w : World) (hK : K ≤ 32) (h1 : BR w g1 K a) (h2 : BR w g2 K b) (ha : a < 2 ^ K) (hb : b < 2 ^ K) :
    Calls Tryd.prog 91 #[rowV g1 K, rowV g2 K] w fun e w' => ∃ g, e = .returned (rowV g K) ∧ w.heap.size ≤ g ∧ BR w' g K (a ^^^ b) ∧ Below w.heap.size w w' := by
  have hmk := fun w => run_make_row' (P := Tryd.prog) 76 4 (.bool false) 1 Tryd.underlying76 Tryd.infoBool rfl .i64 .i64 K (by omega) (by omega) w
  have H1 : Hid _ := h1
  have H2 : Hid _ := h2
  have hl1 := World.rowIs.lt h1
  have hl2 := World.rowIs.lt h2
  have HM : Hid ((w.alloc (.cells (madeCells #[.bool false] K) 4)).rowIs w.heap.size 4 K (fun j => .bool ((a ^^^ b).testBit j && decide (j < 0)))) := (World.rowIs_made w (.bool false) K 4).congr (fun i _ => by simp)
  have HBE : Hid (Below w.heap.size w (w.alloc (.cells (madeCells #[.bool false] K) 4))) := (Below.refl _ _).alloc (Nat.le_refl _) _
  clear h1 h2
  unfold rowV
  go_enter Tryd.func91, Tryd.ntmps91
  go_wp2_with fail
  generalize hg : w.heap.size = g at *
  generalize w.alloc (.cells (madeCells #[.bool false] K) 4) = w1 at *
  clear hmk
  go_loopw [6] (fun jv wr => ∃ j : Nat, jv = .int .i64 j ∧ j ≤ K ∧ wr.rowIs g 4 K (fun i => .bool ((a ^^^ b).testBit i && decide (i < j))) ∧ Below g w wr) (fun jv _ => K - (intOf jv).toNat)
  case atStart => exact ⟨0, rfl, Nat.zero_le _, HM.out, HBE.out⟩
  case round =>
    obtain ⟨j, rfl, hj, hrow, hbe⟩ := hrel
    clear HM HBE
    have HM : Hid _ := hrow
    have HBE : Hid _ := hbe
    by_cases hjl : j < K
    · have g1' : decide ((j : Int) < (K : Int)) = true := by simp; omega
      have j0 : (0 : Int) ≤ (j : Int) := by omega
      have j1 : (j : Int) < (K : Int) := by omega
      have c1 : wr.cell? ⟨g1, j, none⟩ = some (.bool (a.testBit j)) := (hbe.cell hl1).trans (World.rowIs.cell H1.out hjl)
      have c2 : wr.cell? ⟨g2, j, none⟩ = some (.bool (b.testBit j)) := (hbe.cell hl2).trans (World.rowIs.cell H2.out hjl)
      have c3 := hrow.cell hjl
      have c4 := hrow.frozen j
      have HS : Hid ((wr.setCell ⟨g, j, none⟩ (.bool ((a ^^^ b).testBit j))).rowIs g 4 K (fun i => .bool ((a ^^^ b).testBit i && decide (i < j + 1)))) := (hrow.set j (.bool ((a ^^^ b).testBit j))).congr (fun i _ => by
        by_cases e : i = j
        · subst e; simp
        · have : decide (i < j) = decide (i < j + 1) := by simp; omega
          simp [e, this])
      have HBS : Hid (Below g w (wr.setCell ⟨g, j, none⟩ (.bool ((a ^^^ b).testBit j)))) := hbe.setCell (Nat.le_refl _) _
      have hx : (a ^^^ b).testBit j = (a.testBit j != b.testBit j) := by rw [Nat.testBit_xor]
      rw [hx] at HS HBS
      generalize a.testBit j = ab at *
      generalize b.testBit j = bb at *
      clear hrow hbe hx
      go_wp2_with fail
      go_region
      go_wp2_with fail
      exact ⟨⟨j + 1, by go_num, by omega, HS.out.drew, HBS.out.drew⟩, by simp [intOf]; omega⟩
    · obtain rfl : j = K := by omega
      have g1' : decide ((j : Int) < (j : Int)) = false := by simp
      have HF : Hid (BR wr g j (a ^^^ b)) := hrow.congr (fun i hi => by simp [hi])
      clear hrow hbe HM
      go_wp2_with fail
      go_ret
      exact ⟨g, rfl, by omega, HF.out, by rw [hg]; exact HBE.out⟩
end Go.Proofs.YtafipndlfkklfaaDoor
