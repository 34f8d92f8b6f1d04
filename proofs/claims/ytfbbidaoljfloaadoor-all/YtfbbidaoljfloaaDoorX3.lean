import Derived.Test.YtfbbidaoljfloaaDoorJ7
import Derived.Test.YtfbbidaoljfloaaDoorP3
namespace Go.Proofs.YtfbbidaoljfloaaDoor
open Go.RowKit

/-- How many blocks. -/
def blocksOf (len blk : Nat) : Nat := max 1 ((len + blk - 1) / blk)
theorem blocksOf_pos (len blk : Nat) : 1 ≤ blocksOf len blk := by unfold blocksOf; omega
theorem blocksOf_le (len blk : Nat) (h1 : 1 ≤ blk) (h : len ≤ 32 * blk) : blocksOf len blk ≤ 32 := by
  unfold blocksOf
  have : (len + blk - 1) / blk < 33 := by
    rw [Nat.div_lt_iff_lt_mul (by omega)]
    omega
  omega

set_option maxHeartbeats 400000 in
theorem blockCount_any (len blk : Nat) (w : World) (h1 : 1 ≤ blk) (h2 : blk ≤ 32) (h : len ≤ 100000) :
    Calls Tryd.prog 72 #[.int .i64 len, .int .i64 blk] w fun e w' => e = .returned (.int .i64 (blocksOf len blk)) ∧ w' = w := by
  have hq : ((len : Int) + (blk : Int) - 1) / (blk : Int) = (((len + blk - 1) / blk : Nat) : Int) := by
    rw [show (len : Int) + (blk : Int) - 1 = ((len + blk - 1 : Nat) : Int) by omega]
    simp
  have hb : (0 : Int) < (blk : Int) := by omega
  go_enter Tryd.func72, Tryd.ntmps72
  go_wp2
  go_ret
  refine ⟨ret_int ?_, rfl⟩
  have e : ((len + blk - 1 : Nat) : Int) / (blk : Int) = (((len + blk - 1) / blk : Nat) : Int) := by simp
  unfold blocksOf
  show max 1 (((len + blk - 1 : Nat) : Int) / (blk : Int)) = _
  rw [e]
  omega

def byteAt (data : ByteArray) (i : Nat) : Nat := if h : i < data.size then (data[i]'h).toNat else 0
theorem byteAt_lt (data : ByteArray) (i : Nat) : byteAt data i < 256 := by
  unfold byteAt
  split
  · exact UInt8.toNat_lt _
  · omega

/-- The sum of a row, behind so many bytes of the object. -/
def sumUp (data : ByteArray) (blk row : Nat) : Nat → List Nat
  | 0 => List.replicate blk 0
  | i + 1 => if row.testBit (i / blk) then (sumUp data blk row i).set (i % blk) ((sumUp data blk row i).getD (i % blk) 0 ^^^ byteAt data i) else sumUp data blk row i
theorem sumUp_len (data : ByteArray) (blk row i : Nat) : (sumUp data blk row i).length = blk := by
  induction i with
  | zero => simp [sumUp]
  | succ i ih => unfold sumUp; split <;> simp [ih]
theorem xor_lt8 (a b : Nat) (ha : a < 256) (hb : b < 256) : a ^^^ b < 256 := Nat.xor_lt_two_pow (n := 8) (by omega) (by omega)
theorem getD_lt {l : List Nat} (h : ∀ b ∈ l, b < 256) (k : Nat) : l.getD k 0 < 256 := by
  by_cases hk : k < l.length
  · simp only [List.getD, List.getElem?_eq_getElem hk, Option.getD_some]; exact h _ (List.getElem_mem _)
  · simp [List.getD, hk]
theorem sumUp_lt (data : ByteArray) (blk row i : Nat) : ∀ b ∈ sumUp data blk row i, b < 256 := by
  induction i with
  | zero => intro b hb; simp [sumUp] at hb; omega
  | succ i ih =>
    unfold sumUp
    split
    · intro b hb
      rcases List.mem_or_eq_of_mem_set hb with q | q
      · exact ih b q
      · rw [q]; exact xor_lt8 _ _ (getD_lt ih _) (byteAt_lt _ _)
    · exact ih

theorem Bytes.setAt {w : World} {g n c : Nat} {ns : List Nat} (h : Bytes w g n c ns) (k b : Nat) (hb : b < 256) : Bytes (w.setCell ⟨g, k, none⟩ (.int .u8 (b : Int))) g n c (ns.set k b) := by
  refine ⟨?_, by simpa using h.len, fun x hx => ?_⟩
  · have := owns_setCell h.owns (g := g) rfl k (.int .u8 (b : Int))
    have e : byteRow (ns.set k b) = (byteRow ns).set k (.int .u8 (b : Int)) := by simp [byteRow, List.map_set]
    rw [e]; exact this
  · rcases List.mem_or_eq_of_mem_set hx with q | q
    · exact h.lt x q
    · omega
theorem Bytes.cellAt {w : World} {g n c : Nat} {ns : List Nat} (h : Bytes w g n c ns) (k : Nat) (hk : k < n) : w.cell? ⟨g, k, none⟩ = some (.int .u8 (ns.getD k 0 : Nat)) := by
  have hl := h.len
  exact owns_cell h.owns rfl (by simp [byteRow, List.getD, hl, hk])

set_option maxHeartbeats 800000 in
theorem sumOf_any (data : ByteArray) (blk row : Nat) (w : World) (h1 : 1 ≤ blk) (h2 : blk ≤ 32) (h : data.size ≤ 32 * blk) (hr : row < 4294967296) :
    Calls Tryd.prog 73 #[.string data, .int .i64 blk, .int .u32 row] w fun e w' => ∃ g, e = .returned (.slice (some ⟨g, 0, none⟩) blk blk) ∧ Bytes w' g blk blk (sumUp data blk row data.size) ∧ Below w.heap.size w w' := by
  have hmk := fun w => run_make_row' (P := Tryd.prog) 114 5 (.int .u8 0) 1 Tryd.underlying114 infoByte rfl .i64 .i64 blk (by omega) (by omega) w
  have hb0 : (0 : Int) < (blk : Int) := by omega
  go_enter Tryd.func73, Tryd.ntmps73
  go_wp2
  go_loopw [13] (fun i wr => ∃ k : Nat, k ≤ data.size ∧ i = .int .i64 k ∧ Bytes wr w.heap.size blk blk (sumUp data blk row k) ∧ Below w.heap.size w wr) (fun i _ => data.size - (intOf i).toNat)
  case atStart =>
    refine ⟨0, Nat.zero_le _, rfl, ⟨⟨by simp [byteRow, sumUp], .inr ⟨w.heap.size, blk, _, rfl, Nat.zero_le _, heap_alloc_new _ _, Nat.le_refl _, by unfold maxLen; omega, by simp [size_madeCells], ?_⟩⟩, sumUp_len _ _ _ _, sumUp_lt _ _ _ _⟩, (Below.refl _ _).alloc (Nat.le_refl _) _⟩
    rw [toList_madeCells_one]
    simp [byteRow, sumUp]
  case round =>
    obtain ⟨k, hk, rfl, hby, hbe⟩ := hrel
    by_cases hlt : k < data.size
    · have hlt' : (k : Int) < (data.size : Int) := by omega
      have hk0 : (0 : Int) ≤ (k : Int) := by omega
      have q0 : (0 : Int) ≤ (k : Int) / (blk : Int) := Int.ediv_nonneg (by omega) (by omega)
      have q1 : (k : Int) / (blk : Int) < 32 := Int.ediv_lt_of_lt_mul (by omega) (by omega)
      have m0 : (0 : Int) ≤ (k : Int) % (blk : Int) := Int.emod_nonneg _ (by omega)
      have m1 : (k : Int) % (blk : Int) < (blk : Int) := Int.emod_lt_of_pos _ (by omega)
      have hbit := bit_go row (k / blk) hr
      have hml : k % blk < blk := Nat.mod_lt _ (by omega)
      by_cases ht : row.testBit (k / blk) = true
      · rw [ht] at hbit
        have HS : Hid (sumUp data blk row (k + 1) = (sumUp data blk row k).set (k % blk) ((sumUp data blk row k).getD (k % blk) 0 ^^^ byteAt data k)) := by rw [Hid, sumUp, if_pos ht]
        clear ht
        have hc := hby.cellAt (k % blk) hml
        have hf : wr.frozen? ⟨w.heap.size, k % blk, none⟩ = false := owns_frozen hby.owns rfl _
        have hva := getD_lt hby.lt (k % blk)
        have hvb := byteAt_lt data k
        have hab : byteAt data k = data[k].toNat := by unfold byteAt; rw [dif_pos hlt]
        have hxl := xor_lt8 _ _ hva hvb
        have hset := hby.setAt (k % blk) _ hxl
        rw [← HS.out] at hset
        have hx : bits BinOp.xor IntKind.u8 (((sumUp data blk row k).getD (k % blk) 0 : Nat) : Int) (data[k].toNat : Int) = (((sumUp data blk row k).getD (k % blk) 0 ^^^ byteAt data k : Nat) : Int) := by rw [hab]; exact u8_xor_nat _ _ hva (by omega)
        generalize (sumUp data blk row k).getD (k % blk) 0 = v at *
        generalize v ^^^ byteAt data k = u at *
        have HT : Hid _ := hset
        clear hab hset HS hvb
        go_wp2
        go_region
        go_wp2
        refine ⟨⟨k + 1, by omega, by go_num, ⟨HT.out.owns, HT.out.len, HT.out.lt⟩, (hbe.setCell (Nat.le_refl _) _).drew⟩, by simp [intOf]; omega⟩
      · have htf : row.testBit (k / blk) = false := by simpa using ht
        rw [htf] at hbit
        have HS : Hid (sumUp data blk row (k + 1) = sumUp data blk row k) := by rw [Hid, sumUp, if_neg ht]
        clear ht htf
        go_wp2
        refine ⟨⟨k + 1, by omega, by go_num, by rw [HS.out]; exact hby, hbe⟩, by simp [intOf]; omega⟩
    · have hlt' : ¬ (k : Int) < (data.size : Int) := by omega
      obtain rfl : k = data.size := by omega
      go_wp2
      go_ret
      exact ⟨w.heap.size, rfl, hby, hbe⟩

end Go.Proofs.YtfbbidaoljfloaaDoor
