import Derived.Test.YtfbbidaoljfloaaDoorY6
namespace Go.Proofs.YtfbbidaoljfloaaDoor
open Go.RowKit

/-- A receiver whose set is S. -/
structure Held (w : World) (br : Nat) (R : RC) (S : Rx.SetV) : Prop where
  at_ : RAt w br R
  row : ∀ j, j < 32 → R.rows j = (S j).1
  sl : ∀ j, j < 32 → ((S j).1 = 0 ∧ R.sls j = .slice none 0 0) ∨ ((S j).1 ≠ 0 ∧ ∃ g c, R.sls j = .slice (some ⟨g, 0, none⟩) R.blk c ∧ Bytes w g R.blk c (S j).2 ∧ g ≠ br)
  apart : ∀ i j g, i < 32 → j < 32 → i ≠ j → (R.sls i).ownBlock = some g → (R.sls j).ownBlock ≠ some g

/-- The blocks of the sums. -/
def RC.blocks (R : RC) : List Nat := (List.range 32).filterMap (fun j => (R.sls j).ownBlock)
theorem RC.mem_blocks {R : RC} {g : Nat} : g ∈ R.blocks ↔ ∃ j, j < 32 ∧ (R.sls j).ownBlock = some g := by
  simp [RC.blocks]

theorem Held.turn {S' : List Nat} {w w' : World} {br : Nat} {R : RC} {S : Rx.SetV} (h : Held w br R S) (ht : Turn S' w w') (hb : br ∉ S') (hg : ∀ g ∈ R.blocks, g ∉ S') : Held w' br R S := by
  refine ⟨h.at_.turn ht hb, h.row, fun j hj => ?_, h.apart⟩
  rcases h.sl j hj with q | ⟨q, g, c, e, hy, hne⟩
  · exact .inl q
  · exact .inr ⟨q, g, c, e, hy.turn ht (hg g (RC.mem_blocks.2 ⟨j, hj, by rw [e]; rfl⟩)), hne⟩

theorem Held.lt {w : World} {br : Nat} {R : RC} {S : Rx.SetV} (h : Held w br R S) : ∀ g ∈ R.blocks, g < w.heap.size := by
  intro g hg
  obtain ⟨j, hj, e⟩ := RC.mem_blocks.1 hg
  rcases h.sl j hj with ⟨_, q⟩ | ⟨_, g', c, q, hy, _⟩
  · rw [q] at e; cases e
  · rw [q] at e
    obtain rfl : g' = g := by simpa [Value.ownBlock] using e
    exact owns_lt hy.owns rfl

/-- One, or none. -/
def bitN (b : Bool) : Nat := if b then 1 else 0

def rowOfCell : Option Value → Nat
  | some (.int _ r) => r.toNat
  | _ => 0

structure AddSt (w wr : World) (L K blk : Nat) (S : Rx.SetV) (A : Rx.SetV × Bool) (k r g c : Nat) (bs : List Nat) : Prop where
  cell : wr.heap[L]? = some (.cells #[.int .u32 r, .slice (some ⟨g, 0, none⟩) blk c] 116 (0, 0))
  bytes : Bytes wr g blk c bs
  lt : r < 2 ^ K
  eq : Rx.addF k S r bs = A
  low : r = 0 ∨ 33 ≤ k + Rx.low r
  turn : Turn [] w wr
  new : w.heap.size ≤ g
  ne : L ≠ g
  newL : w.heap.size ≤ L

theorem AddSt.cells {w wr : World} {L K blk : Nat} {S : Rx.SetV} {A : Rx.SetV × Bool} {k r g c : Nat} {bs : List Nat} (h : AddSt w wr L K blk S A k r g c bs) :
    wr.cell? ⟨L, 0, none⟩ = some (.int .u32 r) ∧ wr.cell? ⟨L, 1, none⟩ = some (.slice (some ⟨g, 0, none⟩) blk c) ∧ (∀ j, wr.frozen? ⟨L, j, none⟩ = false) :=
  ⟨by rw [cell_of_row _ _ _ _ _ _ h.cell]; rfl, by rw [cell_of_row _ _ _ _ _ _ h.cell]; rfl, fun j => frozen_of_row _ _ _ _ _ h.cell⟩

set_option maxRecDepth 100000 in
set_option maxHeartbeats 1600000 in
theorem addIn_any (br : Nat) (R : RC) (S : Rx.SetV) (K row gs off cap : Nat) (ns : List Nat) (w : World) (h : Held w br R S) (hok : Rx.SetOk R.blk K S) (hK : K ≤ 32) (ht : Tab w) (hr : row < 2 ^ K) (hc : CellsAt w gs off ns) (hl : ns.length = R.blk) (h1 : 1 ≤ R.blk) (h2 : R.blk ≤ 32) (hsr : R.srk ≤ 1000) :
    Calls Tryd.prog 78 #[.pointer (some ⟨br, 7, none⟩), .int .u32 row, .slice (some ⟨gs, off, none⟩) R.blk cap] w fun e w' => e = .returned (.tuple #[]) ∧ ∃ rows' sls', Held w' br { R with rows := rows', sls := sls', srk := R.srk + bitN (Rx.addF 33 S row ns).2 } (Rx.addF 33 S row ns).1 ∧ Turn [br] w w' ∧
      (∀ j g, j < 32 → (sls' j).ownBlock = some g → (R.sls j).ownBlock = some g ∨ w.heap.size ≤ g) := by
  have HA : Hid (∃ A, A = Rx.addF 33 S row ns) := ⟨_, rfl⟩
  obtain ⟨A, hA⟩ := HA.out
  rw [← hA]
  have HAA : Hid (A = Rx.addF 33 S row ns) := hA
  have HH : Hid (Held w br R S) := h
  clear hA HA
  go_enter Tryd.func78, Tryd.ntmps78
  go_wp2_with fail
  refine (sclone_any gs off R.blk cap ns _ hc hl (by omega) (by omega)).mono ?_
  rintro e w1 ⟨g1, c1, rfl, hy1, hb1, hg1⟩
  have T1 : Turn [] w (w1.alloc (.cells #[.int .u32 row, .slice (some ⟨g1, 0, none⟩) R.blk c1] 116)) := (Turn.below hb1 (Nat.le_refl _)).alloc _
  have hg1lt := owns_lt hy1.owns (g := g1) rfl
  have A0 : AddSt w (w1.alloc (.cells #[.int .u32 row, .slice (some ⟨g1, 0, none⟩) R.blk c1] 116)) w1.heap.size K R.blk S A 33 row g1 c1 ns :=
    ⟨heap_alloc_new _ _, hy1.turn ((Turn.refl [] w1).alloc _) (by simp), hr, HAA.out.symm, .inr (by omega), T1, hg1, by omega, hb1.size⟩
  go_wp2_with fail
  generalize w1.heap.size = L at *
  go_loopw [7] (fun _ wr => ∃ k r g c bs, AddSt w wr L K R.blk S A k r g c bs) (fun _ wr => if rowOfCell (wr.cell? ⟨L, 0, none⟩) = 0 then 0 else 33 - Rx.low (rowOfCell (wr.cell? ⟨L, 0, none⟩)))
  case atStart => exact ⟨33, row, g1, c1, ns, A0⟩
  case round =>
    obtain ⟨k, r, g, c, bs, hst⟩ := hrel
    obtain ⟨l0, l1, lf⟩ := hst.cells
    have hw : Held wr br R S := h.turn hst.turn (by simp) (by simp)
    have htw : Tab wr := ht.turn hst.turn (by simp)
    have hrl := Rx.lt32 hK hst.lt
    have HST : Hid _ := hst
    have HW : Hid _ := hw
    by_cases h0 : r = 0
    · have q0 : ((r : Int) != 0) = false := by rw [bne_eq_false_iff_eq]; omega
      clear hst hw
      go_wp2
      have e : A = (S, false) := by
        rw [← HST.out.eq, h0]
        cases k <;> simp [Rx.addF]
      refine bodyPost_end (results_none rfl _ _ _) rfl ⟨rfl, R.rows, R.sls, ?_, HST.out.turn.mono (by simp), fun _ _ _ q => .inl q⟩
      rw [e]
      exact HW.out
    · have q0 : ((r : Int) != 0) = true := by rw [bne_iff_ne]; omega
      have hlow := Rx.low_lt h0 hrl
      have a0 : (0 : Int) ≤ (Rx.low r : Int) := by omega
      have a1 : (Rx.low r : Int) < 32 := by omega
      have cr := hw.at_.rowAt hlow
      rw [hw.row _ hlow] at cr
      have cs := hw.at_.slAt hlow
      have hf := hw.at_.frozen
      obtain ⟨k', rfl⟩ : ∃ k', k = k' + 1 := by
        have := hst.low
        exact ⟨k - 1, by omega⟩
      by_cases hs : (S (Rx.low r)).1 = 0
      · rw [hs] at cr
        have c71 : wr.cell? ⟨br, 71, none⟩ = some (.int .i64 R.srk) := hw.at_.cell (by decide)
        clear hst hw
        go_wp2_with fail
        go_quiet ((go_at_call 104; exact Calls.quiet_of_same (trailing_any r _ h0 hrl (by assumption))))
        have c71' : (((wr.drewN nq).setCell ⟨br, 7 + Rx.low r * 2, none⟩ (.int .u32 r)).setCell ⟨br, 7 + Rx.low r * 2 + 1, none⟩ (.slice (some ⟨g, 0, none⟩) R.blk c)).cell? ⟨br, 71, none⟩ = some (.int .i64 R.srk) := by
          rw [World.cell?_setCell_other _ _ _ _ (by simp only [ne_eq, Addr.mk.injEq]; omega), World.cell?_setCell_other _ _ _ _ (by simp only [ne_eq, Addr.mk.injEq]; omega)]
          exact c71
        go_wp2_with fail
        have hR := ((RAt.setRow (w := wr.drewN nq) HW.out.at_ (Rx.low r) hlow r).setSl (Rx.low r) hlow (.slice (some ⟨g, 0, none⟩) R.blk c)).setSrk (R.srk + 1)
        have e : A = (Rx.setAt S (Rx.low r) (r, bs), true) := by
          rw [← HST.out.eq, Rx.addF, if_neg h0, if_pos hs]
        have hT : Turn [br] wr ((((wr.drewN nq).setCell ⟨br, 7 + Rx.low r * 2, none⟩ (.int .u32 r)).setCell ⟨br, 7 + Rx.low r * 2 + 1, none⟩ (.slice (some ⟨g, 0, none⟩) R.blk c)).setCell ⟨br, 71, none⟩ (.int .i64 ((R.srk : Int) + 1))) :=
          ((((Turn.refl [br] wr).drewN nq).setCell (.inl (by simp)) _).setCell (.inl (by simp)) _).setCell (.inl (by simp)) _
        have hgb : g ≠ br := by have := HST.out.new; have := HH.out.at_.lt; omega
        refine bodyPost_ret (results_none rfl _ _ _) rfl ⟨rfl, (fun i => if i = Rx.low r then r else R.rows i), (fun i => if i = Rx.low r then .slice (some ⟨g, 0, none⟩) R.blk c else R.sls i), ?_, (HST.out.turn.mono (by simp)).trans hT (fun x hx => .inl hx), ?_⟩
        rotate_left
        · intro j g' hj hq0
          have hq : (if j = Rx.low r then Value.slice (some ⟨g, 0, none⟩) R.blk c else R.sls j).ownBlock = some g' := hq0
          by_cases hjl : j = Rx.low r
          · rw [if_pos hjl] at hq
            obtain rfl : g = g' := by simpa [Value.ownBlock] using hq
            exact .inr HST.out.new
          · rw [if_neg hjl] at hq
            exact .inl hq
        · rw [e]
          refine ⟨hR, fun j hj => ?_, fun j hj => ?_, fun i j g' hi hj hij hq => ?_⟩
          · show (if j = Rx.low r then r else R.rows j) = (Rx.setAt S (Rx.low r) (r, bs) j).1
            by_cases hjl : j = Rx.low r
            · subst hjl; simp [Rx.setAt]
            · simp [Rx.setAt, hjl, HW.out.row j hj]
          · by_cases hjl : j = Rx.low r
            · right
              refine ⟨by simp [Rx.setAt, hjl, h0], g, c, by simp [hjl], ?_, hgb⟩
              have := HST.out.bytes.turn hT (by simpa using hgb)
              simpa [Rx.setAt, hjl] using this
            · rcases HW.out.sl j hj with ⟨q1, q2⟩ | ⟨q1, g', c', q2, q3, q4⟩
              · left; simp [Rx.setAt, hjl, q1, q2]
              · right
                refine ⟨by simp [Rx.setAt, hjl, q1], g', c', by simp [hjl, q2], ?_, q4⟩
                have := q3.turn hT (by simpa using q4)
                simpa [Rx.setAt, hjl] using this
          · show (if j = Rx.low r then Value.slice (some ⟨g, 0, none⟩) R.blk c else R.sls j).ownBlock ≠ some g'
            have hq' : (if i = Rx.low r then Value.slice (some ⟨g, 0, none⟩) R.blk c else R.sls i).ownBlock = some g' := hq
            have hold : ∀ x, x < 32 → (R.sls x).ownBlock ≠ some g := fun x hx e => by
              have := HH.out.lt g (RC.mem_blocks.2 ⟨x, hx, e⟩)
              have := HST.out.new
              omega
            by_cases hil : i = Rx.low r
            · rw [if_pos hil] at hq'
              obtain rfl : g = g' := by simpa [Value.ownBlock] using hq'
              rw [if_neg (by omega)]
              exact hold j hj
            · rw [if_neg hil] at hq'
              by_cases hjl : j = Rx.low r
              · rw [if_pos hjl]
                intro e
                obtain rfl : g = g' := by simpa [Value.ownBlock] using e
                exact hold i hi hq'
              · rw [if_neg hjl]
                exact HW.out.apart i j g' hi hj hij hq'
      · have HE := HST.out.eq
        rw [Rx.addF, if_neg h0, if_neg hs] at HE
        have HEE : Hid _ := HE
        clear HE
        obtain ⟨q1, q2, q3, q4⟩ := hok.row _ hs
        rcases hw.sl _ hlow with ⟨q5, _⟩ | ⟨_, g2, c2, q5, hy2, hg2⟩
        · exact absurd q5 hs
        rw [q5] at cs
        have hsl32 := Rx.lt32 hK q1
        have hqs : (((S (Rx.low r)).1 : Int) == 0) = false := by rw [beq_eq_false_iff_ne]; omega
        have hg2lt : g2 < w.heap.size := h.lt g2 (RC.mem_blocks.2 ⟨_, hlow, by rw [q5]; rfl⟩)
        have HY : Hid _ := hy2
        have HQ : Hid _ := And.intro q1 (And.intro q2 (And.intro q3 q4))
        clear hst hw hy2 q1 q2 q3 q4 q5 hs
        go_wp2_with fail
        go_quiet ((go_at_call 104; exact Calls.quiet_of_same (trailing_any r _ h0 hrl (by assumption))))
        go_wp2_with fail
        refine (addSum_any L 0 r (S (Rx.low r)).1 g c g2 c2 R.blk bs (S (Rx.low r)).2 (wr.drewN nq) l0 l1 (lf 0) ?_ ?_ ?_ HST.out.ne ?_ hrl hsl32 (by omega)).mono ?_
        · exact HST.out.bytes.turn ((Turn.refl [] wr).drewN nq) (by simp)
        · exact HY.out.turn ((Turn.refl [] wr).drewN nq) (by simp)
        · have := HST.out.new; omega
        · have := HST.out.newL; omega
        rintro e w2 ⟨rfl, ht2, hy2⟩
        have hne := Rx.next_row hK h0 HST.out.lt (by have := HQ.out; have := hqs; rw [beq_eq_false_iff_ne] at this; omega) HQ.out.1 HQ.out.2.1
        have hnst : AddSt w w2 L K R.blk S A k' (r ^^^ (S (Rx.low r)).1) g c (Rx.xorL bs (S (Rx.low r)).2) := by
          have hL2 : ((wr.drewN nq).setCell ⟨L, 0, none⟩ (.int .u32 (r ^^^ (S (Rx.low r)).1 : Nat))).heap[L]? = some (.cells #[.int .u32 (r ^^^ (S (Rx.low r)).1 : Nat), .slice (some ⟨g, 0, none⟩) R.blk c] 116 (0, 0)) := heap_setCell_same _ _ _ _ _ _ HST.out.cell
          refine ⟨(ht2.block L (lt_of_heap hL2) (by simpa using HST.out.ne)).trans hL2, hy2, hne.1, HEE.out, ?_, ?_, HST.out.new, HST.out.ne, HST.out.newL⟩
          · rcases hne.2 with q | q
            · exact .inl q
            · right
              have := HST.out.low
              omega
          · exact (((HST.out.turn.drewN nq).setCell (.inr HST.out.newL) _).trans ht2 (fun x hx => .inr (by simp at hx; subst hx; exact HST.out.new)))
        obtain ⟨m0, _, _⟩ := hnst.cells
        go_wp2_with fail
        refine ⟨⟨k', _, g, c, _, hnst⟩, ?_⟩
        rw [m0, l0]
        show (if ((r ^^^ (S (Rx.low r)).1 : Nat) : Int).toNat = 0 then 0 else 33 - Rx.low ((r ^^^ (S (Rx.low r)).1 : Nat) : Int).toNat) < (if ((r : Nat) : Int).toNat = 0 then 0 else 33 - Rx.low ((r : Nat) : Int).toNat)
        rw [Int.toNat_natCast, Int.toNat_natCast, if_neg h0]
        rcases hne.2 with q | q
        · rw [if_pos q]; omega
        · split <;> omega

end Go.Proofs.YtfbbidaoljfloaaDoor


namespace Go.Proofs.YtfbbidaoljfloaaDoor
open Go.RowKit

theorem andNot_bit {x j : Nat} (h : x < 4294967296) (hj : x.testBit j = true) : x &&& (4294967295 - 2 ^ j) = x ^^^ 2 ^ j := by
  have hj32 : j < 32 := by
    apply Classical.byContradiction
    intro hn
    have : x.testBit j = false := Nat.testBit_lt_two_pow (Nat.lt_of_lt_of_le (show x < 2 ^ 32 by omega) (Nat.pow_le_pow_right (by decide) (by omega)))
    rw [this] at hj
    cases hj
  have hp : 2 ^ j < 2 ^ 32 := Nat.pow_lt_pow_right (by decide) hj32
  apply Nat.eq_of_testBit_eq
  intro i
  rw [Nat.testBit_and, Nat.testBit_xor, Nat.testBit_two_pow, show 4294967295 - 2 ^ j = 2 ^ 32 - (2 ^ j + 1) by omega, Nat.testBit_two_pow_sub_succ hp, Nat.testBit_two_pow]
  by_cases hi : j = i
  · subst hi; simp [hj]
  · by_cases hi32 : i < 32
    · simp [hi, hi32]
    · have : x.testBit i = false := Nat.testBit_lt_two_pow (Nat.lt_of_lt_of_le (show x < 2 ^ 32 by omega) (Nat.pow_le_pow_right (by decide) (by omega)))
      simp [this, hi]

theorem clear_bits {o t : Nat} (h0 : o ≠ 0) (h : o < 4294967296) : (o ^^^ 2 ^ Rx.low o).testBit t = (o.testBit t && !decide (t = Rx.low o)) := by
  rw [Nat.testBit_xor, Nat.testBit_two_pow]
  by_cases e : Rx.low o = t
  · subst e; simp [Rx.low_bit h0 h]
  · have e' : ¬ t = Rx.low o := fun q => e q.symm
    simp [e, e']
theorem clear_lt {o : Nat} (h0 : o ≠ 0) (h : o < 4294967296) : o ^^^ 2 ^ Rx.low o < o := by
  rw [← Rx.and_pred h0 h]
  exact Nat.lt_of_le_of_lt Nat.and_le_right (by omega)
theorem clear_low {o : Nat} (h0 : o ≠ 0) (h : o < 4294967296) : o ^^^ 2 ^ Rx.low o = 0 ∨ Rx.low o < Rx.low (o ^^^ 2 ^ Rx.low o) := by
  by_cases e : o ^^^ 2 ^ Rx.low o = 0
  · exact .inl e
  · right
    have hl : o ^^^ 2 ^ Rx.low o < 4294967296 := Nat.lt_trans (clear_lt h0 h) h
    have hb := Rx.low_bit e hl
    rw [clear_bits h0 h] at hb
    simp at hb
    rcases Nat.lt_trichotomy (Rx.low o) (Rx.low (o ^^^ 2 ^ Rx.low o)) with q | q | q
    · exact q
    · exact absurd q.symm hb.2
    · rw [Rx.low_below h0 h q] at hb
      simp at hb

/-- Another sum goes out of sum j. -/
theorem setOk_out {blk K : Nat} {S : Rx.SetV} (hK : K ≤ 32) (h : Rx.SetOk blk K S) {j t : Nat} (hj : (S j).1 ≠ 0) (ht : (S t).1 ≠ 0) (hlt : j < t) :
    Rx.SetOk blk K (Rx.setAt S j ((S j).1 ^^^ (S t).1, Rx.xorL (S j).2 (S t).2)) ∧ (S j).1 ^^^ (S t).1 ≠ 0 := by
  obtain ⟨a1, a2, a3, a4⟩ := h.row j hj
  obtain ⟨b1, b2, b3, b4⟩ := h.row t ht
  have hx : (S j).1 ^^^ (S t).1 < 2 ^ K := Nat.xor_lt_two_pow a1 b1
  have hbit : ((S j).1 ^^^ (S t).1).testBit j = true := by
    rw [Nat.testBit_xor]
    have e1 : (S j).1.testBit j = true := by have := Rx.low_bit hj (Rx.lt32 hK a1); rwa [a2] at this
    have e2 : (S t).1.testBit j = false := Rx.low_below ht (Rx.lt32 hK b1) (by omega)
    rw [e1, e2]; rfl
  have hlow : Rx.low ((S j).1 ^^^ (S t).1) = j := Rx.low_unique (Rx.lt32 hK hx) hbit (fun i hi => by
    rw [Nat.testBit_xor, Rx.low_below hj (Rx.lt32 hK a1) (by omega), Rx.low_below ht (Rx.lt32 hK b1) (by omega)]
    rfl)
  refine ⟨⟨fun i hi => ?_⟩, fun e => by rw [e] at hbit; simp at hbit⟩
  by_cases hij : i = j
  · subst hij
    rw [Rx.setAt_same]
    exact ⟨hx, hlow, by rw [Rx.xorL_len (by omega)]; exact a3, Rx.xorL_lt a4 b4⟩
  · rw [Rx.setAt_other _ _ hij] at hi ⊢
    exact h.row i hi

theorem Held.over {wr w2 : World} {br : Nat} {R : RC} {S : Rx.SetV} (h : Held wr br R S) {j g1 c1 x : Nat} {bs : List Nat} (hj : j < 32) (hs : R.sls j = .slice (some ⟨g1, 0, none⟩) R.blk c1) (hx : x ≠ 0)
    (ht : Turn [g1] (wr.setCell ⟨br, 7 + j * 2, none⟩ (.int .u32 (x : Nat))) w2) (hy : Bytes w2 g1 R.blk c1 bs) : Held w2 br { R with rows := fun i => if i = j then x else R.rows i } (Rx.setAt S j (x, bs)) := by
  have hgb : g1 ≠ br := by
    rcases h.sl j hj with ⟨_, q⟩ | ⟨_, g, c, q, _, hne⟩
    · rw [hs] at q; cases q
    · rw [hs] at q
      injection q with q1
      simp at q1
      omega
  have hT : Turn [br, g1] wr w2 := ((Turn.refl [br, g1] wr).setCell (.inl (by simp)) _).trans ht (by simp)
  refine ⟨(h.at_.setRow j hj x).turn ht (by simpa using fun e => hgb e.symm), fun i hi => ?_, fun i hi => ?_, h.apart⟩
  · show (if i = j then x else R.rows i) = (Rx.setAt S j (x, bs) i).1
    by_cases hij : i = j
    · simp [Rx.setAt, hij]
    · simp [Rx.setAt, hij, h.row i hi]
  · by_cases hij : i = j
    · subst hij
      right
      refine ⟨by simp [Rx.setAt, hx], g1, c1, hs, ?_, hgb⟩
      rw [Rx.setAt_same]
      exact hy
    · rw [Rx.setAt_other _ _ hij]
      rcases h.sl i hi with q | ⟨q1, g, c, q2, q3, q4⟩
      · exact .inl q
      · refine .inr ⟨q1, g, c, q2, q3.turn hT ?_, q4⟩
        have : g ≠ g1 := fun e => h.apart i j g hi hj hij (by rw [q2]; rfl) (by rw [hs, e]; rfl)
        simp [this, q4]

structure OutSt (w wr : World) (br : Nat) (R : RC) (K j : Nat) (S A : Rx.SetV) (k o : Nat) (S' : Rx.SetV) (rows' : Nat → Nat) : Prop where
  held : Held wr br { R with rows := rows' } S'
  ok : Rx.SetOk R.blk K S'
  nz : (S' j).1 ≠ 0
  same : ∀ t, t ≠ j → S' t = S t
  lt : o < 4294967296
  bits : ∀ t, o.testBit t = true → j < t ∧ (S t).1 ≠ 0
  eq : Rx.outF k S' j o = A
  low : o = 0 ∨ 33 ≤ k + Rx.low o
  turn : Turn (br :: R.blocks) w wr

set_option maxRecDepth 100000 in
set_option maxHeartbeats 1600000 in
theorem leaveAlone_any (br : Nat) (R : RC) (S : Rx.SetV) (K j : Nat) (w : World) (h : Held w br R S) (hok : Rx.SetOk R.blk K S) (hK : K ≤ 32) (ht : Tab w) (hb0 : 0 ∉ br :: R.blocks) (hj : j < K) (hnz : ∀ t, t < K → (S t).1 ≠ 0) (h1 : 1 ≤ R.blk) (h2 : R.blk ≤ 32) :
    Calls Tryd.prog 119 #[.pointer (some ⟨br, 7, none⟩), .int .i64 j] w fun e w' => e = .returned (.tuple #[]) ∧ ∃ rows', Held w' br { R with rows := rows' } (Rx.aloneF S j) ∧ Rx.SetOk R.blk K (Rx.aloneF S j) ∧ (∀ t, t < K → (Rx.aloneF S j t).1 ≠ 0) ∧ Turn (br :: R.blocks) w w' := by
  have hnj := hnz j hj
  obtain ⟨a1, a2, a3, a4⟩ := hok.row j hnj
  have hbj : (S j).1.testBit j = true := by have := Rx.low_bit hnj (Rx.lt32 hK a1); rwa [a2] at this
  have hr32 := Rx.lt32 hK a1
  have j0 : (0 : Int) ≤ (j : Int) := by omega
  have j1 : (j : Int) < 32 := by omega
  have cr := h.at_.rowAt (show j < 32 by omega)
  rw [h.row j (by omega)] at cr
  have hp : 2 ^ j < 4294967296 := Nat.lt_of_lt_of_le (Nat.pow_lt_pow_right (by decide) (show j < 32 by omega)) (by decide)
  have hand : bits BinOp.andNot IntKind.u32 ((S j).1 : Int) (2 ^ j % 4294967296) = (((S j).1 ^^^ 2 ^ j : Nat) : Int) := by
    rw [show ((2 : Int) ^ j % 4294967296) = ((2 ^ j : Nat) : Int) by
      rw [show (2 : Int) ^ j = ((2 ^ j : Nat) : Int) by simp]
      generalize 2 ^ j = p at hp ⊢
      omega, u32_andNot_nat _ _ hr32 hp, andNot_bit hr32 hbj]
  have hxl : (S j).1 ^^^ 2 ^ j < 4294967296 := Rx.xor_lt32' hr32 hp
  have O0 : OutSt w w br R K j S (Rx.aloneF S j) 33 ((S j).1 ^^^ 2 ^ j) S R.rows :=
    ⟨h, hok, hnj, fun _ _ => rfl, hxl, fun t htb => by
      rw [Nat.testBit_xor, Nat.testBit_two_pow] at htb
      have htK : t < K := by
        apply Classical.byContradiction
        intro hn
        have e1 : (S j).1.testBit t = false := Nat.testBit_lt_two_pow (Nat.lt_of_lt_of_le a1 (Nat.pow_le_pow_right (by decide) (by omega)))
        have e2 : ¬ j = t := by omega
        simp [e1, e2] at htb
      refine ⟨?_, hnz t htK⟩
      rcases Nat.lt_trichotomy j t with q | q | q
      · exact q
      · subst q; simp [hbj] at htb
      · have e1 : (S j).1.testBit t = false := Rx.low_below hnj hr32 (by omega)
        have e2 : ¬ j = t := by omega
        simp [e1, e2] at htb, rfl, by
      by_cases e : (S j).1 ^^^ 2 ^ j = 0
      · exact .inl e
      · exact .inr (by omega), Turn.refl _ _⟩
  have HH : Hid (Held w br R S) := h
  clear a1 a2 a3 a4 h
  go_enter Tryd.func119, Tryd.ntmps119
  go_wp2_with fail
  go_quiet (fail)
  go_wp2_with fail
  go_loopw [5] (fun v wr => ∃ k o S' rows', v = .int .u32 (o : Nat) ∧ OutSt w wr br R K j S (Rx.aloneF S j) k o S' rows') (fun v _ => (intOf v).toNat)
  case atStart => exact ⟨33, _, S, R.rows, rfl, ⟨O0.held.turn ((Turn.refl [] w).drewN nq) (by simp) (by simp), O0.ok, O0.nz, O0.same, O0.lt, O0.bits, O0.eq, O0.low, (Turn.refl _ _).drewN _⟩⟩
  case round =>
    obtain ⟨k, o, S', rows', rfl, hst⟩ := hrel
    have hol := hst.lt
    have htw : Tab wr := ht.turn hst.turn hb0
    have HST : Hid _ := hst
    clear O0
    by_cases h0 : o = 0
    · have q0 : ((o : Int) != 0) = false := by rw [bne_eq_false_iff_eq]; omega
      clear hst
      go_wp2
      have e : S' = Rx.aloneF S j := by
        rw [← HST.out.eq, h0]
        cases k <;> simp [Rx.outF]
      refine bodyPost_end (results_none rfl _ _ _) rfl ⟨rfl, rows', e ▸ HST.out.held, e ▸ HST.out.ok, fun t htK => ?_, HST.out.turn⟩
      rw [← e]
      by_cases htj : t = j
      · rw [htj]; exact HST.out.nz
      · rw [HST.out.same t htj]; exact hnz t htK
    · have q0 : ((o : Int) != 0) = true := by rw [bne_iff_ne]; omega
      have hlow := Rx.low_lt h0 hol
      obtain ⟨hjt, hnt⟩ := hst.bits _ (Rx.low_bit h0 hol)
      have hne : Rx.low o ≠ j := by omega
      have hst' : S' (Rx.low o) = S (Rx.low o) := hst.same _ hne
      have hnt' : (S' (Rx.low o)).1 ≠ 0 := by rw [hst']; exact hnt
      obtain ⟨k', rfl⟩ : ∃ k', k = k' + 1 := by
        have := hst.low
        exact ⟨k - 1, by omega⟩
      obtain ⟨nok, nnz⟩ := setOk_out hK hst.ok hst.nz hnt' hjt
      have HN : Hid _ := And.intro nok nnz
      have HEQ : Hid (Rx.outF k' (Rx.setAt S' j ((S' j).1 ^^^ (S' (Rx.low o)).1, Rx.xorL (S' j).2 (S' (Rx.low o)).2)) j (o ^^^ 2 ^ Rx.low o) = Rx.aloneF S j) := by
        have e := hst.eq
        rw [Rx.outF, if_neg h0] at e
        exact e
      obtain ⟨s1, s2, s3, s4⟩ := hst.ok.row j hst.nz
      obtain ⟨t1, t2, t3, t4⟩ := hst.ok.row _ hnt'
      rcases hst.held.sl j (by omega) with ⟨q, _⟩ | ⟨_, g1, c1, e1, y1, n1⟩
      · exact absurd q hst.nz
      rcases hst.held.sl (Rx.low o) hlow with ⟨q, _⟩ | ⟨_, g2, c2, e2, y2, n2⟩
      · exact absurd q hnt'
      have hg12 : g1 ≠ g2 := fun e => hst.held.apart j (Rx.low o) g1 (by omega) hlow (by omega) (by rw [e1]; rfl) (by rw [e2, e]; rfl)
      have cj := hst.held.at_.rowAt (show j < 32 by omega)
      rw [hst.held.row j (by omega)] at cj
      have sj := hst.held.at_.slAt (show j < 32 by omega)
      rw [e1] at sj
      have ct := hst.held.at_.rowAt hlow
      rw [hst.held.row _ hlow] at ct
      have stt := hst.held.at_.slAt hlow
      rw [e2] at stt
      have fz := hst.held.at_.frozen (7 + j * 2)
      have x1 := Rx.lt32 hK s1
      have x2 := Rx.lt32 hK t1
      have a0 : (0 : Int) ≤ (Rx.low o : Int) := by omega
      have a1 : (Rx.low o : Int) < 32 := by omega
      have hand2 : bits BinOp.and IntKind.u32 (o : Int) ((o : Int) - 1) = ((o ^^^ 2 ^ Rx.low o : Nat) : Int) := by
        rw [show (o : Int) - 1 = ((o - 1 : Nat) : Int) by omega, u32_and_nat _ _ hol (by omega), Rx.and_pred h0 hol]
      have HE1 : Hid _ := e1
      clear s1 s2 s3 s4 t1 t2 t3 t4 hst nok nnz e1 e2 hst' hnt'
      go_wp2_with fail
      refine wp_region_noPanic ?_
      go_region_law (first
        | (go_simp; go_at_call 104; refine (trailing_any o wr.drew h0 hol htw).mono ?_; rintro e w' ⟨rfl, rfl⟩)
        | (go_simp; go_at_call 105; refine (addSum_any br (7 + j * 2) (S' j).1 (S' (Rx.low o)).1 g1 c1 g2 c2 R.blk (S' j).2 (S' (Rx.low o)).2 wr.drew cj sj fz (y1.turn ((Turn.refl [] wr).drew) (by simp)) (y2.turn ((Turn.refl [] wr).drew) (by simp)) hg12 (fun e => n1 e.symm) (fun e => n2 e.symm) x1 x2 (by omega)).mono ?_; rintro e w2 ⟨rfl, ht2, hy2⟩))
      refine NoPanic.normal ?_
      have hg1m : g1 ∈ R.blocks := RC.mem_blocks.2 ⟨j, by omega, by rw [show R.sls j = _ from HE1.out]; rfl⟩
      have hnst : OutSt w w2 br R K j S (Rx.aloneF S j) k' (o ^^^ 2 ^ Rx.low o) (Rx.setAt S' j ((S' j).1 ^^^ (S' (Rx.low o)).1, Rx.xorL (S' j).2 (S' (Rx.low o)).2)) (fun i => if i = j then (S' j).1 ^^^ (S' (Rx.low o)).1 else rows' i) := by
        refine ⟨?_, HN.out.1, by rw [Rx.setAt_same]; exact HN.out.2, fun t htj => by rw [Rx.setAt_other _ _ htj]; exact HST.out.same t htj, Nat.lt_trans (clear_lt h0 hol) hol, fun t htb => ?_, HEQ.out, ?_, ?_⟩
        · exact (HST.out.held.turn ((Turn.refl [] wr).drew) (by simp) (by simp)).over (by omega) HE1.out HN.out.2 ht2 hy2
        · rw [clear_bits h0 hol] at htb
          simp at htb
          exact HST.out.bits t htb.1
        · rcases clear_low h0 hol with q | q
          · exact .inl q
          · right
            have := HST.out.low
            omega
        · exact ((HST.out.turn.drew).setCell (.inl (by simp)) _).trans ht2 (fun x hx => .inl (by simp at hx; subst hx; exact List.mem_cons_of_mem _ hg1m))
      have HNS : Hid _ := hnst
      clear hnst
      go_wp2
      refine ⟨⟨k', _, _, _, rfl, HNS.out⟩, ?_⟩
      have := clear_lt h0 hol
      simp [intOf]
      omega

theorem Held.bytesAt {w : World} {br : Nat} {R : RC} {S : Rx.SetV} (h : Held w br R S) {j : Nat} (hj : j < 32) (hn : (S j).1 ≠ 0) : ∃ g c, R.sls j = .slice (some ⟨g, 0, none⟩) R.blk c ∧ Bytes w g R.blk c (S j).2 ∧ g ≠ br := by
  rcases h.sl j hj with ⟨q, _⟩ | ⟨_, q⟩
  · exact absurd q hn
  · exact q

def joinUp (S : Rx.SetV) (i : Nat) : List Nat := (List.range i).flatMap (fun j => (S j).2)
theorem joinUp_succ (S : Rx.SetV) (i : Nat) : joinUp S (i + 1) = joinUp S i ++ (S i).2 := by simp [joinUp, List.range_succ]

structure JoinAft (w w' : World) (br : Nat) (R : RC) (n g c : Nat) (bs : List Nat) : Prop where
  bytes : Bytes w' g n c bs
  turn : Turn (br :: R.blocks) w w'
  at_ : ∃ rows', RAt w' br { R with rows := rows' }
  new : w.heap.size ≤ g

set_option maxRecDepth 100000 in
set_option maxHeartbeats 1600000 in
theorem join_any (br : Nat) (R : RC) (S : Rx.SetV) (K : Nat) (w : World) (h : Held w br R S) (hok : Rx.SetOk R.blk K S) (hK : K ≤ 32) (hK1 : 1 ≤ K) (ht : Tab w) (hb0 : 0 ∉ br :: R.blocks) (hnz : ∀ t, t < K → (S t).1 ≠ 0) (h1 : 1 ≤ R.blk) (h2 : R.blk ≤ 32) :
    Calls Tryd.prog 106 #[.pointer (some ⟨br, 7, none⟩), .int .i64 K] w fun e w' => ∃ g c, e = .returned (.slice (some ⟨g, 0, none⟩) (K * R.blk) c) ∧ JoinAft w w' br R (K * R.blk) g c (Rx.joinF S K) := by
  obtain ⟨i0, hi, hz0, hz1, hz2⟩ := info_parts infoByte
  have HJ : Hid (Rx.joinF S K = joinUp (Rx.downF K S) K) := rfl
  rw [HJ.out]
  go_enter Tryd.func106, Tryd.ntmps106
  go_wp2_with fail
  go_loopw [5] (fun v wr => ∃ (m : Nat) (S' : Rx.SetV) (rows' : Nat → Nat), m ≤ K ∧ v = .int .i64 ((m : Int) - 1) ∧ Held wr br { R with rows := rows' } S' ∧ Rx.SetOk R.blk K S' ∧ (∀ t, t < K → (S' t).1 ≠ 0) ∧ Rx.downF m S' = Rx.downF K S ∧ Turn (br :: R.blocks) w wr) (fun v _ => ((intOf v) + 1).toNat)
  case atStart => exact ⟨K, S, R.rows, Nat.le_refl _, by go_num, h, hok, hnz, rfl, Turn.refl _ _⟩
  case round =>
    obtain ⟨m, S', rows', hm, rfl, hh, hok', hnz', hdn, htt⟩ := hrel
    by_cases hm0 : m = 0
    · have q0 : decide ((0 : Int) ≤ (m : Int) - 1) = false := by simp; omega
      have e : S' = Rx.downF K S := by rw [← hdn, hm0]; rfl
      have HE : Hid _ := e
      clear hdn e
      have p0 : (0 : Int) ≤ (K : Int) := by omega
      have p1 : (K : Int) ≤ 32 := by omega
      go_wp2_with fail
      go_loopw [6, 24] (fun v iv wq => ∃ i : Nat, i ≤ K ∧ iv = .int .i64 i ∧ wq.ownsRow 0 5 1 v (i * R.blk) (byteRow (joinUp S' i)) ∧ (∀ x, v.ownBlock = some x → w.heap.size ≤ x) ∧ Turn (br :: R.blocks) w wq ∧ Held wq br { R with rows := rows' } S') (fun _ iv _ => K - (intOf iv).toNat)
      case atStart => exact ⟨0, Nat.zero_le _, rfl, by rw [Nat.zero_mul]; exact World.ownsRow_nil _ _ _ _, (fun x hx => by simp [Value.ownBlock] at hx), htt, hh⟩
      case round =>
        obtain ⟨i, hik, rfl, hown, hnew, htq, hhq⟩ := hrel
        by_cases hlt : i < K
        · have hlt' : (i : Int) < (K : Int) := by omega
          have hi0 : (0 : Int) ≤ (i : Int) := by omega
          obtain ⟨gb, cb, e1, y1', n1⟩ := hhq.bytesAt (show i < 32 by omega) (hnz' i hlt)
          have y1 : Bytes wr gb R.blk cb (S' i).2 := y1'
          have yl : (S' i).2.length = R.blk := y1.len
          have cr := hhq.at_.rowAt (show i < 32 by omega)
          have cs := hhq.at_.slAt (show i < 32 by omega)
          rw [e1] at cs
          have hgl := owns_lt y1.owns (g := gb) rfl
          have HS : Hid (joinUp S' (i + 1) = joinUp S' i ++ (S' i).2) := joinUp_succ _ _
          have hmul : (i + 1) * R.blk = i * R.blk + R.blk := Nat.succ_mul _ _
          have hmle : i * R.blk ≤ 32 * 32 := Nat.mul_le_mul (by omega) (by omega)
          have HM : Hid _ := hmul
          clear hmul
          go_wp2_with (at_builtin; go_loud (refine wpList_append_far _ rfl _ _ 114 rfl 5 i0 _ 1 1 Tryd.underlying114 hi hz0 hz1 hz2 rfl (by decide) u6 (i * R.blk) (byteRow (joinUp S' i)) rfl (hown.alloc _) ⟨gb, 0, none⟩ R.blk cb (byteRow (S' i).2) rfl (by rw [byteRow_len]; omega) ((y1.turn ((Turn.refl [] wr).alloc _) (by simp)).owns.cells (g := gb) rfl) (by intro u hu; simp [byteRow] at hu; obtain ⟨b, _, rfl⟩ := hu; rfl) (by omega) (by unfold maxLen; omega) (by omega) ?_; intro g' c' w3 hown3 hgrow hat hlt3))
          have hT3 : Turn (br :: R.blocks) w w3 := (htq.alloc _).grown hgrow (fun x hx => .inr (hnew x hx))
          have hTq : Turn u6.ownBlock.toList wr w3 := ((Turn.refl _ wr).alloc _).grown hgrow (fun x hx => .inl (by simp [hx]))
          have hsz0 : w.heap.size ≤ wr.heap.size := htq.size
          have hold : ∀ x, (x = br ∨ x ∈ R.blocks) → x ∉ u6.ownBlock.toList := fun x hx hm => by
            have h3 := hnew x (by simpa using hm)
            rcases hx with rfl | hx
            · have := h.at_.lt; omega
            · have := h.lt x hx; omega
          have hh3 : Held w3 br { R with rows := rows' } S' := hhq.turn hTq (hold br (.inl rfl)) (fun g hg => hold g (.inr hg))
          have hgn : w.heap.size ≤ g' := by
            rcases hat with q | q
            · exact hnew g' q
            · simp at q; omega
          go_round
          case rel =>
            refine ⟨_, _, _, ?_, rfl, rfl, rfl⟩
            refine ⟨i + 1, by omega, by go_num, ?_, fun x hx => ?_, hT3, hh3⟩
            · rw [HM.out, HS.out, byteRow_append]
              exact hown3
            · obtain rfl : g' = x := by simpa [Value.ownBlock] using hx
              exact hgn
          case measure => simp [intOf]; omega
        · have hlt' : ¬ (i : Int) < (K : Int) := by omega
          obtain rfl : i = K := by omega
          obtain ⟨g', c', rfl, _, _⟩ := hown.form (Nat.mul_pos (by omega) (by omega))
          have hjl : (joinUp S' i).length = i * R.blk := by
            have := hown.1
            rw [byteRow_len] at this
            omega
          go_wp2
          go_ret
          refine ⟨g', c', rfl, ⟨?_, htq, ⟨rows', hhq.at_⟩, hnew g' rfl⟩⟩
          rw [← HE.out]
          refine ⟨hown, hjl, fun b hb => ?_⟩
          simp only [joinUp, List.mem_flatMap, List.mem_range] at hb
          obtain ⟨t, htK, hm⟩ := hb
          exact (hok'.row t (hnz' t htK)).2.2.2 b hm
    · obtain ⟨m', rfl⟩ : ∃ m', m = m' + 1 := ⟨m - 1, by omega⟩
      have q0 : decide ((0 : Int) ≤ ((m' + 1 : Nat) : Int) - 1) = true := by simp
      have q1 : ((m' + 1 : Nat) : Int) - 1 = (m' : Int) := by omega
      rw [q1] at q0 ⊢
      have HD : Hid (Rx.downF m' (Rx.aloneF S' m') = Rx.downF K S) := hdn
      clear hdn q1
      go_wp2_with fail
      refine (leaveAlone_any br { R with rows := rows' } S' K m' _ hh hok' hK (ht.turn htt hb0) hb0 (by omega) hnz' h1 h2).mono ?_
      rintro e w2 ⟨rfl, rows2, hh2, hok2, hnz2, ht2⟩
      go_wp2_with fail
      refine ⟨⟨m', _, rows2, by omega, by go_num, hh2, hok2, hnz2, HD.out, htt.trans ht2 (fun x hx => .inl hx)⟩, ?_⟩
      simp [intOf]

end Go.Proofs.YtfbbidaoljfloaaDoor
