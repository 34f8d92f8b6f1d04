import Derived.Test.YtfbbidaoljfloaaDoorY6
namespace Go.Proofs.YtfbbidaoljfloaaDoor
open Go.RowKit

/-- A receiver whose set is S. -/
structure Held (w : World) (br : Nat) (R : RC) (S : Rx.SetV) : Prop where
  at_ : RAt w br R
  row : ∀ j, j < 32 → R.rows j = (S j).1
  sl : ∀ j, j < 32 → ((S j).1 = 0 ∧ R.sls j = .slice none 0 0) ∨ ((S j).1 ≠ 0 ∧ ∃ g c, R.sls j = .slice (some ⟨g, 0, none⟩) R.blk c ∧ Bytes w g R.blk c (S j).2 ∧ g ≠ br)
  apart : ∀ i j g, i < 32 → j < 32 → i ≠ j → (R.sls i).ownBlock = some g → (R.sls j).ownBlock ≠ some g

/-- The blocks of the sums. -/
def RC.blocks (R : RC) : List Nat := (List.range 32).filterMap (fun j => (R.sls j).ownBlock)
theorem RC.mem_blocks {R : RC} {g : Nat} : g ∈ R.blocks ↔ ∃ j, j < 32 ∧ (R.sls j).ownBlock = some g := by
  simp [RC.blocks]

theorem Held.turn {S' : List Nat} {w w' : World} {br : Nat} {R : RC} {S : Rx.SetV} (h : Held w br R S) (ht : Turn S' w w') (hb : br ∉ S') (hg : ∀ g ∈ R.blocks, g ∉ S') : Held w' br R S := by
  refine ⟨h.at_.turn ht hb, h.row, fun j hj => ?_, h.apart⟩
  rcases h.sl j hj with q | ⟨q, g, c, e, hy, hne⟩
  · exact .inl q
  · exact .inr ⟨q, g, c, e, hy.turn ht (hg g (RC.mem_blocks.2 ⟨j, hj, by rw [e]; rfl⟩)), hne⟩

theorem Held.lt {w : World} {br : Nat} {R : RC} {S : Rx.SetV} (h : Held w br R S) : ∀ g ∈ R.blocks, g < w.heap.size := by
  intro g hg
  obtain ⟨j, hj, e⟩ := RC.mem_blocks.1 hg
  rcases h.sl j hj with ⟨_, q⟩ | ⟨_, g', c, q, hy, _⟩
  · rw [q] at e; cases e
  · rw [q] at e
    obtain rfl : g' = g := by simpa [Value.ownBlock] using e
    exact owns_lt hy.owns rfl

/-- One, or none. -/
def bitN (b : Bool) : Nat := if b then 1 else 0

def rowOfCell : Option Value → Nat
  | some (.int _ r) => r.toNat
  | _ => 0

structure AddSt (w wr : World) (L K blk : Nat) (S : Rx.SetV) (A : Rx.SetV × Bool) (k r g c : Nat) (bs : List Nat) : Prop where
  cell : wr.heap[L]? = some (.cells #[.int .u32 r, .slice (some ⟨g, 0, none⟩) blk c] 116 (0, 0))
  bytes : Bytes wr g blk c bs
  lt : r < 2 ^ K
  eq : Rx.addF k S r bs = A
  low : r = 0 ∨ 33 ≤ k + Rx.low r
  turn : Turn [] w wr
  new : w.heap.size ≤ g
  ne : L ≠ g
  newL : w.heap.size ≤ L

theorem AddSt.cells {w wr : World} {L K blk : Nat} {S : Rx.SetV} {A : Rx.SetV × Bool} {k r g c : Nat} {bs : List Nat} (h : AddSt w wr L K blk S A k r g c bs) :
    wr.cell? ⟨L, 0, none⟩ = some (.int .u32 r) ∧ wr.cell? ⟨L, 1, none⟩ = some (.slice (some ⟨g, 0, none⟩) blk c) ∧ (∀ j, wr.frozen? ⟨L, j, none⟩ = false) :=
  ⟨by rw [cell_of_row _ _ _ _ _ _ h.cell]; rfl, by rw [cell_of_row _ _ _ _ _ _ h.cell]; rfl, fun j => frozen_of_row _ _ _ _ _ h.cell⟩

set_option maxRecDepth 100000 in
set_option maxHeartbeats 1600000 in
theorem addIn_any (br : Nat) (R : RC) (S : Rx.SetV) (K row gs off cap : Nat) (ns : List Nat) (w : World) (h : Held w br R S) (hok : Rx.SetOk R.blk K S) (hK : K ≤ 32) (ht : Tab w) (hr : row < 2 ^ K) (hc : CellsAt w gs off ns) (hl : ns.length = R.blk) (h1 : 1 ≤ R.blk) (h2 : R.blk ≤ 32) (hsr : R.srk ≤ 1000) :
    Calls Tryd.prog 78 #[.pointer (some ⟨br, 7, none⟩), .int .u32 row, .slice (some ⟨gs, off, none⟩) R.blk cap] w fun e w' => e = .returned (.tuple #[]) ∧ ∃ rows' sls', Held w' br { R with rows := rows', sls := sls', srk := R.srk + bitN (Rx.addF 33 S row ns).2 } (Rx.addF 33 S row ns).1 ∧ Turn [br] w w' ∧
      (∀ j g, j < 32 → (sls' j).ownBlock = some g → (R.sls j).ownBlock = some g ∨ w.heap.size ≤ g) := by
  have HA : Hid (∃ A, A = Rx.addF 33 S row ns) := ⟨_, rfl⟩
  obtain ⟨A, hA⟩ := HA.out
  rw [← hA]
  have HAA : Hid (A = Rx.addF 33 S row ns) := hA
  have HH : Hid (Held w br R S) := h
  clear hA HA
  go_enter Tryd.func78, Tryd.ntmps78
  go_wp2_with fail
  refine (sclone_any gs off R.blk cap ns _ hc hl (by omega) (by omega)).mono ?_
  rintro e w1 ⟨g1, c1, rfl, hy1, hb1, hg1⟩
  have T1 : Turn [] w (w1.alloc (.cells #[.int .u32 row, .slice (some ⟨g1, 0, none⟩) R.blk c1] 116)) := (Turn.below hb1 (Nat.le_refl _)).alloc _
  have hg1lt := owns_lt hy1.owns (g := g1) rfl
  have A0 : AddSt w (w1.alloc (.cells #[.int .u32 row, .slice (some ⟨g1, 0, none⟩) R.blk c1] 116)) w1.heap.size K R.blk S A 33 row g1 c1 ns :=
    ⟨heap_alloc_new _ _, hy1.turn ((Turn.refl [] w1).alloc _) (by simp), hr, HAA.out.symm, .inr (by omega), T1, hg1, by omega, hb1.size⟩
  go_wp2_with fail
  generalize w1.heap.size = L at *
  go_loopw [7] (fun _ wr => ∃ k r g c bs, AddSt w wr L K R.blk S A k r g c bs) (fun _ wr => if rowOfCell (wr.cell? ⟨L, 0, none⟩) = 0 then 0 else 33 - Rx.low (rowOfCell (wr.cell? ⟨L, 0, none⟩)))
  case atStart => exact ⟨33, row, g1, c1, ns, A0⟩
  case round =>
    obtain ⟨k, r, g, c, bs, hst⟩ := hrel
    obtain ⟨l0, l1, lf⟩ := hst.cells
    have hw : Held wr br R S := h.turn hst.turn (by simp) (by simp)
    have htw : Tab wr := ht.turn hst.turn (by simp)
    have hrl := Rx.lt32 hK hst.lt
    have HST : Hid _ := hst
    have HW : Hid _ := hw
    by_cases h0 : r = 0
    · have q0 : ((r : Int) != 0) = false := by rw [bne_eq_false_iff_eq]; omega
      clear hst hw
      go_wp2
      have e : A = (S, false) := by
        rw [← HST.out.eq, h0]
        cases k <;> simp [Rx.addF]
      refine bodyPost_end (results_none rfl _ _ _) rfl ⟨rfl, R.rows, R.sls, ?_, HST.out.turn.mono (by simp), fun _ _ _ q => .inl q⟩
      rw [e]
      exact HW.out
    · have q0 : ((r : Int) != 0) = true := by rw [bne_iff_ne]; omega
      have hlow := Rx.low_lt h0 hrl
      have a0 : (0 : Int) ≤ (Rx.low r : Int) := by omega
      have a1 : (Rx.low r : Int) < 32 := by omega
      have cr := hw.at_.rowAt hlow
      rw [hw.row _ hlow] at cr
      have cs := hw.at_.slAt hlow
      have hf := hw.at_.frozen
      obtain ⟨k', rfl⟩ : ∃ k', k = k' + 1 := by
        have := hst.low
        exact ⟨k - 1, by omega⟩
      by_cases hs : (S (Rx.low r)).1 = 0
      · rw [hs] at cr
        have c71 : wr.cell? ⟨br, 71, none⟩ = some (.int .i64 R.srk) := hw.at_.cell (by decide)
        clear hst hw
        go_wp2_with fail
        go_quiet ((go_at_call 104; exact Calls.quiet_of_same (trailing_any r _ h0 hrl (by assumption))))
        have c71' : (((wr.drewN nq).setCell ⟨br, 7 + Rx.low r * 2, none⟩ (.int .u32 r)).setCell ⟨br, 7 + Rx.low r * 2 + 1, none⟩ (.slice (some ⟨g, 0, none⟩) R.blk c)).cell? ⟨br, 71, none⟩ = some (.int .i64 R.srk) := by
          rw [World.cell?_setCell_other _ _ _ _ (by simp only [ne_eq, Addr.mk.injEq]; omega), World.cell?_setCell_other _ _ _ _ (by simp only [ne_eq, Addr.mk.injEq]; omega)]
          exact c71
        go_wp2_with fail
        have hR := ((RAt.setRow (w := wr.drewN nq) HW.out.at_ (Rx.low r) hlow r).setSl (Rx.low r) hlow (.slice (some ⟨g, 0, none⟩) R.blk c)).setSrk (R.srk + 1)
        have e : A = (Rx.setAt S (Rx.low r) (r, bs), true) := by
          rw [← HST.out.eq, Rx.addF, if_neg h0, if_pos hs]
        have hT : Turn [br] wr ((((wr.drewN nq).setCell ⟨br, 7 + Rx.low r * 2, none⟩ (.int .u32 r)).setCell ⟨br, 7 + Rx.low r * 2 + 1, none⟩ (.slice (some ⟨g, 0, none⟩) R.blk c)).setCell ⟨br, 71, none⟩ (.int .i64 ((R.srk : Int) + 1))) :=
          ((((Turn.refl [br] wr).drewN nq).setCell (.inl (by simp)) _).setCell (.inl (by simp)) _).setCell (.inl (by simp)) _
        have hgb : g ≠ br := by have := HST.out.new; have := HH.out.at_.lt; omega
        refine bodyPost_ret (results_none rfl _ _ _) rfl ⟨rfl, (fun i => if i = Rx.low r then r else R.rows i), (fun i => if i = Rx.low r then .slice (some ⟨g, 0, none⟩) R.blk c else R.sls i), ?_, (HST.out.turn.mono (by simp)).trans hT (fun x hx => .inl hx), ?_⟩
        rotate_left
        · intro j g' hj hq0
          have hq : (if j = Rx.low r then Value.slice (some ⟨g, 0, none⟩) R.blk c else R.sls j).ownBlock = some g' := hq0
          by_cases hjl : j = Rx.low r
          · rw [if_pos hjl] at hq
            obtain rfl : g = g' := by simpa [Value.ownBlock] using hq
            exact .inr HST.out.new
          · rw [if_neg hjl] at hq
            exact .inl hq
        · rw [e]
          refine ⟨hR, fun j hj => ?_, fun j hj => ?_, fun i j g' hi hj hij hq => ?_⟩
          · show (if j = Rx.low r then r else R.rows j) = (Rx.setAt S (Rx.low r) (r, bs) j).1
            by_cases hjl : j = Rx.low r
            · subst hjl; simp [Rx.setAt]
            · simp [Rx.setAt, hjl, HW.out.row j hj]
          · by_cases hjl : j = Rx.low r
            · right
              refine ⟨by simp [Rx.setAt, hjl, h0], g, c, by simp [hjl], ?_, hgb⟩
              have := HST.out.bytes.turn hT (by simpa using hgb)
              simpa [Rx.setAt, hjl] using this
            · rcases HW.out.sl j hj with ⟨q1, q2⟩ | ⟨q1, g', c', q2, q3, q4⟩
              · left; simp [Rx.setAt, hjl, q1, q2]
              · right
                refine ⟨by simp [Rx.setAt, hjl, q1], g', c', by simp [hjl, q2], ?_, q4⟩
                have := q3.turn hT (by simpa using q4)
                simpa [Rx.setAt, hjl] using this
          · show (if j = Rx.low r then Value.slice (some ⟨g, 0, none⟩) R.blk c else R.sls j).ownBlock ≠ some g'
            have hq' : (if i = Rx.low r then Value.slice (some ⟨g, 0, none⟩) R.blk c else R.sls i).ownBlock = some g' := hq
            have hold : ∀ x, x < 32 → (R.sls x).ownBlock ≠ some g := fun x hx e => by
              have := HH.out.lt g (RC.mem_blocks.2 ⟨x, hx, e⟩)
              have := HST.out.new
              omega
            by_cases hil : i = Rx.low r
            · rw [if_pos hil] at hq'
              obtain rfl : g = g' := by simpa [Value.ownBlock] using hq'
              rw [if_neg (by omega)]
              exact hold j hj
            · rw [if_neg hil] at hq'
              by_cases hjl : j = Rx.low r
              · rw [if_pos hjl]
                intro e
                obtain rfl : g = g' := by simpa [Value.ownBlock] using e
                exact hold i hi hq'
              · rw [if_neg hjl]
                exact HW.out.apart i j g' hi hj hij hq'
      · have HE := HST.out.eq
        rw [Rx.addF, if_neg h0, if_neg hs] at HE
        have HEE : Hid _ := HE
        clear HE
        obtain ⟨q1, q2, q3, q4⟩ := hok.row _ hs
        rcases hw.sl _ hlow with ⟨q5, _⟩ | ⟨_, g2, c2, q5, hy2, hg2⟩
        · exact absurd q5 hs
        rw [q5] at cs
        have hsl32 := Rx.lt32 hK q1
        have hqs : (((S (Rx.low r)).1 : Int) == 0) = false := by rw [beq_eq_false_iff_ne]; omega
        have hg2lt : g2 < w.heap.size := h.lt g2 (RC.mem_blocks.2 ⟨_, hlow, by rw [q5]; rfl⟩)
        have HY : Hid _ := hy2
        have HQ : Hid _ := And.intro q1 (And.intro q2 (And.intro q3 q4))
        clear hst hw hy2 q1 q2 q3 q4 q5 hs
        go_wp2_with fail
        go_quiet ((go_at_call 104; exact Calls.quiet_of_same (trailing_any r _ h0 hrl (by assumption))))
        go_wp2_with fail
        refine (addSum_any L 0 r (S (Rx.low r)).1 g c g2 c2 R.blk bs (S (Rx.low r)).2 (wr.drewN nq) l0 l1 (lf 0) ?_ ?_ ?_ HST.out.ne ?_ hrl hsl32 (by omega)).mono ?_
        · exact HST.out.bytes.turn ((Turn.refl [] wr).drewN nq) (by simp)
        · exact HY.out.turn ((Turn.refl [] wr).drewN nq) (by simp)
        · have := HST.out.new; omega
        · have := HST.out.newL; omega
        rintro e w2 ⟨rfl, ht2, hy2⟩
        have hne := Rx.next_row hK h0 HST.out.lt (by have := HQ.out; have := hqs; rw [beq_eq_false_iff_ne] at this; omega) HQ.out.1 HQ.out.2.1
        have hnst : AddSt w w2 L K R.blk S A k' (r ^^^ (S (Rx.low r)).1) g c (Rx.xorL bs (S (Rx.low r)).2) := by
          have hL2 : ((wr.drewN nq).setCell ⟨L, 0, none⟩ (.int .u32 (r ^^^ (S (Rx.low r)).1 : Nat))).heap[L]? = some (.cells #[.int .u32 (r ^^^ (S (Rx.low r)).1 : Nat), .slice (some ⟨g, 0, none⟩) R.blk c] 116 (0, 0)) := heap_setCell_same _ _ _ _ _ _ HST.out.cell
          refine ⟨(ht2.block L (lt_of_heap hL2) (by simpa using HST.out.ne)).trans hL2, hy2, hne.1, HEE.out, ?_, ?_, HST.out.new, HST.out.ne, HST.out.newL⟩
          · rcases hne.2 with q | q
            · exact .inl q
            · right
              have := HST.out.low
              omega
          · exact (((HST.out.turn.drewN nq).setCell (.inr HST.out.newL) _).trans ht2 (fun x hx => .inr (by simp at hx; subst hx; exact HST.out.new)))
        obtain ⟨m0, _, _⟩ := hnst.cells
        go_wp2_with fail
        refine ⟨⟨k', _, g, c, _, hnst⟩, ?_⟩
        rw [m0, l0]
        show (if ((r ^^^ (S (Rx.low r)).1 : Nat) : Int).toNat = 0 then 0 else 33 - Rx.low ((r ^^^ (S (Rx.low r)).1 : Nat) : Int).toNat) < (if ((r : Nat) : Int).toNat = 0 then 0 else 33 - Rx.low ((r : Nat) : Int).toNat)
        rw [Int.toNat_natCast, Int.toNat_natCast, if_neg h0]
        rcases hne.2 with q | q
        · rw [if_pos q]; omega
        · split <;> omega

end Go.Proofs.YtfbbidaoljfloaaDoor
