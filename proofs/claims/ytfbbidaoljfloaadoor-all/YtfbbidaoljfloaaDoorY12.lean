import Derived.Test.YtfbbidaoljfloaaDoorY11
import Derived.Test.YtfbbidaoljfloaaDoorP4
namespace Go.Proofs.YtfbbidaoljfloaaDoor
open Go.RowKit Go.MuLone

def RV.gone (V : RV) (x1 x2 x3 : Nat) (ns : List Nat) : RV := if V.dlv x1 then V else V.gather x1 x2 x3 ns
/-- What a receiver makes of a text. -/
def RV.handle (V : RV) (bs : List Nat) : RV × Option (List Nat) :=
  match readS bs V.blk with
  | none => (V, none)
  | some (x1, x2, x3, ns) => if canB x1 x2 x3 V.blk then (V.gone x1 x2 x3 ns, if (V.gone x1 x2 x3 ns).dlv x1 then some (doneB x1 V.blk) else none) else (V, none)

theorem RVOk.gather {V : RV} (h : RVOk V) {x1 x2 x3 : Nat} {ns : List Nat} (hc : canB x1 x2 x3 V.blk = true) (hx2 : x2 < 65536) (hnd : V.dlv x1 = false) (hl : ns.length = V.blk) (hb : ∀ b ∈ ns, b < 256) : RVOk (V.gather x1 x2 x3 ns) := by
  obtain ⟨f1, f2, f3, f4, f5⟩ := h.first hc hx2
  obtain ⟨c1, c2, c3, c4, c5⟩ := canB_iff.1 hc
  unfold RV.gather
  by_cases hs : x1 < (V.first x1 x2).num ∨ x2 ≠ (V.first x1 x2).len
  · rw [if_pos hs]; exact f1
  · rw [if_neg hs]
    have hn : x1 = (V.first x1 x2).num := by omega
    have hx : x2 = (V.first x1 x2).len := by omega
    have hsh := f1.shape (by omega)
    have ha := f1.add (x3 := x3) (ns := ns) (by rw [hsh.1, ← hx, f2]; exact c5) (by rw [f2]; exact hl) hb
    unfold RV.last
    split
    · exact ha.deliver (by show (V.first x1 x2).dlv (V.first x1 x2).num = false; rw [← hn, f4]; exact hnd) (by show 1 ≤ (V.first x1 x2).num; omega)
    · exact ha

theorem gather_blk (V : RV) (x1 x2 x3 : Nat) (ns : List Nat) : (V.gather x1 x2 x3 ns).blk = V.blk := by
  unfold RV.gather RV.last RV.first
  repeat' split
  all_goals rfl

theorem readS_facts {bs : List Nat} {blk x1 x2 x3 : Nat} {ns : List Nat} (hb : ∀ b ∈ bs, b < 256) (h : readS bs blk = some (x1, x2, x3, ns)) : bs.length = blk + 13 ∧ bs.getD 0 0 = 1 ∧ bs.take (blk + 9) ++ leBytes 4 (crc (bs.take (blk + 9))) = bs ∧ x1 = leVal ((bs.drop 1).take 2) ∧ x2 = leVal ((bs.drop 3).take 2) ∧ x3 = leVal ((bs.drop 5).take 4) ∧ ns = (bs.drop 9).take blk ∧ x1 < 65536 ∧ x2 < 65536 ∧ x3 < 4294967296 ∧ ns.length = blk ∧ ∀ b ∈ ns, b < 256 := by
  unfold readS at h
  split at h
  · rename_i hh
    simp only [Option.some.injEq, Prod.mk.injEq] at h
    obtain ⟨rfl, rfl, rfl, rfl⟩ := h
    have hd : ∀ i k, ∀ b ∈ (bs.drop i).take k, b < 256 := fun i k b hm => hb b (List.mem_of_mem_drop (List.mem_of_mem_take hm))
    have e1 := leVal_lt _ (hd 1 2)
    have e2 := leVal_lt _ (hd 3 2)
    have e3 := leVal_lt _ (hd 5 4)
    have l1 : ((bs.drop 1).take 2).length = 2 := by simp; omega
    have l2 : ((bs.drop 3).take 2).length = 2 := by simp; omega
    have l3 : ((bs.drop 5).take 4).length = 4 := by simp; omega
    rw [l1] at e1
    rw [l2] at e2
    rw [l3] at e3
    exact ⟨hh.1, hh.2.1, hh.2.2, rfl, rfl, rfl, rfl, by omega, by omega, by omega, by simp; omega, hd 9 blk⟩
  · cases h

theorem RVOk.handle {V : RV} (h : RVOk V) (bs : List Nat) (hb : ∀ b ∈ bs, b < 256) : RVOk (V.handle bs).1 := by
  unfold RV.handle
  cases hr : readS bs V.blk with
  | none => exact h
  | some p =>
    obtain ⟨x1, x2, x3, ns⟩ := p
    obtain ⟨_, _, _, _, _, _, _, q1, q2, q3, q4, q5⟩ := readS_facts hb hr
    simp only
    split
    · rename_i hc
      unfold RV.gone
      split
      · exact h
      · rename_i hd
        exact h.gather hc q2 (by simpa using hd) q4 q5
    · exact h

theorem Recv.setLk {w : World} {br : Nat} {R : RC} {V : RV} (h : Recv w br R V) (x : Int) : Recv (w.setCell ⟨br, 0, none⟩ (.int .i32 x)) br { R with lk := x } V := by
  have hT : Turn [br] w (w.setCell ⟨br, 0, none⟩ (.int .i32 x)) := (Turn.refl [br] w).setCell (.inl (by simp)) _
  refine ⟨⟨h.held.at_.setLk x, h.held.row, fun j hj => ?_, h.held.apart⟩, h.eblk, h.enum, h.ernk, h.ebks, h.elen, h.esrk, h.edlv, hT.owns h.owns (fun k hk => by
      intro hm
      simp at hm
      rw [hm] at hk
      exact h.rn1 hk), h.rn1, h.rn2⟩
  rcases h.held.sl j hj with q | ⟨q1, g, c, q2, q3, q4⟩
  · exact .inl q
  · exact .inr ⟨q1, g, c, q2, q3.turn hT (by simpa using q4), q4⟩

theorem Aft.below {w w' : World} {br : Nat} {R : RC} {V : RV} (h : Recv w br R V) (hb : Below w.heap.size w w') : Aft w w' br R R V :=
  ⟨h.turn (Turn.below (S := []) hb (Nat.le_refl _)) (by simp), rfl, Turn.below hb (Nat.le_refl _), fun _ hg => .inl hg⟩

theorem Aft.unlock {w w2 : World} {br : Nat} {R R2 : RC} {V2 : RV} (hl : R.lk = 0) (hA : Aft (w.setCell ⟨br, 0, none⟩ (.int .i32 1)) w2 br { R with lk := 1 } R2 V2) :
    Aft w (w2.setCell ⟨br, 0, none⟩ (.int .i32 0)) br R { R2 with lk := 0 } V2 :=
  ⟨hA.recv.setLk 0, hl.symm, (((Turn.refl (R.foot br) w).setCell (.inl (by simp [RC.foot])) _).trans hA.turn (fun x hx => .inl hx)).setCell (.inl (by simp [RC.foot])) _, fun g hg => by
    rcases hA.foot g hg with q | q
    · exact .inl q
    · right; simpa using q⟩

/-- What comes out. -/
structure Ans (w w' : World) (R' : RC) (br : Nat) (e : Ending) (a : Option (List Nat)) : Prop where
  none_ : a = none → e = .returned (.slice none 0 0)
  some_ : ∀ d, a = some d → ∃ G, e = .returned (.slice (some ⟨G, 0, none⟩) 1 1) ∧ w'.heap[G]? = some (.cells #[.string (strOf d)] 9 (0, 0)) ∧ w.heap.size ≤ G ∧ G ∉ R'.foot br

set_option maxRecDepth 100000 in
set_option maxHeartbeats 1600000 in
theorem rhandle_none (br : Nat) (R : RC) (V : RV) (text : ByteArray) (w : World) (h : Recv w br R V) (hlk : R.lk = 0) (hv : RVOk V) (hm : text.size ≤ 4611686018427387904) (hr : readS (bytesOf text) V.blk = none) :
    Calls Tryd.prog 20 #[.pointer (some ⟨br, 0, none⟩), .string text] w fun e w' => e = .returned (.slice none 0 0) ∧ ∃ R', Aft w w' br R R' V := by
  have hread : ∀ w, Calls Tryd.prog 45 #[.string text, .int .i64 V.blk] w fun e w' => e = .returned (.tuple #[.agg #[.int .i64 0, .int .i64 0, .int .u32 0, .slice none 0 0], .bool false]) ∧ Below w.heap.size w w' := by
    intro w
    unfold readS at hr
    rw [bytesOf_len] at hr
    by_cases hs : text.size = V.blk + 13
    · by_cases hk : (bytesOf text).getD 0 0 = 1
      · by_cases hc : (bytesOf text).take (V.blk + 9) ++ leBytes 4 (crc ((bytesOf text).take (V.blk + 9))) = bytesOf text
        · rw [if_pos ⟨hs, hk, hc⟩] at hr
          cases hr
        · exact read_seal text V.blk w hv.b1 hv.b2 hs hk hc
      · exact read_kind text V.blk w hv.b1 hv.b2 hs hk
    · exact read_len text V.blk w hv.b1 hv.b2 hs hm
  have s0 := h.held.at_.c0
  rw [hlk] at s0
  have sf := h.held.at_.frozen 0
  have hL := h.setLk 1
  have s2 := hL.held.at_.c2
  rw [show ({ R with lk := 1 } : RC).blk = V.blk from h.eblk] at s2
  have HL : Hid _ := hL
  have HK : Hid (R.lk = 0) := hlk
  have HH : Hid _ := h
  have hlt := h.held.at_.lt
  clear hL h hlk
  go_enter_defers Tryd.func20, Tryd.ntmps20
  go_wp2_with fail
  refine (lock_free muLib ⟨br, 0, none⟩ _ s0 sf).mono ?_
  rintro e w1 ⟨rfl, rfl⟩
  go_wp2_with fail
  refine (hread _).mono ?_
  rintro e w2 ⟨rfl, hb2⟩
  have HB2 : Hid _ := hb2
  clear hb2
  go_wp2_with fail
  go_quiet (fail)
  go_wp2_with fail
  have hA3 := Aft.below HL.out ((HB2.out.alloc HB2.out.size (.cells #[.int .i64 0, .int .i64 0, .int .u32 0, .slice none 0 0] 125)).drewN nq)
  refine leaves_cons (f := 40) (args := #[.pointer (some ⟨br, 0, none⟩)]) (by simp) (by simp [go_sem]) ?_
  refine (unlock_deferred muLib ⟨br, 0, none⟩ .returning _ hA3.recv.held.at_.c0 (hA3.recv.held.at_.frozen 0)).mono ?_
  rintro e u' w'' ⟨rfl, rfl, rfl⟩
  exact ⟨_, results_tmp rfl _ _ _, rfl, _, Aft.unlock HK.out hA3⟩

/-- A sum that was read. -/
structure Read (text : ByteArray) (V : RV) (x1 x2 x3 : Nat) (ns : List Nat) : Prop where
  call : ∀ w, Calls Tryd.prog 45 #[.string text, .int .i64 V.blk] w fun e w' => ∃ g cap, e = .returned (.tuple #[.agg #[.int .i64 x1, .int .i64 x2, .int .u32 x3, .slice (some ⟨g, 9, none⟩) V.blk cap], .bool true]) ∧ Below w.heap.size w w' ∧ CellsAt w' g 9 ns ∧ w.heap.size ≤ g ∧ V.blk ≤ cap ∧ cap ≤ maxLen
  b1 : x1 < 65536
  b2 : x2 < 65536
  b3 : x3 < 4294967296
  len : ns.length = V.blk

theorem read_of {text : ByteArray} {V : RV} (hv : RVOk V) {x1 x2 x3 : Nat} {ns : List Nat} (hr : readS (bytesOf text) V.blk = some (x1, x2, x3, ns)) : Read text V x1 x2 x3 ns := by
  obtain ⟨a1, a2, a3, rfl, rfl, rfl, rfl, a4, a5, a6, a7, a8⟩ := readS_facts (bytesOf_lt text) hr
  rw [bytesOf_len] at a1
  exact ⟨fun w => read_good text V.blk w hv.b1 hv.b2 a1 a2 a3, a4, a5, a6, a7⟩

set_option maxRecDepth 100000 in
set_option maxHeartbeats 1600000 in
theorem rhandle_cannot (br : Nat) (R : RC) (V : RV) (text : ByteArray) (w : World) (x1 x2 x3 : Nat) (ns : List Nat) (h : Recv w br R V) (hlk : R.lk = 0) (hv : RVOk V) (hr : Read text V x1 x2 x3 ns) (hc : canB x1 x2 x3 V.blk = false) :
    Calls Tryd.prog 20 #[.pointer (some ⟨br, 0, none⟩), .string text] w fun e w' => e = .returned (.slice none 0 0) ∧ ∃ R', Aft w w' br R R' V := by
  obtain ⟨hread, b1, b2, b3, hln⟩ := hr
  have s0 := h.held.at_.c0
  rw [hlk] at s0
  have sf := h.held.at_.frozen 0
  have hL := h.setLk 1
  have s2 := hL.held.at_.c2
  rw [show ({ R with lk := 1 } : RC).blk = V.blk from h.eblk] at s2
  have HL : Hid _ := hL
  have HK : Hid (R.lk = 0) := hlk
  have hlt := h.held.at_.lt
  have hv1 := hv.b1
  have hv2 := hv.b2
  clear hL h hlk
  go_enter_defers Tryd.func20, Tryd.ntmps20
  go_wp2_with fail
  refine (lock_free muLib ⟨br, 0, none⟩ _ s0 sf).mono ?_
  rintro e w1 ⟨rfl, rfl⟩
  go_wp2_with fail
  refine (hread _).mono ?_
  rintro e w2 ⟨g, cap, rfl, hb2, hce, hg, hcp1, hcp2⟩
  have t2 : w2.cell? ⟨br, 2, none⟩ = some (.int .i64 V.blk) := (hb2.cell (p := ⟨br, 2, none⟩) (by simpa using hlt)).trans s2
  have HB2 : Hid _ := hb2
  have hsz2 : w.heap.size ≤ w2.heap.size := by have := hb2.size; simpa using this
  have hlt2 : br < w2.heap.size := by omega
  clear hb2 hce
  go_wp2_with fail
  refine wp_region_noPanic ?_
  go_region_law (first
    | (go_simp; go_at_call 46; refine (canBe_any x1 x2 x3 V.blk _ _ rfl hv1 hv2 b1 b2 b3).mono ?_; rintro e w3 ⟨rfl, hb3⟩; rw [hc]))
  all_goals
    refine NoPanic.normal ?_
    go_wp2_with fail
    have hA3 := Aft.below HL.out (((HB2.out.alloc HB2.out.size (.cells #[.int .i64 x1, .int .i64 x2, .int .u32 x3, .slice (some ⟨g, 9, none⟩) V.blk cap] 125)).drew).trans (hb3.mono (by simp; omega)))
    refine leaves_cons (f := 40) (args := #[.pointer (some ⟨br, 0, none⟩)]) (by simp) (by simp [go_sem]) ?_
    refine (unlock_deferred muLib ⟨br, 0, none⟩ .returning _ hA3.recv.held.at_.c0 (hA3.recv.held.at_.frozen 0)).mono ?_
    rintro e u' w'' ⟨rfl, rfl, rfl⟩
    exact ⟨_, results_tmp rfl _ _ _, rfl, _, Aft.unlock HK.out hA3⟩

end Go.Proofs.YtfbbidaoljfloaaDoor
