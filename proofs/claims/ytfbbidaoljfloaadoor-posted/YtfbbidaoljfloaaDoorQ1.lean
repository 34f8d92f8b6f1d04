import Derived.Test.YtfbbidaoljfloaaDoorK4
namespace Go.Proofs.YtfbbidaoljfloaaDoor
open Go.RowKit Go.MuLone

/-- A receiver alone. -/
structure XAt (w : World) (br : Nat) (R : RC) (V : RV) : Prop where
  recv : Recv w br R V
  lk : R.lk = 0
  rok : RVOk V
  tab : Tab w
  z : 0 ∉ R.foot br
def XRv (w : World) (br : Nat) (F : List Nat) (V : RV) : Prop := ∃ R, XAt w br R V ∧ F = R.foot br
structure XAft (w w' : World) (br : Nat) (F F' : List Nat) (V : RV) : Prop where
  x : XRv w' br F' V
  turn : Turn F w w'
  foot : ∀ g ∈ F', g ∈ F ∨ w.heap.size ≤ g
  z : 0 ∉ F
theorem XRv.turn {Z : List Nat} {w w' : World} {br : Nat} {F : List Nat} {V : RV} (h : XRv w br F V) (ht : Turn Z w w') (hn : ∀ g ∈ F, g ∉ Z) (h0 : 0 ∉ Z) : XRv w' br F V := by
  obtain ⟨R, hR, rfl⟩ := h
  exact ⟨R, ⟨hR.recv.turn ht hn, hR.lk, hR.rok, hR.tab.turn ht h0, hR.z⟩, rfl⟩
theorem XRv.tab {w : World} {br : Nat} {F : List Nat} {V : RV} (h : XRv w br F V) : Tab w := by
  obtain ⟨R, hR, rfl⟩ := h
  exact hR.tab
theorem XRv.lt {w : World} {br : Nat} {F : List Nat} {V : RV} (h : XRv w br F V) : ∀ g ∈ F, g < w.heap.size := by
  obtain ⟨R, hR, rfl⟩ := h
  exact hR.recv.lt
theorem XAt.after {w w' : World} {br : Nat} {R R' : RC} {V V' : RV} (h : XAt w br R V) (ha : Aft w w' br R R' V') (hv : RVOk V') : XAft w w' br (R.foot br) (R'.foot br) V' :=
  ⟨⟨R', ⟨ha.recv, ha.lk.trans h.lk, hv, h.tab.turn ha.turn h.z, fun hm => by
    rcases ha.foot 0 hm with q | q
    · exact h.z q
    · have := World.block_lt_of_cell? w _ (h.tab 0 0 rfl)
      simp at this
      omega⟩, rfl⟩, ha.turn, ha.foot, h.z⟩

theorem xHandle {w : World} {br : Nat} {F : List Nat} {V : RV} (text : ByteArray) (h : XRv w br F V) (hm : text.size ≤ 4611686018427387904) :
    Calls Tryd.prog 20 #[.pointer (some ⟨br, 0, none⟩), .string text] w fun e w' => ∃ F', XAft w w' br F F' (V.handle (bytesOf text)).1 ∧ NAns w w' F' e (V.handle (bytesOf text)).2 := by
  obtain ⟨R, hn, rfl⟩ := h
  refine (rhandle_any br R V text w hn.recv hn.lk hn.rok hn.tab hn.z hm).mono ?_
  rintro e w' ⟨R', ha, hans⟩
  exact ⟨_, hn.after ha (hn.rok.handle _ (bytesOf_lt text)), ⟨hans.none_, hans.some_⟩⟩
theorem xRank {w : World} {br : Nat} {F : List Nat} {V : RV} (h : XRv w br F V) :
    Calls Tryd.prog 29 #[.pointer (some ⟨br, 0, none⟩)] w fun e w' => e = .returned (.agg #[.int .i64 V.num, .int .i64 V.rnk, .int .i64 V.bks]) ∧ ∃ F', XAft w w' br F F' V := by
  obtain ⟨R, hn, rfl⟩ := h
  refine (rank_any br R V w hn.recv hn.lk).mono ?_
  rintro e w' ⟨rfl, R', ha⟩
  exact ⟨rfl, _, hn.after ha hn.rok⟩

/-- What Take answers. -/
def tk (V : RV) : ByteArray × Nat × Nat := match V.ready with | [] => (.empty, 0, 5) | p :: _ => (p.1, p.2, 0)
theorem xTake {w : World} {br : Nat} {F : List Nat} {V : RV} (h : XRv w br F V) :
    Calls Tryd.prog 24 #[.pointer (some ⟨br, 0, none⟩)] w fun e w' => e = .returned (.tuple #[.string (tk V).1, .int .i64 (tk V).2.1, .int .i64 (tk V).2.2]) ∧ ∃ F' V', XAft w w' br F F' V' := by
  obtain ⟨R, hn, rfl⟩ := h
  unfold tk
  cases hr : V.ready with
  | nil =>
    refine (take_none br R V w hn.recv hn.lk hr).mono ?_
    rintro e w' ⟨rfl, R', ha⟩
    exact ⟨rfl, _, _, hn.after ha hn.rok⟩
  | cons p l =>
    refine (take_some br R V p l w hn.recv hn.lk hn.rok hr).mono ?_
    rintro e w' ⟨rfl, R', ha⟩
    exact ⟨rfl, _, _, hn.after ha (hn.rok.less hr)⟩
theorem nTake_tk {w : World} {bs br : Nat} {F : List Nat} {S : SV} {V : RV} (h : Net w bs br F S V) :
    Calls Tryd.prog 24 #[.pointer (some ⟨br, 0, none⟩)] w fun e w' => e = .returned (.tuple #[.string (tk V).1, .int .i64 (tk V).2.1, .int .i64 (tk V).2.2]) ∧ ∃ F' V', NAft w w' bs br F F' S V' := by
  unfold tk
  cases hr : V.ready with
  | nil =>
    refine (nTake_none h hr).mono ?_
    rintro e w' ⟨rfl, F', ha⟩
    exact ⟨rfl, _, _, ha⟩
  | cons p l =>
    refine (nTake_some h hr).mono ?_
    rintro e w' ⟨rfl, F', ha⟩
    exact ⟨rfl, _, _, ha⟩
theorem xNew (b : Nat) (c : Int) (w : World) (ht : Tab w) (h : goodB b c = true) :
    Calls Tryd.prog 31 #[.agg #[.int .i64 b, .int .i64 c]] w fun e w' => ∃ br, e = .returned (.tuple #[.pointer (some ⟨br, 0, none⟩), .int .i64 0]) ∧ Below w.heap.size w w' ∧ w.heap.size ≤ br ∧ XRv w' br [br] (RV.fresh b) := by
  have hpos : 0 < w.heap.size := World.block_lt_of_cell? w _ (ht 0 0 rfl)
  have hg : 1 ≤ b ∧ b ≤ 32 := by unfold goodB at h; simp at h; omega
  refine (newReceiver_good b c w h).mono ?_
  rintro e w' ⟨br, rfl, hb, hbr, hr⟩
  obtain ⟨_, hft, hlk⟩ := fresh_recv b w' br hr.held.at_
  exact ⟨br, rfl, hb, hbr, RC.fresh b, ⟨hr, hlk, fresh_ok b hg.1 hg.2, ht.turn (Turn.below (S := []) hb (Nat.le_refl _)) (by simp), by rw [hft]; simp; omega⟩, hft.symm⟩

theorem infoSl : (Tryd.prog.info? 38).map (fun i => (i.zero, i.size, i.bytes)) = some (some (.slice none 0 0), 1, 24) := by kernel_rfl
/-- A list of lists of the law's own. -/
structure Vals (w : World) (F : List Nat) (B : Nat) (v : Value) (l : List Value) : Prop where
  owns : w.ownsRow 0 38 1 v l.length l
  out : ∀ k, v.ownBlock = some k → k ∉ F ∧ B ≤ k
theorem Vals.nil (w : World) (F : List Nat) (B : Nat) : Vals w F B (.slice none 0 0) [] := ⟨World.ownsRow_nil _ _ _ _, fun k hk => by simp [Value.ownBlock] at hk⟩
theorem Vals.shape {w : World} {F : List Nat} {B : Nat} {v : Value} {l : List Value} (h : Vals w F B v l) : ∃ sl cap, v = .slice sl l.length cap ∧ l.length ≤ cap := by
  rcases h.owns.2 with ⟨rfl, e⟩ | ⟨g, cap, cur, rfl, _, _, hn, _⟩
  · exact ⟨none, 0, by rw [e], by omega⟩
  · exact ⟨_, cap, rfl, hn⟩
theorem Vals.aft {w w' : World} {br : Nat} {F F' : List Nat} {V : RV} {B : Nat} {v : Value} {l : List Value} (h : Vals w F B v l) (ha : XAft w w' br F F' V) : Vals w' F' B v l :=
  ⟨ha.turn.owns h.owns (fun k hk => (h.out k hk).1), fun k hk => ⟨fun hm => by
    rcases ha.foot k hm with q | q
    · exact (h.out k hk).1 q
    · have := owns_lt h.owns hk; omega, (h.out k hk).2⟩⟩
theorem Vals.turn {Z : List Nat} {w w' : World} {F : List Nat} {B : Nat} {v : Value} {l : List Value} (h : Vals w F B v l) (ht : Turn Z w w') (hz : ∀ k, v.ownBlock = some k → k ∉ Z) : Vals w' F B v l :=
  ⟨ht.owns h.owns hz, h.out⟩
theorem Vals.get {w : World} {F : List Nat} {B : Nat} {v : Value} {l : List Value} (h : Vals w F B v l) {k : Nat} {t : Value} (hk : l[k]? = some t) : ∃ g cap, v = .slice (some ⟨g, 0, none⟩) l.length cap ∧ g < w.heap.size ∧ w.cell? ⟨g, k, none⟩ = some t := by
  have hlt := (List.getElem?_eq_some_iff.1 hk).1
  rcases h.owns.2 with ⟨_, e⟩ | ⟨g, cap, cur, rfl, _, _, hn, _⟩
  · omega
  · exact ⟨g, cap, rfl, owns_lt h.owns rfl, owns_cell h.owns rfl hk⟩

section
variable {ops : Array Oper} {rest : List Oper} {o : Oper} {a : Act} {Q : Exit → Act → World → Prop}
theorem wpList_vals (w : World) (hgd : o.guard = none) (s x : Operand) (ho : o.op = .call { callee := .builtin .append, args := #[s, x], argTypes := #[73, 73] })
    {F : List Nat} {B : Nat} (v : Value) (l : List Value) (h : Vals w F B v l) (hs : a.eval s = v) (G c : Nat) (hx : a.eval x = .slice (some ⟨G, 0, none⟩) 1 c) (t : Value) (h1 : t.oneCell' = true) (hG : w.cell? ⟨G, 0, none⟩ = some t) (hl : l.length ≤ 4294967296) (hF : ∀ g ∈ F, g < w.heap.size) (hB : B ≤ w.heap.size)
    (k : ∀ g cap w', Vals w' F B (.slice (some ⟨g, 0, none⟩) (l.length + 1) cap) (l ++ [t]) → Turn v.ownBlock.toList w w' → (v.ownBlock = some g ∨ g = w.heap.size) → wpList Tryd.prog ops Q rest (a.put o.dst (.slice (some ⟨g, 0, none⟩) (l.length + 1) cap)) w') :
    wpList Tryd.prog ops Q (o :: rest) a w := by
  obtain ⟨i0, hi, hz0, hz1, hz2⟩ := info_parts infoSl
  refine wpList_append_far w hgd s x 73 ho 38 i0 _ 1 24 Tryd.underlying73 hi hz0 hz1 hz2 rfl (by decide) v l.length _ hs h.owns ⟨G, 0, none⟩ 1 c [t] hx rfl ?_ (by simpa using h1) (by decide) (by unfold maxLen; omega) (by omega) ?_
  · intro j u hu
    match j, hu with
    | 0, hu =>
      cases hu
      exact hG
    | j + 1, hu => simp at hu
  · intro g cap w' h2 h3 h4 h5
    refine k g cap w' ⟨by simpa using h2, fun q hq => ?_⟩ ⟨h3.os, h3.tape, h3.output, h3.size, fun q hq hn => h3.block q hq (fun e => hn (by simp [← e]))⟩ h4
    obtain rfl : g = q := by simpa [Value.ownBlock] using hq
    rcases h4 with q | q
    · exact h.out g q
    · subst q
      exact ⟨fun hm => by have := hF _ hm; omega, hB⟩
end

/-- The state of a receiver that was handed these texts. -/
def stV (blk : Nat) (ts : List ByteArray) : RV := ts.foldl (fun V t => (V.handle (bytesOf t)).1) (RV.fresh blk)
theorem stV_succ {blk : Nat} {ts : List ByteArray} {i : Nat} {t : ByteArray} (h : ts[i]? = some t) : ((stV blk (ts.take i)).handle (bytesOf t)).1 = stV blk (ts.take (i + 1)) := by
  obtain ⟨hi, rfl⟩ := List.getElem?_eq_some_iff.1 h
  unfold stV
  rw [List.take_succ_eq_append_getElem hi, List.foldl_append]
  rfl
def ansV (blk : Nat) (ts : List ByteArray) (i : Nat) : Option (List Nat) := match ts[i]? with | none => none | some t => ((stV blk (ts.take i)).handle (bytesOf t)).2
theorem ansV_eq {blk : Nat} {ts : List ByteArray} {i : Nat} {t : ByteArray} (h : ts[i]? = some t) : ((stV blk (ts.take i)).handle (bytesOf t)).2 = ansV blk ts i := by
  unfold ansV
  rw [h]
/-- An answer as it was kept. -/
structure Kept (w : World) (F : List Nat) (B : Nat) (tv v : Value) (a : Option (List Nat)) : Prop where
  none_ : a = none → v = .slice none 0 0
  some_ : ∀ d, a = some d → ∃ G, v = .slice (some ⟨G, 0, none⟩) 1 1 ∧ w.heap[G]? = some (.cells #[.string (strOf d)] 9 (0, 0)) ∧ B ≤ G ∧ G ∉ F ∧ tv.ownBlock ≠ some G
theorem Kept.one {w : World} {F : List Nat} {B : Nat} {tv v : Value} {a : Option (List Nat)} (h : Kept w F B tv v a) : v.oneCell' = true := by
  cases a with
  | none => rw [h.none_ rfl]; rfl
  | some d => obtain ⟨G, rfl, _⟩ := h.some_ d rfl; rfl
theorem Kept.aft {w w' : World} {br : Nat} {F F' : List Nat} {V : RV} {B : Nat} {tv v : Value} {a : Option (List Nat)} (h : Kept w F B tv v a) (ha : XAft w w' br F F' V) : Kept w' F' B tv v a :=
  ⟨h.none_, fun d hd => by
    obtain ⟨G, q1, q2, q3, q4, q5⟩ := h.some_ d hd
    refine ⟨G, q1, (ha.turn.block G (lt_of_heap q2) q4).trans q2, q3, fun hm => ?_, q5⟩
    rcases ha.foot G hm with q | q
    · exact q4 q
    · have := lt_of_heap q2; omega⟩
theorem Kept.turn {w w' : World} {F : List Nat} {B : Nat} {tv v : Value} {a : Option (List Nat)} (h : Kept w F B tv v a) (ht : Turn [] w w') : Kept w' F B tv v a :=
  ⟨h.none_, fun d hd => by
    obtain ⟨G, q1, q2, q3, q4, q5⟩ := h.some_ d hd
    exact ⟨G, q1, (ht.block G (lt_of_heap q2) (by simp)).trans q2, q3, q4, q5⟩⟩
theorem Kept.grown {w w' : World} {F : List Nat} {B g n cap : Nat} {tv v : Value} {a : Option (List Nat)} (h : Kept w F B tv v a) (ht : Turn tv.ownBlock.toList w w') (hat : tv.ownBlock = some g ∨ g = w.heap.size) : Kept w' F B (.slice (some ⟨g, 0, none⟩) n cap) v a :=
  ⟨h.none_, fun d hd => by
    obtain ⟨G, q1, q2, q3, q4, q5⟩ := h.some_ d hd
    refine ⟨G, q1, (ht.block G (lt_of_heap q2) (by simpa using q5)).trans q2, q3, q4, fun e => ?_⟩
    obtain rfl : g = G := by simpa [Value.ownBlock] using e
    rcases hat with q | q
    · exact q5 q
    · have := lt_of_heap q2; omega⟩

/-- All that was told so far. -/
structure Told (w : World) (F : List Nat) (B : Nat) (tv : Value) (blk : Nat) (ts : List ByteArray) (l : List Value) : Prop where
  vals : Vals w F B tv l
  kept : ∀ k v, l[k]? = some v → Kept w F B tv v (ansV blk ts k)
theorem Told.nil (w : World) (F : List Nat) (B : Nat) (blk : Nat) (ts : List ByteArray) : Told w F B (.slice none 0 0) blk ts [] := ⟨Vals.nil w F B, fun k v h => by simp at h⟩
theorem Told.aft {w w' : World} {br : Nat} {F F' : List Nat} {V : RV} {B : Nat} {tv : Value} {blk : Nat} {ts : List ByteArray} {l : List Value} (h : Told w F B tv blk ts l) (ha : XAft w w' br F F' V) : Told w' F' B tv blk ts l := ⟨h.vals.aft ha, fun k v hk => (h.kept k v hk).aft ha⟩
theorem Told.turn {w w' : World} {F : List Nat} {B : Nat} {tv : Value} {blk : Nat} {ts : List ByteArray} {l : List Value} (h : Told w F B tv blk ts l) (ht : Turn [] w w') : Told w' F B tv blk ts l := ⟨h.vals.turn ht (by simp), fun k v hk => (h.kept k v hk).turn ht⟩
theorem Told.more {w w' : World} {F : List Nat} {B : Nat} {tv : Value} {blk : Nat} {ts : List ByteArray} {l : List Value} {v : Value} {g cap : Nat} (h : Told w F B tv blk ts l) (hk : Kept w F B tv v (ansV blk ts l.length)) (hv : Vals w' F B (.slice (some ⟨g, 0, none⟩) (l.length + 1) cap) (l ++ [v])) (ht : Turn tv.ownBlock.toList w w') (hat : tv.ownBlock = some g ∨ g = w.heap.size) : Told w' F B (.slice (some ⟨g, 0, none⟩) (l.length + 1) cap) blk ts (l ++ [v]) :=
  ⟨hv, fun k u hu => by
    rcases Nat.lt_or_ge k l.length with q | q
    · rw [List.getElem?_append_left q] at hu
      exact (h.kept k u hu).grown ht hat
    · have hk2 := (List.getElem?_eq_some_iff.1 hu).1
      simp at hk2
      obtain rfl : k = l.length := by omega
      obtain rfl : v = u := by simpa using hu
      exact hk.grown ht hat⟩

structure TextsIn (w : World) (sl : Option Addr) (ts : List ByteArray) : Prop where
  at_ : ∀ i x, ts[i]? = some x → ∃ a, sl = some a ∧ a.block < w.heap.size ∧ w.cell? (a.add i) = some (.string x)
  sz : ∀ x ∈ ts, x.size ≤ 281474976710656
  len : ts.length ≤ 1152921504606846976

end Go.Proofs.YtfbbidaoljfloaaDoor
