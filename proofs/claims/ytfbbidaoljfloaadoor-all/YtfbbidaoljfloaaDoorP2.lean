import Derived.Test.YtfbbidaoljfloaaDoorP1
import Derived.Deep.RegionHeld3
namespace Go.Proofs.YtfbbidaoljfloaaDoor
open Go.RowKit Go.MuLone

/-- What a sender's block holds. -/
def SenderAt (w : World) (bs : Nat) (blk bud : Int) (pv : Value) (en : Int) : Prop := w.heap[bs]? = some (.cells (senderCells blk bud pv en) 106 (0, 0))

theorem SenderAt.cellsAt {w : World} {bs : Nat} {blk bud : Int} {pv : Value} {en : Int} (h : SenderAt w bs blk bud pv en) :
    w.cell? ⟨bs, 0, none⟩ = some (.int .i32 0) ∧ w.cell? ⟨bs, 2, none⟩ = some (.int .i64 blk) ∧ w.cell? ⟨bs, 3, none⟩ = some (.int .i64 bud) ∧ w.cell? ⟨bs, 4, none⟩ = some pv ∧ w.cell? ⟨bs, 5, none⟩ = some (.int .i64 en) ∧
    (∀ j, w.frozen? ⟨bs, j, none⟩ = false) ∧ bs < w.heap.size :=
  ⟨by rw [cell_of_row _ _ _ _ _ _ h]; rfl, by rw [cell_of_row _ _ _ _ _ _ h]; rfl, by rw [cell_of_row _ _ _ _ _ _ h]; rfl, by rw [cell_of_row _ _ _ _ _ _ h]; rfl, by rw [cell_of_row _ _ _ _ _ _ h]; rfl,
   fun j => frozen_of_row _ _ _ _ _ h, lt_of_heap h⟩

theorem SenderAt.turn {S : List Nat} {w w' : World} {bs : Nat} {blk bud : Int} {pv : Value} {en : Int} (h : SenderAt w bs blk bud pv en) (ht : Turn S w w') (hn : bs ∉ S) : SenderAt w' bs blk bud pv en := ht.cells h hn

theorem cellNew {w : World} {a : Addr} {v : Value} (h : w.cell? a = some v) (o : Obj) : (w.alloc o).cell? a = some v :=
  (((Below.refl _ _).alloc (Nat.le_refl _) o).cell (World.block_lt_of_cell? w a h)).trans h
theorem frozenNew {w : World} {a : Addr} {b : Bool} (h : w.frozen? a = b) (hlt : a.block < w.heap.size) (o : Obj) : (w.alloc o).frozen? a = b :=
  (((Below.refl _ _).alloc (Nat.le_refl _) o).frozen hlt).trans h
theorem cellSame {w : World} {a : Addr} {u v : Value} (h : w.cell? a = some u) : (w.setCell a v).cell? a = some v := World.cell?_setCell_same w a v h

/-- The same under the lock. -/
def HeldAt (w : World) (bs : Nat) (blk bud : Int) (pv : Value) (en : Int) : Prop := w.heap[bs]? = some (.cells #[.int .i32 1, .int .u32 0, .int .i64 blk, .int .i64 bud, pv, .int .i64 en] 106 (0, 0))
theorem SenderAt.held {w : World} {bs : Nat} {blk bud : Int} {pv : Value} {en : Int} (h : SenderAt w bs blk bud pv en) : HeldAt (w.setCell ⟨bs, 0, none⟩ (.int .i32 1)) bs blk bud pv en :=
  heap_setCell_same _ _ _ _ _ _ h
theorem HeldAt.free {w : World} {bs : Nat} {blk bud : Int} {pv : Value} {en : Int} (h : HeldAt w bs blk bud pv en) : SenderAt (w.setCell ⟨bs, 0, none⟩ (.int .i32 0)) bs blk bud pv en :=
  heap_setCell_same _ _ _ _ _ _ h
theorem HeldAt.turn {S : List Nat} {w w' : World} {bs : Nat} {blk bud : Int} {pv : Value} {en : Int} (h : HeldAt w bs blk bud pv en) (ht : Turn S w w') (hn : bs ∉ S) : HeldAt w' bs blk bud pv en := ht.cells h hn
theorem HeldAt.alloc {w : World} {bs : Nat} {blk bud : Int} {pv : Value} {en : Int} (h : HeldAt w bs blk bud pv en) (o : Obj) : HeldAt (w.alloc o) bs blk bud pv en := h.turn (S := []) ((Turn.refl _ _).alloc _) (by simp)
theorem HeldAt.objects {w : World} {bs : Nat} {blk bud : Int} {pv : Value} {en : Int} (h : HeldAt w bs blk bud pv en) (v : Value) : HeldAt (w.setCell ⟨bs, 4, none⟩ v) bs blk bud v en := heap_setCell_same _ _ _ _ _ _ h
theorem HeldAt.ended {w : World} {bs : Nat} {blk bud : Int} {pv : Value} {en : Int} (h : HeldAt w bs blk bud pv en) (v : Int) : HeldAt (w.setCell ⟨bs, 5, none⟩ (.int .i64 v)) bs blk bud pv v := heap_setCell_same _ _ _ _ _ _ h
theorem HeldAt.cellsAt {w : World} {bs : Nat} {blk bud : Int} {pv : Value} {en : Int} (h : HeldAt w bs blk bud pv en) :
    w.cell? ⟨bs, 0, none⟩ = some (.int .i32 1) ∧ w.cell? ⟨bs, 2, none⟩ = some (.int .i64 blk) ∧ w.cell? ⟨bs, 3, none⟩ = some (.int .i64 bud) ∧ w.cell? ⟨bs, 4, none⟩ = some pv ∧ w.cell? ⟨bs, 5, none⟩ = some (.int .i64 en) ∧
    (∀ j, w.frozen? ⟨bs, j, none⟩ = false) ∧ bs < w.heap.size :=
  ⟨by rw [cell_of_row _ _ _ _ _ _ h]; rfl, by rw [cell_of_row _ _ _ _ _ _ h]; rfl, by rw [cell_of_row _ _ _ _ _ _ h]; rfl, by rw [cell_of_row _ _ _ _ _ _ h]; rfl, by rw [cell_of_row _ _ _ _ _ _ h]; rfl,
   fun j => frozen_of_row _ _ _ _ _ h, lt_of_heap h⟩

set_option maxHeartbeats 400000 in
theorem status_bad (bs : Nat) (blk bud : Int) (sl : Option Addr) (n cap : Nat) (en num : Int) (w : World) (hs : SenderAt w bs blk bud (.slice sl n cap) en) (hbad : num < 1 ∨ (n : Int) < num) :
    Calls Tryd.prog 22 #[.pointer (some ⟨bs, 0, none⟩), .int .i64 num] w fun e w' => e = .returned (.tuple #[.agg #[.int .i64 0, .int .i64 0], .int .i64 5]) ∧ Turn [bs] w w' ∧ SenderAt w' bs blk bud (.slice sl n cap) en := by
  obtain ⟨s0, s2, s3, s4, s5, sf, slt⟩ := hs.cellsAt
  have HS : Hid (SenderAt w bs blk bud (.slice sl n cap) en) := hs
  clear hs
  by_cases hlow : num < 1
  · have q1 : decide (num < 1) = true := by simpa using hlow
    go_enter_defers Tryd.func22, Tryd.ntmps22
    go_wp2_with fail
    refine (lock_free muLib ⟨bs, 0, none⟩ _ ?_ ?_).mono ?_
    · exact cellNew s0 _
    · exact frozenNew (sf _) slt _
    rintro e w1 ⟨rfl, rfl⟩
    go_wp2
    refine leaves_cons (f := 40) (args := #[.pointer (some ⟨bs, 0, none⟩)]) (by simp) (by simp [go_sem]) ?_
    refine (unlock_deferred muLib ⟨bs, 0, none⟩ .returning _ ?_ ?_).mono ?_
    · exact cellNew (cellSame s0) _
    · exact frozenNew (by simp [sf]) (by simpa using slt) _
    rintro e u' w'' ⟨rfl, rfl, rfl⟩
    refine ⟨.tuple #[.agg #[.int .i64 0, .int .i64 0], .int .i64 5], by simp [results, Tryd.results22, go_sem], rfl, ?_, ?_⟩
    · exact (((Turn.refl [bs] w).setCell (.inl (by simp)) _).alloc _).setCell (.inl (by simp)) _
    · exact (HS.out.held.alloc _).free
  · have q1 : decide (num < 1) = false := by simpa using hlow
    have q2 : decide ((n : Int) < num) = true := by simp; omega
    clear hbad
    go_enter_defers Tryd.func22, Tryd.ntmps22
    go_wp2_with fail
    refine (lock_free muLib ⟨bs, 0, none⟩ _ ?_ ?_).mono ?_
    · exact cellNew s0 _
    · exact frozenNew (sf _) slt _
    rintro e w1 ⟨rfl, rfl⟩
    go_wp2
    refine leaves_cons (f := 40) (args := #[.pointer (some ⟨bs, 0, none⟩)]) (by simp) (by simp [go_sem]) ?_
    refine (unlock_deferred muLib ⟨bs, 0, none⟩ .returning _ ?_ ?_).mono ?_
    · exact cellNew (cellSame s0) _
    · exact frozenNew (by simp [sf]) (by simpa using slt) _
    rintro e u' w'' ⟨rfl, rfl, rfl⟩
    refine ⟨.tuple #[.agg #[.int .i64 0, .int .i64 0], .int .i64 5], by simp [results, Tryd.results22, go_sem], rfl, ?_, ?_⟩
    · exact (((Turn.refl [bs] w).setCell (.inl (by simp)) _).alloc _).setCell (.inl (by simp)) _
    · exact (HS.out.held.alloc _).free

set_option maxHeartbeats 400000 in
theorem status_good (bs : Nat) (blk bud : Int) (sl : Option Addr) (n cap k : Nat) (en : Int) (l : List Thing) (o : Thing) (w : World) (hs : SenderAt w bs blk bud (.slice sl n cap) en) (h : Things w 110 sl n cap l) (hne : (Value.slice sl n cap).ownBlock ≠ some bs)
    (hn : n ≤ 500) (hk : k < n) (ho : l[k]? = some o) :
    Calls Tryd.prog 22 #[.pointer (some ⟨bs, 0, none⟩), .int .i64 ((k : Int) + 1)] w fun e w' => e = .returned (.tuple #[.agg #[.int .i64 o.st, .int .i64 o.sent], .int .i64 0]) ∧ Turn [bs] w w' ∧ SenderAt w' bs blk bud (.slice sl n cap) en := by
  obtain ⟨s0, s2, s3, s4, s5, sf, slt⟩ := hs.cellsAt
  obtain ⟨g, o', hsl, ho', c0, c1, c2, c3, hfz⟩ := h.at hk
  obtain rfl : o' = o := by rw [ho] at ho'; simpa using ho'.symm
  have glt : g < w.heap.size := World.block_lt_of_cell? w _ c0
  subst hsl
  have hgb : g ≠ bs := fun e => hne (by rw [e]; rfl)
  have hgb' : bs ≠ g := fun e => hgb e.symm
  have HS : Hid (SenderAt w bs blk bud (.slice (some ⟨g, 0, none⟩) n cap) en) := hs
  clear hs ho ho'
  have q1 : decide ((k : Int) + 1 < 1) = false := by simp; omega
  have q2 : decide ((n : Int) < (k : Int) + 1) = false := by simp; omega
  have hk0 : (0 : Int) ≤ (k : Int) := by omega
  have hk1 : (k : Int) < (n : Int) := by omega
  have hk2 : (k : Int) + 1 - 1 = (k : Int) := by omega
  go_enter_defers Tryd.func22, Tryd.ntmps22
  go_wp2_with fail
  refine (lock_free muLib ⟨bs, 0, none⟩ _ ?_ ?_).mono ?_
  · exact cellNew s0 _
  · exact frozenNew (sf _) slt _
  rintro e w1 ⟨rfl, rfl⟩
  go_wp2
  refine leaves_cons (f := 40) (args := #[.pointer (some ⟨bs, 0, none⟩)]) (by simp) (by simp [go_sem]) ?_
  refine (unlock_deferred muLib ⟨bs, 0, none⟩ .returning _ ?_ ?_).mono ?_
  · exact cellNew (cellSame s0) _
  · exact frozenNew (by simp [sf]) (by simpa using slt) _
  rintro e u' w'' ⟨rfl, rfl, rfl⟩
  refine ⟨.tuple #[.agg #[.int .i64 o'.st, .int .i64 o'.sent], .int .i64 0], by simp [results, Tryd.results22, go_sem], rfl, ?_, ?_⟩
  · exact (((Turn.refl [bs] w).setCell (.inl (by simp)) _).alloc _).setCell (.inl (by simp)) _
  · exact (HS.out.held.alloc _).free

set_option maxHeartbeats 400000 in
theorem end_any (bs : Nat) (blk bud : Int) (sl : Option Addr) (n cap k : Nat) (l : List Thing) (o : Thing) (st : Int) (w : World) (hs : HeldAt w bs blk bud (.slice sl n cap) k) (h : Things w 110 sl n cap l) (hne : (Value.slice sl n cap).ownBlock ≠ some bs)
    (hn : n ≤ 500) (hk : k < n) (ho : l[k]? = some o) :
    Calls Tryd.prog 43 #[.pointer (some ⟨bs, 0, none⟩), .int .i64 st] w fun e w' => e = .returned (.tuple #[]) ∧ Turn (bs :: (Value.slice sl n cap).ownBlock.toList) w w' ∧
      HeldAt w' bs blk bud (.slice sl n cap) ((k : Int) + 1) ∧ Things w' 110 sl n cap (l.set k ⟨.empty, 0, st, o.sent⟩) := by
  obtain ⟨s0, s2, s3, s4, s5, sf, slt⟩ := hs.cellsAt
  obtain ⟨g, o', hsl, ho', c0, c1, c2, c3, hfz⟩ := h.at hk
  obtain rfl : o' = o := by rw [ho] at ho'; simpa using ho'.symm
  have glt : g < w.heap.size := World.block_lt_of_cell? w _ c0
  subst hsl
  have hgb : g ≠ bs := fun e => hne (by rw [e]; rfl)
  have hgb' : bs ≠ g := fun e => hgb e.symm
  have HS : Hid (HeldAt w bs blk bud (.slice (some ⟨g, 0, none⟩) n cap) k) := hs
  have HO : Hid (l[k]? = some o') := ho
  clear hs ho ho'
  have hk0 : (0 : Int) ≤ (k : Int) := by omega
  have hk1 : (k : Int) < (n : Int) := by omega
  go_enter Tryd.func43, Tryd.ntmps43
  go_wp2
  go_quiet (fail)
  go_wp2
  have H0 := Things.set (o' := { o' with data := .empty }) (u := .string .empty) (h.drewN nq) rfl HO.out 0 (by omega) rfl
  have H1 := Things.set (o' := { o' with data := .empty, nonce := 0 }) (u := .int .u64 0) H0 rfl (set_get HO.out) 1 (by omega) rfl
  rw [List.set_set] at H1
  have H2 := Things.set (o' := ⟨.empty, 0, st, o'.sent⟩) (u := .int .i64 st) H1 rfl (set_get HO.out) 2 (by omega) rfl
  rw [List.set_set] at H2
  have H3 := Things.set (o' := ⟨.empty, 0, st, o'.sent⟩) (u := .int .i64 o'.sent) H2 rfl (set_get HO.out) 3 (by omega) rfl
  rw [List.set_set] at H3
  have T3 := ((((Turn.refl [g] (w.drewN nq)).setCell (p := ⟨g, k * 4 + 0, none⟩) (.inl (by simp)) (.string .empty)).setCell (p := ⟨g, k * 4 + 1, none⟩) (.inl (by simp)) (.int .u64 0)).setCell (p := ⟨g, k * 4 + 2, none⟩) (.inl (by simp)) (.int .i64 st)).setCell (p := ⟨g, k * 4 + 3, none⟩) (.inl (by simp)) (.int .i64 o'.sent)
  have A3 : HeldAt _ bs blk bud (.slice (some ⟨g, 0, none⟩) n cap) k := HeldAt.turn (w := w.drewN nq) HS.out T3 (by simpa using hgb')
  have TT : Turn (bs :: (Value.slice (some ⟨g, 0, none⟩) n cap).ownBlock.toList) w _ := (((Turn.refl _ w).drewN nq).trans T3 (fun x hx => .inl (by simp [Value.ownBlock] at hx ⊢; exact .inr hx))).setCell (p := ⟨bs, 5, none⟩) (.inl (by simp)) (.int .i64 ((k : Int) + 1))
  refine bodyPost_end (results_none rfl _ _ _) rfl ⟨rfl, TT, A3.ended _, ⟨?_, H3.len⟩⟩
  exact ((Turn.refl [bs] _).setCell (.inl (by simp)) _).owns H3.owns (fun x hx => by simp [Value.ownBlock] at hx; simp; omega)

end Go.Proofs.YtfbbidaoljfloaaDoor
