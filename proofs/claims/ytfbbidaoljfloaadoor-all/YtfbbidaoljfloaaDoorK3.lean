import Derived.Test.YtfbbidaoljfloaaDoorK2
namespace Go.Proofs.YtfbbidaoljfloaaDoor
open Go.RowKit Go.MuLone

/-- A block of the law's own, beside the network. -/
structure Blk (w : World) (F : List Nat) (g : Nat) (o : Obj) : Prop where
  at_ : w.heap[g]? = some o
  out : g ∉ F

theorem Blk.lt {w : World} {F : List Nat} {g : Nat} {o : Obj} (h : Blk w F g o) : g < w.heap.size := lt_of_heap h.at_
theorem Blk.aft {w w' : World} {bs br : Nat} {F F' : List Nat} {S : SV} {V : RV} {g : Nat} {o : Obj} (h : Blk w F g o) (ha : NAft w w' bs br F F' S V) : Blk w' F' g o :=
  ⟨(ha.turn.block g h.lt h.out).trans h.at_, fun hm => by
    rcases ha.foot g hm with q | q
    · exact h.out q
    · have := h.lt; omega⟩
theorem Blk.turn {Z : List Nat} {w w' : World} {F : List Nat} {g : Nat} {o : Obj} (h : Blk w F g o) (ht : Turn Z w w') (hz : g ∉ Z) : Blk w' F g o :=
  ⟨(ht.block g h.lt hz).trans h.at_, h.out⟩
theorem Blk.cell {w : World} {F : List Nat} {g : Nat} {cs : Array Value} {t : TypeId} {fr : Nat × Nat} (h : Blk w F g (.cells cs t fr)) (j : Nat) : w.cell? ⟨g, j, none⟩ = cs[j]? := by rw [cell_of_row _ _ _ _ _ _ h.at_]
theorem Blk.one {w : World} {F : List Nat} {g : Nat} {v : Value} {t : TypeId} {fr : Nat × Nat} (h : Blk w F g (.cells #[v] t fr)) : w.cell? ⟨g, 0, none⟩ = some v := by rw [h.cell]; rfl
theorem Blk.three {w : World} {F : List Nat} {g : Nat} {v0 v1 v2 : Value} {t : TypeId} {fr : Nat × Nat} (h : Blk w F g (.cells #[v0, v1, v2] t fr)) : w.cell? ⟨g, 0, none⟩ = some v0 ∧ w.cell? ⟨g, 1, none⟩ = some v1 ∧ w.cell? ⟨g, 2, none⟩ = some v2 := ⟨by rw [h.cell]; rfl, by rw [h.cell]; rfl, by rw [h.cell]; rfl⟩
theorem Blk.two {w : World} {F : List Nat} {g : Nat} {v0 v1 : Value} {t : TypeId} {fr : Nat × Nat} (h : Blk w F g (.cells #[v0, v1] t fr)) : w.cell? ⟨g, 0, none⟩ = some v0 ∧ w.cell? ⟨g, 1, none⟩ = some v1 := ⟨by rw [h.cell]; rfl, by rw [h.cell]; rfl⟩

theorem Ctx.blk {w wr : World} {bp bs br : Nat} {F : List Nat} {S : SV} {V : RV} (h : Ctx w wr bp bs br F S V) : Blk wr F bp (.cells #[.pointer (some ⟨bs, 0, none⟩), .pointer (some ⟨br, 0, none⟩)] 36) := ⟨h.pair.obj, h.bpF⟩
theorem Ctx.alloc_new {w wr : World} {bp bs br : Nat} {F : List Nat} {S : SV} {V : RV} (h : Ctx w wr bp bs br F S V) (o : Obj) : Ctx w (wr.alloc o) bp bs br F S V ∧ Blk (wr.alloc o) F wr.heap.size o :=
  ⟨h.turn ((Turn.refl [] wr).alloc _), heap_alloc_new wr o, fun hm => by have := h.net.lt _ hm; omega⟩

/-- After a drawn region's call. -/
theorem NAft.pre {w w1 w' : World} {bs br : Nat} {F F' : List Nat} {S : SV} {V : RV} (ha : NAft w1 w' bs br F F' S V) (ht : Turn [] w w1) : NAft w w' bs br F F' S V :=
  ⟨ha.net, (Turn.trans (S := F) ⟨ht.os, ht.tape, ht.output, ht.size, fun k hk _ => ht.block k hk (by simp)⟩ ha.turn (fun x hx => .inl hx)), fun g hg => by
    rcases ha.foot g hg with q | q
    · exact .inl q
    · exact .inr (Nat.le_trans ht.size q)⟩

theorem Net.drew {w : World} {bs br : Nat} {F : List Nat} {S : SV} {V : RV} (h : Net w bs br F S V) : Net w.drew bs br F S V := h.turn ((Turn.refl [] w).drew) (by simp) (by simp)
theorem Net.turn0 {w w' : World} {bs br : Nat} {F : List Nat} {S : SV} {V : RV} (h : Net w bs br F S V) (ht : Turn [] w w') : Net w' bs br F S V := h.turn ht (by simp) (by simp)
theorem turn_drew_below {w w' : World} (h : Below w.drew.heap.size w.drew w') : Turn [] w w' :=
  ((Turn.refl [] w).drew).trans (Turn.below (S := []) h (Nat.le_refl _)) (fun _ hx => by cases hx)

end Go.Proofs.YtfbbidaoljfloaaDoor
