import Derived.Test.YtfbbidaoljfloaaDoorK3
namespace Go.Proofs.YtfbbidaoljfloaaDoor
open Go.RowKit Go.MuLone

/-- A receiver to which all frames of an object come. -/
structure ApV (V : RV) (data : ByteArray) (blk i : Nat) : Prop where
  blk : V.blk = blk
  st : (Prog V 1 data i ∧ V.ready = []) ∨ (V.dlv 1 = true ∧ V.ready = [(data, 1)])
theorem ApV.start (data : ByteArray) (blk : Nat) : ApV (RV.fresh blk) data blk 0 := ⟨rfl, .inl ⟨Prog.start rfl (by simp [RV.fresh]), rfl⟩⟩
theorem ApV.step {V : RV} {data : ByteArray} {blk i : Nat} {nonce st : Int} (h : ApV V data blk i) (hv : RVOk V) (hd : data.size ≤ 32 * blk) :
    ∃ V2, ApV V2 data blk (i + 1) ∧ (V.handle (bytesOf (frameOf 1 blk ⟨data, nonce, st, (i : Int)⟩)) = (V2, none) ∨ V.handle (bytesOf (frameOf 1 blk ⟨data, nonce, st, (i : Int)⟩)) = (V2, some (doneB 1 blk))) := by
  obtain ⟨hb, h⟩ := h
  subst hb
  have hK1 := blocksOf_pos data.size V.blk
  have htx : bytesOf (frameOf 1 V.blk ⟨data, nonce, st, (i : Int)⟩) = fText 1 V.blk (Dz.rowOf nonce (blocksOf data.size V.blk) i) data := fText_frame 1 V.blk ⟨data, nonce, st, (i : Int)⟩
  rw [htx]
  rcases h with ⟨hp, hr⟩ | ⟨hdl, hr⟩
  · obtain ⟨V2, hs, hh⟩ := frame_step (row := Dz.rowOf nonce (blocksOf data.size V.blk) i) hv hp.track (by omega) (by omega) hd (rowOf_ne _ _ _ hK1) (Dz.rowOf_lt _ _ _ hK1)
    rw [hh]
    by_cases hf : V2.srk = V2.bks
    · rw [if_pos hf]
      refine ⟨V2.deliver, ⟨hs.blk, .inr ⟨?_, by rw [hs.data hf, hr]; rfl⟩⟩, .inr rfl⟩
      show (if 1 = V2.num then true else V2.dlv 1) = true
      rw [if_pos hs.snum.symm]
    · rw [if_neg hf]
      exact ⟨V2, ⟨hs.blk, .inl ⟨hp.next hv hd hs hf, by rw [hs.ready]; exact hr⟩⟩, .inl rfl⟩
  · rw [frame_late hv hdl (by omega) (by omega) hd (rowOf_ne _ _ _ hK1) (Dz.rowOf_lt _ _ _ hK1)]
    exact ⟨V, ⟨rfl, .inr ⟨hdl, hr⟩⟩, .inr rfl⟩
theorem ApV.last {V : RV} {data : ByteArray} {blk : Nat} (h : ApV V data blk 128) (hv : RVOk V) (hd : data.size ≤ 32 * blk) : V.ready = [(data, 1)] := by
  obtain ⟨hb, h⟩ := h
  subst hb
  rcases h with ⟨hp, _⟩ | ⟨_, hr⟩
  · have := hp.lt hv hd
    have := blocksOf_le data.size V.blk hv.b1 hd
    omega
  · exact hr

theorem Ctx.away {Z : List Nat} {w wr w' : World} {bp bs br : Nat} {F : List Nat} {S : SV} {V : RV} (h : Ctx w wr bp bs br F S V) (ht : Turn Z wr w') (hz : ∀ g ∈ bp :: F, g ∉ Z) (hZ : ∀ x ∈ Z, w.heap.size ≤ x) : Ctx w w' bp bs br F S V :=
  ⟨h.net.turn ht (fun g hg => hz g (List.mem_cons_of_mem _ hg)) (fun hm => by have := hZ 0 hm; have := h.pos; omega), h.pair.turn ht (hz bp (List.mem_cons_self ..)), h.bpF, h.bel.trans (ht.toBelow h.bel.size hZ), h.new, h.pos⟩

/-- Three networks side by side. -/
structure Ap3 (w wr : World) (p1 p2 p3 : Nat) (PF : List Nat) (PS : SV) (PV : RV) (q1 q2 q3 : Nat) (QF : List Nat) (QS : SV) (QV : RV) (r1 r2 r3 : Nat) (RF : List Nat) (RS : SV) (RV' : RV) : Prop where
  p : Ctx w wr p1 p2 p3 PF PS PV
  q : Ctx w wr q1 q2 q3 QF QS QV
  r : Ctx w wr r1 r2 r3 RF RS RV'
  pq : ∀ g ∈ p1 :: PF, g ∉ q1 :: QF
  pr : ∀ g ∈ p1 :: PF, g ∉ r1 :: RF
  qr : ∀ g ∈ q1 :: QF, g ∉ r1 :: RF
  pn : w.heap.size ≤ p1
  qn : w.heap.size ≤ q1
  rn : w.heap.size ≤ r1
theorem Ctx.lts {w wr : World} {bp bs br : Nat} {F : List Nat} {S : SV} {V : RV} (h : Ctx w wr bp bs br F S V) : ∀ g ∈ bp :: F, g < wr.heap.size := fun g hg => by
  rcases List.mem_cons.1 hg with rfl | q
  · exact lt_of_heap h.pair.obj
  · exact h.net.lt g q
theorem apart_aft {F F' H : List Nat} {b c n : Nat} (h0 : ∀ g ∈ b :: F, g ∉ c :: H) (hf : ∀ g ∈ F', g ∈ F ∨ n ≤ g) (hl : ∀ g ∈ c :: H, g < n) : ∀ g ∈ b :: F', g ∉ c :: H := fun g hg hm => by
  rcases List.mem_cons.1 hg with rfl | q
  · exact h0 g (List.mem_cons_self ..) hm
  · rcases hf g q with q | q
    · exact h0 g (List.mem_cons_of_mem _ q) hm
    · have := hl g hm; omega

section
variable {w wr w' : World} {p1 p2 p3 : Nat} {PF F' : List Nat} {PS S' : SV} {PV V' : RV} {q1 q2 q3 : Nat} {QF : List Nat} {QS : SV} {QV : RV} {r1 r2 r3 : Nat} {RF : List Nat} {RS : SV} {RV' : RV}
theorem Ap3.actP (h : Ap3 w wr p1 p2 p3 PF PS PV q1 q2 q3 QF QS QV r1 r2 r3 RF RS RV') (ha : NAft wr w' p2 p3 PF F' S' V') : Ap3 w w' p1 p2 p3 F' S' V' q1 q2 q3 QF QS QV r1 r2 r3 RF RS RV' :=
  ⟨h.p.aft ha, h.q.away ha.turn (fun g hg hm => h.pq g (List.mem_cons_of_mem _ hm) hg) h.p.new, h.r.away ha.turn (fun g hg hm => h.pr g (List.mem_cons_of_mem _ hm) hg) h.p.new, apart_aft h.pq ha.foot h.q.lts, apart_aft h.pr ha.foot h.r.lts, h.qr, h.pn, h.qn, h.rn⟩
theorem Ap3.rot (h : Ap3 w wr p1 p2 p3 PF PS PV q1 q2 q3 QF QS QV r1 r2 r3 RF RS RV') : Ap3 w wr q1 q2 q3 QF QS QV r1 r2 r3 RF RS RV' p1 p2 p3 PF PS PV :=
  ⟨h.q, h.r, h.p, h.qr, fun g hg hm => h.pq g hm hg, fun g hg hm => h.pr g hm hg, h.qn, h.rn, h.pn⟩
theorem Ap3.actQ (h : Ap3 w wr p1 p2 p3 PF PS PV q1 q2 q3 QF QS QV r1 r2 r3 RF RS RV') (ha : NAft wr w' q2 q3 QF F' S' V') : Ap3 w w' p1 p2 p3 PF PS PV q1 q2 q3 F' S' V' r1 r2 r3 RF RS RV' := (h.rot.actP ha).rot.rot
theorem Ap3.actR (h : Ap3 w wr p1 p2 p3 PF PS PV q1 q2 q3 QF QS QV r1 r2 r3 RF RS RV') (ha : NAft wr w' r2 r3 RF F' S' V') : Ap3 w w' p1 p2 p3 PF PS PV q1 q2 q3 QF QS QV r1 r2 r3 F' S' V' := (h.rot.rot.actP ha).rot
theorem Ap3.turn (h : Ap3 w wr p1 p2 p3 PF PS PV q1 q2 q3 QF QS QV r1 r2 r3 RF RS RV') (ht : Turn [] wr w') : Ap3 w w' p1 p2 p3 PF PS PV q1 q2 q3 QF QS QV r1 r2 r3 RF RS RV' :=
  ⟨h.p.turn ht, h.q.turn ht, h.r.turn ht, h.pq, h.pr, h.qr, h.pn, h.qn, h.rn⟩

/-- A block of the law's own, beside the three. -/
structure FB (w : World) (PF QF RF : List Nat) (g : Nat) (o : Obj) : Prop where
  at_ : w.heap[g]? = some o
  np : g ∉ PF
  nq : g ∉ QF
  nr : g ∉ RF
theorem FB.one {PF QF RF : List Nat} {g : Nat} {v : Value} {t : TypeId} {fr : Nat × Nat} (h : FB w PF QF RF g (.cells #[v] t fr)) : w.cell? ⟨g, 0, none⟩ = some v := by rw [cell_of_row _ _ _ _ _ _ h.at_]; rfl
theorem FB.actP {QF RF : List Nat} {g : Nat} {o : Obj} (h : FB wr PF QF RF g o) (ha : NAft wr w' p2 p3 PF F' S' V') : FB w' F' QF RF g o :=
  ⟨(ha.turn.block g (lt_of_heap h.at_) h.np).trans h.at_, fun hm => by
    rcases ha.foot g hm with q | q
    · exact h.np q
    · have := lt_of_heap h.at_; omega, h.nq, h.nr⟩
theorem FB.rot {QF RF : List Nat} {g : Nat} {o : Obj} (h : FB wr PF QF RF g o) : FB wr QF RF PF g o := ⟨h.at_, h.nq, h.nr, h.np⟩
theorem FB.actQ {QF RF : List Nat} {g : Nat} {o : Obj} (h : FB wr PF QF RF g o) (ha : NAft wr w' q2 q3 QF F' S' V') : FB w' PF F' RF g o := (h.rot.actP ha).rot.rot
theorem FB.actR {QF RF : List Nat} {g : Nat} {o : Obj} (h : FB wr PF QF RF g o) (ha : NAft wr w' r2 r3 RF F' S' V') : FB w' PF QF F' g o := (h.rot.rot.actP ha).rot
theorem FB.turn {QF RF : List Nat} {g : Nat} {o : Obj} (h : FB wr PF QF RF g o) (ht : Turn [] wr w') : FB w' PF QF RF g o := ⟨(ht.block g (lt_of_heap h.at_) (by simp)).trans h.at_, h.np, h.nq, h.nr⟩
theorem Ap3.new {g : Nat} {o : Obj} (h : Ap3 w wr p1 p2 p3 PF PS PV q1 q2 q3 QF QS QV r1 r2 r3 RF RS RV') (hn : w'.heap[g]? = some o) (hg : wr.heap.size ≤ g) (hF : g ∉ F') : FB w' F' QF RF g o :=
  ⟨hn, hF, fun hm => by have := h.q.lts g (List.mem_cons_of_mem _ hm); omega, fun hm => by have := h.r.lts g (List.mem_cons_of_mem _ hm); omega⟩
end

end Go.Proofs.YtfbbidaoljfloaaDoor
