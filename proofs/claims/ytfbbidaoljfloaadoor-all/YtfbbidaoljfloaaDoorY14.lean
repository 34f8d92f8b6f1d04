import Derived.Test.YtfbbidaoljfloaaDoorY13
namespace Go.Proofs.YtfbbidaoljfloaaDoor
open Go.RowKit Go.MuLone

set_option maxRecDepth 100000 in
set_option maxHeartbeats 800000 in
theorem rank_any (br : Nat) (R : RC) (V : RV) (w : World) (h : Recv w br R V) (hlk : R.lk = 0) :
    Calls Tryd.prog 29 #[.pointer (some ⟨br, 0, none⟩)] w fun e w' => e = .returned (.agg #[.int .i64 V.num, .int .i64 V.rnk, .int .i64 V.bks]) ∧ ∃ R', Aft w w' br R R' V := by
  have s0 := h.held.at_.c0
  rw [hlk] at s0
  have sf := h.held.at_.frozen 0
  have hL := h.setLk 1
  have c3 := h.held.at_.c3
  have c4 := h.held.at_.c4
  have c5 := h.held.at_.c5
  rw [h.enum] at c3
  rw [h.ernk] at c4
  rw [h.ebks] at c5
  have hlt := h.held.at_.lt
  have HL : Hid _ := hL
  have HK : Hid (R.lk = 0) := hlk
  clear hL h hlk
  go_enter_defers Tryd.func29, Tryd.ntmps29
  go_wp2_with fail
  refine (lock_free muLib ⟨br, 0, none⟩ _ (cellNew s0 _) (frozenNew sf hlt _)).mono ?_
  rintro e w1 ⟨rfl, rfl⟩
  go_wp2_with fail
  have hA3 := Aft.below HL.out ((Below.refl _ _).alloc (Nat.le_refl _) (.cells #[.int .i64 V.num, .int .i64 V.rnk, .int .i64 V.bks] 63))
  refine leaves_cons (f := 40) (args := #[.pointer (some ⟨br, 0, none⟩)]) (by simp) (by simp [go_sem]) ?_
  refine (unlock_deferred muLib ⟨br, 0, none⟩ .returning _ hA3.recv.held.at_.c0 (hA3.recv.held.at_.frozen 0)).mono ?_
  rintro e u' w'' ⟨rfl, rfl, rfl⟩
  exact ⟨.agg #[.int .i64 V.num, .int .i64 V.rnk, .int .i64 V.bks], by simp [results, Tryd.results29, go_sem], rfl, _, Aft.unlock HK.out hA3⟩

theorem run_clear_parcel (w : World) (ty : TypeId) (b o c : Nat) (hc : ∀ j, j < 2 → (w.cell? ⟨b, o + j, none⟩).isSome = true) (hf : ∀ j, j < 2 → w.frozen? ⟨b, o + j, none⟩ = false) :
    (Builtin.clear_ #[121] ty #[.slice (some ⟨b, o, none⟩) 1 c]).run Tryd.prog w = .ok (.tuple #[]) (w.setCells b o [.string .empty, .int .i64 0]) := by
  have hst := run_storeCells_cells (P := Tryd.prog) b o [.string .empty, .int .i64 0] 0 w (by simpa using hc) (by simpa using hf) (by intro v hv'; simp at hv'; rcases hv' with rfl | rfl <;> rfl)
  simp only [Nat.add_zero] at hst
  have hzv : ∀ w, (zeroValue 132).run Tryd.prog w = .ok (.agg #[.string .empty, .int .i64 0]) w := fun w => by kernel_rfl
  have hzc : (Builtin.zeroCells (Value.cells (.agg #[.string .empty, .int .i64 0])) 1).toList = [.string .empty, .int .i64 0] := by kernel_rfl
  simp [Builtin.clear_, run_underlying Tryd.underlying121, hzv, hzc, hst]

theorem step_append_run {P : Program} {w : World} {ops : Array Oper} {o : Oper} {a : Act} {K : Act → World → Prop} {Q : Exit → Act → World → Prop} {E : Prop} (hgd : o.guard = none) (s x : Operand) (t : TypeId)
    (ho : o.op = .call { callee := .builtin .append, args := #[s, x], argTypes := #[t, t] }) (v0 v1 v : Value) (w' : World) (hs : a.eval s = v0) (hx : a.eval x = v1) (hrun : ∀ ty, (Builtin.append_ #[t, t] ty #[v0, v1]).run P w = .ok v w') (h : K (a.put o.dst v) w') :
    if Region.wanted o (yielded ops a.tmps) = true then Oper.wp P o a w K Q else E := by
  have hw : Region.wanted o (yielded ops a.tmps) = true := by simp [Region.wanted, hgd]
  rw [if_pos hw]
  unfold Oper.wp execOp
  simp only [ho, resolve, invoke, builtin, Sem.run_bind, Sem.run_pure, Result.andThen_ok, List.map_toArray, List.map_cons, List.map_nil, hs, hx, hrun]
  exact h

set_option maxRecDepth 100000 in
set_option maxHeartbeats 1600000 in
theorem delete_any (g n cap : Nat) (l : Parcels) (p : ByteArray × Nat) (w : World) (ho : w.ownsRow 0 132 2 (.slice (some ⟨g, 0, none⟩) (n + 1) cap) (n + 1) (parcelCells (p :: l))) (hl : l.length = n) (hn : n ≤ 1000) :
    Calls Tryd.prog 50 #[.slice (some ⟨g, 0, none⟩) (n + 1) cap, .int .i64 0, .int .i64 1] w fun e w' => e = .returned (.slice (some ⟨g, 0, none⟩) n cap) ∧ Turn [g] w w' ∧ w'.ownsRow 0 132 2 (.slice (some ⟨g, 0, none⟩) n cap) n (parcelCells l) := by
  obtain ⟨i0, hi, hz0, hz1, hz2⟩ := info_parts infoParcel
  obtain ⟨cur, hg, hc1, hc2, hc3, hc4⟩ : ∃ cur, w.heap[g]? = some (.cells cur 132 (0, 0)) ∧ n + 1 ≤ cap ∧ cap ≤ maxLen ∧ cur.size = cap * 2 ∧ cur.toList.take ((n + 1) * 2) = parcelCells (p :: l) := by
    rcases ho.2 with ⟨q, _⟩ | ⟨g', cap', cur, q1, _, q2, q3, q4, q5, q6⟩
    · cases q
    · injection q1 with a1 a2 a3
      obtain rfl : g = g' := by simpa using a1
      subst a3
      exact ⟨cur, q2, q3, q4, q5, q6⟩
  have hll : (parcelCells l).length = n * 2 := by rw [parcelCells_len, hl]
  have hcell : ∀ j u, (parcelCells l)[j]? = some u → w.cell? ⟨g, 2 + j, none⟩ = some u := fun j u hu => by
    have h1 : (parcelCells (p :: l))[2 + j]? = some u := by
      rw [show parcelCells (p :: l) = [.string p.1, .int .i64 (p.2 : Nat)] ++ parcelCells l from rfl, List.getElem?_append_right (by simp)]
      simpa using hu
    rw [← hc4, List.getElem?_take_of_lt (by
      have := (List.getElem?_eq_some_iff.1 hu).1
      omega)] at h1
    rw [cell_of_row _ _ _ _ _ _ hg]
    simpa using h1
  have hone : ∀ u ∈ parcelCells l, u.oneCell' = true := fun u hu => by
    unfold parcelCells at hu
    rw [List.mem_flatMap] at hu
    obtain ⟨q, _, hq⟩ := hu
    simp at hq
    rcases hq with rfl | rfl <;> rfl
  obtain ⟨ad, had, hnews⟩ : ∃ ad : Addr, (if cap = 1 then some (⟨g, 0, none⟩ : Addr) else some ⟨g, 2, none⟩) = some ad ∧ ∀ j u, (parcelCells l)[j]? = some u → w.cell? (ad.add j) = some u := by
    by_cases hcap : cap = 1
    · refine ⟨⟨g, 0, none⟩, by rw [if_pos hcap], fun j u hu => ?_⟩
      have : j < n * 2 := by
        have := (List.getElem?_eq_some_iff.1 hu).1
        omega
      omega
    · refine ⟨⟨g, 2, none⟩, by rw [if_neg hcap], fun j u hu => ?_⟩
      rw [Addr.add_lit]
      exact hcell j u hu
  unfold maxLen at hc2
  have hrun : ∀ ty, (Builtin.append_ #[121, 121] ty #[.slice (some ⟨g, 0, none⟩) 0 cap, .slice (some ad) n (cap - 1)]).run Tryd.prog w.drew = .ok (.slice (some ⟨g, 0, none⟩) n cap) (w.drew.setCells g 0 (parcelCells l)) := fun ty => by
    have := run_append_room_cells (P := Tryd.prog) w.drew 121 ty 132 i0 Tryd.underlying121 hi g 0 0 cap ad n (cap - 1) (parcelCells l) (by rw [hll, hz1]) hnews hone (by omega)
      (fun j hj => by
        have : j < cur.size := by omega
        simp only [Nat.zero_mul, Nat.zero_add]
        rw [show w.drew.cell? ⟨g, j, none⟩ = w.cell? ⟨g, j, none⟩ from rfl, cell_of_row _ _ _ _ _ _ hg]
        simp [this]) (fun j _ => frozen_of_row _ _ _ _ _ hg)
    simpa using this
  obtain ⟨arr, ha1, ha2, ha3⟩ := setCells_row (parcelCells l) 0 w.drew cur hg
  have hclr : ∀ ty, (Builtin.clear_ #[121] ty #[.slice (some ⟨g, n * 2, none⟩) 1 (cap - n)]).run Tryd.prog (w.drew.setCells g 0 (parcelCells l)) = .ok (.tuple #[]) ((w.drew.setCells g 0 (parcelCells l)).setCells g (n * 2) [.string .empty, .int .i64 0]) := fun ty =>
    run_clear_parcel _ ty g (n * 2) (cap - n) (fun j hj => by
      rw [cell_of_row _ _ _ _ _ _ ha1]
      have : n * 2 + j < arr.size := by omega
      simp [this]) (fun j _ => frozen_of_row _ _ _ _ _ ha1)
  obtain ⟨arr2, hb1, hb2, hb3⟩ := setCells_row [.string .empty, .int .i64 0] (n * 2) _ arr ha1
  have HFin : Hid (((w.drew.setCells g 0 (parcelCells l)).setCells g (n * 2) [.string .empty, .int .i64 0]).ownsRow 0 132 2 (.slice (some ⟨g, 0, none⟩) n cap) n (parcelCells l)) := by
    refine ⟨hll, .inr ⟨g, cap, arr2, rfl, Nat.zero_le _, hb1, by omega, by unfold maxLen; omega, by omega, ?_⟩⟩
    apply List.ext_getElem?
    intro i
    by_cases hin : i < n * 2
    · have hc0 : i < cur.size := by omega
      have hia : i < arr.size := by omega
      rw [List.getElem?_take_of_lt hin]
      have e1 := hb3 i hia
      rw [if_neg (by omega), ha3 i hc0, if_pos (by omega)] at e1
      simpa using e1
    · rw [List.getElem?_eq_none (by simp; omega), List.getElem?_eq_none (by omega)]
  have b1 : (0 : Int) ≤ (n : Int) := by omega
  have b2 : (1 : Int) ≤ (n : Int) + 1 := by omega
  have b3 : (n : Int) + 1 ≤ (cap : Int) := by omega
  have b4 : (1 : Int) ≤ (cap : Int) := by omega
  have b5 : (n : Int) ≤ (cap : Int) := by omega
  have b6 : ¬ cap = n := by omega
  have b7 : ¬ n + 1 = n := by omega
  have HG : Hid _ := hg
  clear hg ho hc3 hc4 hcell hone hnews hi hz0 hz1 hz2 ha1 ha2 ha3 hb1 hb2 hb3
  go_enter Tryd.func50, Tryd.ntmps50
  go_wp2_with fail
  refine wp_region_noPanic ?_
  go_region_law (first
    | (refine step_append_run (by rfl) _ _ 121 (by rfl) (.slice (some ⟨g, 0, none⟩) 0 cap) (.slice (some ad) n (cap - 1)) _ _ (by rfl) (by rfl) hrun ?_))
  all_goals
    refine NoPanic.normal ?_
    go_wp2_with fail
    go_ret
    exact ⟨rfl, Turn.setCells (by simp) _ _ (Turn.setCells (by simp) _ _ ((Turn.refl [g] w).drew)), HFin.out⟩

set_option maxRecDepth 100000 in
set_option maxHeartbeats 800000 in
theorem take_none (br : Nat) (R : RC) (V : RV) (w : World) (h : Recv w br R V) (hlk : R.lk = 0) (hr : V.ready = []) :
    Calls Tryd.prog 24 #[.pointer (some ⟨br, 0, none⟩)] w fun e w' => e = .returned (.tuple #[.string .empty, .int .i64 0, .int .i64 5]) ∧ ∃ R', Aft w w' br R R' V := by
  have s0 := h.held.at_.c0
  rw [hlk] at s0
  have sf := h.held.at_.frozen 0
  have hL := h.setLk 1
  have c5 := h.held.at_.c573
  obtain ⟨sl, cap, hsl⟩ : ∃ sl cap, R.rdy = .slice sl 0 cap := by
    have ho := h.owns
    rw [hr] at ho
    rcases ho.2 with ⟨q, _⟩ | ⟨g', cap', cur, q1, _⟩
    · exact ⟨none, 0, q⟩
    · exact ⟨_, _, q1⟩
  rw [hsl] at c5
  have hlt := h.held.at_.lt
  have HL : Hid _ := hL
  have HK : Hid (R.lk = 0) := hlk
  clear hL h hlk
  go_enter_defers Tryd.func24, Tryd.ntmps24
  go_wp2_with fail
  refine (lock_free muLib ⟨br, 0, none⟩ _ s0 sf).mono ?_
  rintro e w1 ⟨rfl, rfl⟩
  go_wp2_with fail
  have hA3 := Aft.refl HL.out
  refine leaves_cons (f := 40) (args := #[.pointer (some ⟨br, 0, none⟩)]) (by simp) (by simp [go_sem]) ?_
  refine (unlock_deferred muLib ⟨br, 0, none⟩ .returning _ hA3.recv.held.at_.c0 (hA3.recv.held.at_.frozen 0)).mono ?_
  rintro e u' w'' ⟨rfl, rfl, rfl⟩
  exact ⟨.tuple #[.string .empty, .int .i64 0, .int .i64 5], by simp [results, Tryd.results24, go_sem]; rfl, rfl, _, Aft.unlock HK.out hA3⟩

theorem Recv.taken {w w' : World} {br g n cap : Nat} {R : RC} {V : RV} {l : Parcels} (h : Recv w br R V) (hr : R.rdy.ownBlock = some g) (ht : Turn [g] w w') (ho : w'.ownsRow 0 132 2 (.slice (some ⟨g, 0, none⟩) n cap) n (parcelCells l)) (hl : l.length = n) :
    Aft w (w'.setCell ⟨br, 573, none⟩ (.slice (some ⟨g, 0, none⟩) n cap)) br R { R with rdy := .slice (some ⟨g, 0, none⟩) n cap } { V with ready := l } := by
  have hgb : g ≠ br := fun e => h.rn1 (by rw [hr, e])
  have hgn : ∀ x ∈ R.blocks, x ≠ g := fun x hx e => h.rn2 x hx (by rw [hr, e])
  have hh : Held w' br R V.set := h.held.turn ht (by simpa using fun e => hgb e.symm) (fun x hx => by simpa using hgn x hx)
  have hT : Turn [br] w' (w'.setCell ⟨br, 573, none⟩ (.slice (some ⟨g, 0, none⟩) n cap)) := (Turn.refl [br] w').setCell (.inl (by simp)) _
  have hlt := h.held.at_.lt
  refine ⟨⟨⟨hh.at_.setRdy _, hh.row, fun j hj => ?_, hh.apart⟩, h.eblk, h.enum, h.ernk, h.ebks, h.elen, h.esrk, h.edlv, ?_, ?_, ?_⟩, rfl, ?_, ?_⟩
  · rcases hh.sl j hj with q | ⟨q1, g', c, q2, q3, q4⟩
    · exact .inl q
    · exact .inr ⟨q1, g', c, q2, q3.turn hT (by simpa using q4), q4⟩
  · rw [show ({ V with ready := l } : RV).ready.length = n from hl]
    exact hT.owns ho (fun k hk => by simp [Value.ownBlock] at hk; simp; omega)
  · intro e
    simp [Value.ownBlock] at e
    exact hgb e
  · intro x hx e
    simp [Value.ownBlock] at e
    exact hgn x hx e.symm
  · refine (ht.mono (fun x hx => ?_)).setCell (.inl (by simp [RC.foot])) _
    simp at hx
    subst hx
    simp [RC.foot, hr]
  · intro x hx
    left
    simp only [RC.foot, List.mem_cons, List.mem_append] at hx ⊢
    rcases hx with q | q | q
    · exact .inl q
    · exact .inr (.inl q)
    · simp [Value.ownBlock] at q
      subst q
      right; right
      simp [hr]

set_option maxRecDepth 100000 in
set_option maxHeartbeats 800000 in
theorem take_some (br : Nat) (R : RC) (V : RV) (p : ByteArray × Nat) (l : Parcels) (w : World) (h : Recv w br R V) (hlk : R.lk = 0) (hv : RVOk V) (hr : V.ready = p :: l) :
    Calls Tryd.prog 24 #[.pointer (some ⟨br, 0, none⟩)] w fun e w' => e = .returned (.tuple #[.string p.1, .int .i64 p.2, .int .i64 0]) ∧ ∃ R', Aft w w' br R R' { V with ready := l } := by
  have s0 := h.held.at_.c0
  rw [hlk] at s0
  have sf := h.held.at_.frozen 0
  have hL := h.setLk 1
  have c5 := hL.held.at_.c573
  have cf := hL.held.at_.frozen 573
  have hlt := h.held.at_.lt
  have hnl : l.length ≤ 1000 := by
    have h1 := hv.ready
    have h2 := cntD_le V.dlv
    rw [hr] at h1
    simp at h1
    omega
  have hoL := hL.owns
  rw [hr] at hoL
  obtain ⟨g, cap, hsl, _, hgl⟩ := hoL.form (by simp)
  have hsl' : R.rdy = .slice (some ⟨g, 0, none⟩) (l.length + 1) cap := hsl
  rw [show ({ R with lk := 1 } : RC).rdy = .slice (some ⟨g, 0, none⟩) (l.length + 1) cap from hsl] at hoL c5
  have hgb : g ≠ br := fun e => h.rn1 (by rw [hsl', e]; rfl)
  have p0 : (w.setCell ⟨br, 0, none⟩ (.int .i32 1)).cell? ⟨g, 0, none⟩ = some (.string p.1) := owns_cell hoL rfl (by rfl)
  have p1 : (w.setCell ⟨br, 0, none⟩ (.int .i32 1)).cell? ⟨g, 1, none⟩ = some (.int .i64 (p.2 : Nat)) := owns_cell hoL rfl (by rfl)
  have q0 : ((l.length : Int) + 1 == 0) = false := by rw [beq_eq_false_iff_ne]; omega
  have z0 : (0 : Int) < (l.length : Int) + 1 := by omega
  have HL : Hid _ := hL
  have HO : Hid ((w.setCell ⟨br, 0, none⟩ (.int .i32 1)).ownsRow 0 132 2 (.slice (some ⟨g, 0, none⟩) (l.length + 1) cap) (l.length + 1) (parcelCells (p :: l))) := hoL
  have HK : Hid (R.lk = 0) := hlk
  have HS : Hid (R.rdy.ownBlock = some g) := by rw [Hid, hsl']; rfl
  clear hL h hlk hoL hsl hsl' hr
  go_enter_defers Tryd.func24, Tryd.ntmps24
  go_wp2_with fail
  refine (lock_free muLib ⟨br, 0, none⟩ _ s0 sf).mono ?_
  rintro e w1 ⟨rfl, rfl⟩
  go_wp2_with fail
  refine (delete_any g l.length cap l p _ (HO.out.alloc _) rfl hnl).mono ?_
  rintro e w2 ⟨rfl, ht2, ho2⟩
  have hszl : g < w.heap.size := by simpa using hgl
  have e1 : w2.cell? ⟨br, 573, none⟩ = some (.slice (some ⟨g, 0, none⟩) (l.length + 1) cap) := (World.cell?_of_block (ht2.block br (by simp; omega) (by simpa using fun e => hgb e.symm))).trans (cellNew c5 _)
  have e2 : w2.frozen? ⟨br, 573, none⟩ = false := (World.frozen?_of_block (ht2.block br (by simp; omega) (by simpa using fun e => hgb e.symm))).trans (frozenNew cf (by simpa using hlt) _)
  have hN : w2.heap[w.heap.size]? = some (.cells #[.string p.1, .int .i64 (p.2 : Nat)] 132 (0, 0)) := (ht2.block w.heap.size (by simp) (by simp; omega)).trans (by have := heap_alloc_new (w.setCell ⟨br, 0, none⟩ (.int .i32 1)) (.cells #[.string p.1, .int .i64 (p.2 : Nat)] 132); simpa using this)
  have f0 : w2.cell? ⟨w.heap.size, 0, none⟩ = some (.string p.1) := by rw [cell_of_row _ _ _ _ _ _ hN]; rfl
  have f1 : w2.cell? ⟨w.heap.size, 1, none⟩ = some (.int .i64 (p.2 : Nat)) := by rw [cell_of_row _ _ _ _ _ _ hN]; rfl
  have hA2 := Aft.below HL.out ((Below.refl _ _).alloc (Nat.le_refl _) (.cells #[.string p.1, .int .i64 (p.2 : Nat)] 132))
  have hA3 := hA2.trans (Recv.taken hA2.recv HS.out ht2 ho2 rfl)
  have HA3 : Hid _ := hA3
  clear hA2 hA3 ht2 ho2 hN
  go_wp2_with fail
  go_quiet (fail)
  go_wp2_with fail
  have hA4 : Aft (w.setCell ⟨br, 0, none⟩ (.int .i32 1)) ((w2.setCell ⟨br, 573, none⟩ (.slice (some ⟨g, 0, none⟩) l.length cap)).drewN nq) br { R with lk := 1 } { R with lk := 1, rdy := .slice (some ⟨g, 0, none⟩) l.length cap } { V with ready := l } := ⟨HA3.out.recv.turn ((Turn.refl [] _).drewN nq) (by simp), rfl, HA3.out.turn.drewN nq, HA3.out.foot⟩
  refine leaves_cons (f := 40) (args := #[.pointer (some ⟨br, 0, none⟩)]) (by simp) (by simp [go_sem]) ?_
  refine (unlock_deferred muLib ⟨br, 0, none⟩ .returning _ hA4.recv.held.at_.c0 (hA4.recv.held.at_.frozen 0)).mono ?_
  rintro e u' w'' ⟨rfl, rfl, rfl⟩
  exact ⟨.tuple #[.string p.1, .int .i64 p.2, .int .i64 0], by simp [results, Tryd.results24, go_sem], rfl, _, Aft.unlock HK.out hA4⟩

end Go.Proofs.YtfbbidaoljfloaaDoor
