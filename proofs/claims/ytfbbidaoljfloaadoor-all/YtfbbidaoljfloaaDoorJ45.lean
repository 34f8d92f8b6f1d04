import Derived.Test.YtfbbidaoljfloaaDoorJ36
import Derived.Test.YtfbbidaoljfloaaDoorJ30
namespace Go.Proofs.YtfbbidaoljfloaaDoor
open Go.RowKit Go.MuLone

set_option maxRecDepth 100000 in
set_option maxHeartbeats 400000 in
theorem newReceiver_bad (b c : Int) (w : World) (h : goodB b c = false) :
    Calls Tryd.prog 31 #[.agg #[.int .i64 b, .int .i64 c]] w fun e w' => e = .returned (.tuple #[.pointer none, .int .i64 1]) ∧ Below w.heap.size w w' := by
  have hnot := notOp
  go_enter Tryd.func31, Tryd.ntmps31
  go_wp2_with fail
  refine (valid_any b c _).mono ?_
  rintro e w1 ⟨rfl, hb⟩
  rw [h]
  go_wp2
  go_ret2
  exact ⟨rfl, ((Below.refl _ _).alloc (Nat.le_refl _) _).trans (hb.mono (by simp))⟩

set_option maxRecDepth 100000 in
set_option maxHeartbeats 800000 in
theorem made_bad (b c : Int) (w : World) (h : goodB b c = false) :
    Calls Tryd.prog 59 #[.int .i64 b, .int .i64 c] w fun e w' => e = .returned (.tuple #[.pointer none, .bool true]) ∧ Below w.heap.size w w' := by
  have hnot := notOp
  go_enter Tryd.func59, Tryd.ntmps59
  go_wp2_with fail
  refine (newSender_bad b c _ h).mono ?_
  rintro e w1 ⟨rfl, hb1⟩
  obtain ⟨hc1, hf1⟩ := bcell hb1
  have c0 : w1.cell? ⟨w.heap.size, 0, none⟩ = some (.int .i64 b) := by rw [hc1 _ _ (by simp)]; simp [go_sem]
  have c1 : w1.cell? ⟨w.heap.size, 1, none⟩ = some (.int .i64 c) := by rw [hc1 _ _ (by simp)]; simp [go_sem]
  have hB1 : Below w.heap.size w w1 := ((Below.refl w.heap.size w).alloc (Nat.le_refl _) (.cells #[.int .i64 b, .int .i64 c] 72)).trans (hb1.mono (by simp))
  have HB1 : Hid _ := hB1
  clear hc1 hf1 hb1 hB1
  go_wp2_with fail
  refine (newReceiver_bad b c _ h).mono ?_
  rintro e w2 ⟨rfl, hb2⟩
  have HB2 : Hid _ := HB1.out.trans (hb2.mono HB1.out.size)
  clear hb2 c0 c1
  go_wp2_with fail
  refine (good_any b c _).mono ?_
  rintro e w3 ⟨rfl, rfl⟩
  rw [h]
  go_wp2_with fail
  refine (num_any 1 _).mono ?_
  rintro e w4 ⟨rfl, rfl⟩
  go_wp2_with fail
  refine (num_any 1 _).mono ?_
  rintro e w5 ⟨rfl, rfl⟩
  go_wp2_with fail
  go_ret2
  exact ⟨rfl, HB2.out⟩

set_option maxRecDepth 100000 in
set_option maxHeartbeats 800000 in
theorem made_good (blk bud : Nat) (w : World) (ht : Tab w) (h1 : 1 ≤ blk) (h2 : blk ≤ 32) (h3 : 1 ≤ bud) (h4 : bud ≤ 1000) :
    Calls Tryd.prog 59 #[.int .i64 blk, .int .i64 bud] w fun e w' => ∃ bn bs br F, e = .returned (.tuple #[.pointer (some ⟨bn, 0, none⟩), .bool true]) ∧ Below w.heap.size w w' ∧
      w'.heap[bn]? = some (.cells (netX bs ⟨.pointer (some ⟨br, 0, none⟩), .int .i64 0, .int .i64 0, .slice none 0 0, .slice none 0 0, .int .i64 0⟩ blk bud (.slice none 0 0) (.slice none 0 0) (.slice none 0 0)) 151 (0, 0)) ∧
      Net w' bs br F (SV.fresh blk bud) (RV.fresh blk) ∧ (∀ g ∈ F, w.heap.size ≤ g) ∧ w.heap.size ≤ bn ∧ bn ∉ F := by
  have hgood : goodB blk bud = true := by unfold goodB; simp; omega
  have hpos : 0 < w.heap.size := World.block_lt_of_cell? w _ (ht 0 0 rfl)
  have hnot := notOp
  go_enter Tryd.func59, Tryd.ntmps59
  go_wp2_with fail
  refine (newSender_good blk bud _ hgood).mono ?_
  rintro e w1 ⟨bs, rfl, hb1, hbs, hs1⟩
  obtain ⟨hc1, hf1⟩ := bcell hb1
  have c0 : w1.cell? ⟨w.heap.size, 0, none⟩ = some (.int .i64 blk) := by rw [hc1 _ _ (by simp)]; simp [go_sem]
  have c1 : w1.cell? ⟨w.heap.size, 1, none⟩ = some (.int .i64 bud) := by rw [hc1 _ _ (by simp)]; simp [go_sem]
  have HB1 : Hid _ := hb1
  clear hc1 hf1 hb1
  go_wp2_with fail
  refine (newReceiver_good blk bud _ hgood).mono ?_
  rintro e w2 ⟨br, rfl, hb2, hbr, hr2⟩
  have HB2 : Hid _ := hb2
  have HR2 : Hid _ := hr2
  clear hb2 hr2
  go_wp2_with fail
  refine (good_any blk bud _).mono ?_
  rintro e w3 ⟨rfl, rfl⟩
  rw [hgood]
  go_wp2_with fail
  have hs0 : w.heap.size + 1 ≤ bs := by simpa using hbs
  have hbsl : bs < w1.heap.size := lt_of_heap hs1
  have hB1 : Below w.heap.size w w1 := ((Below.refl w.heap.size w).alloc (Nat.le_refl _) (.cells #[.int .i64 blk, .int .i64 bud] 72)).trans (HB1.out.mono (by simp))
  have hB2 : Below w.heap.size w w3 := hB1.trans (HB2.out.mono hB1.size)
  generalize hO : (Obj.cells _ 151 : Obj) = O
  have hB3 : Below w.heap.size w (w3.alloc O) := hB2.alloc hB2.size _
  have T3 : Turn [] w3 (w3.alloc O) := (Turn.refl [] w3).alloc _
  have hbrl : br < w3.heap.size := HR2.out.held.at_.lt
  have hsz1 := hB1.size
  have hsz2 : w1.heap.size ≤ w3.heap.size := HB2.out.size
  have hs3 : SenderAt (w3.alloc O) bs blk bud (.slice none 0 0) 0 := T3.cells ((HB2.out.block bs hbsl).trans hs1) (by simp)
  obtain ⟨_, hft, hlk⟩ := fresh_recv blk w3 br HR2.out.held.at_
  refine bodyPost_ret (results_tmp2 rfl _ _ _) rfl ⟨w3.heap.size, bs, br, sfoot bs none ++ (RC.fresh blk).foot br, rfl, hB3, ?_, ⟨none, 0, RC.fresh blk, ⟨⟨?_, ?_, ?_⟩, HR2.out.turn T3 (by simp), hlk, ?_, SV.fresh_ok blk bud h1 h2 h3 h4, fresh_ok blk h1 h2, ?_, ?_, ?_⟩, rfl⟩, ?_, by omega, ?_⟩
  · subst hO
    exact heap_alloc_new w3 _
  · exact hs3
  · exact ⟨World.ownsRow_nil _ _ _ _, rfl⟩
  · intro e; cases e
  · intro g hg
    rw [hft]
    simp [sfoot] at hg
    simp
    omega
  · exact ht.turn (Turn.below (S := []) hB3 (Nat.le_refl _)) (by simp)
  · simp [sfoot]; omega
  · rw [hft]; simp; omega
  · intro g hg
    rw [hft] at hg
    simp [sfoot] at hg
    omega
  · rw [hft]
    simp [sfoot]
    omega

set_option maxHeartbeats 400000 in
theorem anewA_bad (b c : Int) (w : World) (h : goodB b c = false) :
    Calls Tryd.prog 34 #[.int .i64 b, .int .i64 c, .bool false] w fun e w' => e = .returned (.tuple #[.pointer none, .bool true]) ∧ Below w.heap.size w w' := by
  go_enter Tryd.func34, Tryd.ntmps34
  go_wp2_with fail
  refine (made_bad b c _ h).mono ?_
  rintro e w1 ⟨rfl, hb⟩
  go_wp2
  go_ret2
  exact ⟨rfl, hb⟩

/-- A network as it is made. -/
def NetA.fresh (bn bs br blk bud : Nat) (F : List Nat) : NetA := ⟨bn, bs, br, blk, bud, F, SV.fresh blk bud, RV.fresh blk, [], none, 0, 0, 0, .slice none 0 0, [], [], .slice none 0 0, [], 0, none, 0, 0, [], none, 0, 0, []⟩
theorem NetA.fresh_blocks (bn bs br blk bud : Nat) (F : List Nat) (k : Nat) (hk : k ∈ (NetA.fresh bn bs br blk bud F).blocks) : k = bn ∨ k ∈ F := by
  simpa [NetA.blocks, NetA.lows, NetA.fresh, NetA.rv, NetA.wv, NetA.hv, Value.ownBlock] using hk
theorem InvA.fresh {w : World} {bn bs br blk bud : Nat} {F : List Nat} (h1 : 1 ≤ blk) (h2 : blk ≤ 32) (h3 : 1 ≤ bud) (h4 : bud ≤ 1000)
    (hn : w.heap[bn]? = some (.cells (netX bs ⟨.pointer (some ⟨br, 0, none⟩), .int .i64 0, .int .i64 0, .slice none 0 0, .slice none 0 0, .int .i64 0⟩ blk bud (.slice none 0 0) (.slice none 0 0) (.slice none 0 0)) 151 (0, 0)))
    (hnet : Net w bs br F (SV.fresh blk bud) (RV.fresh blk)) (hF : bn ∉ F) (h0 : 0 < bn) : InvA w (NetA.fresh bn bs br blk bud F) := by
  refine ⟨⟨⟨hn, World.ownsRow_nil _ _ _ _, by simp [Value.ownBlock, NetA.fresh], rfl⟩, ⟨World.ownsRow_nil _ _ _ _, by simp [NetA.fresh], by simp [Value.ownBlock, NetA.fresh], by simp [NetA.fresh]⟩, hnet, ⟨World.ownsRow_nil _ _ _ _, rfl⟩, RL.nil _ _ _, fun _ => rfl, ⟨World.ownsRow_nil _ _ _ _⟩, by simp [NetA.fresh], fun k hk => ?_, by simp [NetA.ros, NetA.fresh], ?_⟩,
    ⟨rfl, rfl, Shape.nil _ _, GetIs.start blk, by simp [NetA.fresh], Nat.le_refl _, ⟨rfl, by simp [NetA.fresh]⟩, fun i hi => by simp [NetA.fresh] at hi, h1, h2, h3, h4, ⟨0, rfl⟩, Nat.le_refl _⟩⟩
  · have : k = bn := by simpa [NetA.lows, NetA.fresh, NetA.rv, NetA.wv, NetA.hv, Value.ownBlock] using hk
    rw [this]
    exact hF
  · simp [NetA.lows, NetA.fresh, NetA.rv, NetA.wv, NetA.hv, Value.ownBlock]
    omega

set_option maxHeartbeats 400000 in
theorem anewA_good (blk bud : Nat) (w : World) (ht : Tab w) (h1 : 1 ≤ blk) (h2 : blk ≤ 32) (h3 : 1 ≤ bud) (h4 : bud ≤ 1000) :
    Calls Tryd.prog 34 #[.int .i64 blk, .int .i64 bud, .bool false] w fun e w' => ∃ bn bs br F, e = .returned (.tuple #[.pointer (some ⟨bn, 0, none⟩), .bool true]) ∧ Below w.heap.size w w' ∧
      InvA w' (NetA.fresh bn bs br blk bud F) ∧ (∀ k ∈ (NetA.fresh bn bs br blk bud F).blocks, w.heap.size ≤ k) := by
  have hpos : 0 < w.heap.size := World.block_lt_of_cell? w _ (ht 0 0 rfl)
  have HT : Hid (Tab w) := ht
  clear ht
  go_enter Tryd.func34, Tryd.ntmps34
  go_wp2_with fail
  refine (made_good blk bud _ HT.out h1 h2 h3 h4).mono ?_
  rintro e w1 ⟨bn, bs, br, F, rfl, hb, hn, hnet, hF, hbn, hbF⟩
  have HI : Hid _ := InvA.fresh h1 h2 h3 h4 hn hnet hbF (by omega)
  clear hn hnet
  go_wp2
  go_ret2
  exact ⟨bn, bs, br, F, rfl, hb, HI.out, fun k hk => by
    rcases NetA.fresh_blocks _ _ _ _ _ _ k hk with q | q
    · omega
    · exact hF k q⟩
end Go.Proofs.YtfbbidaoljfloaaDoor


namespace Go.Proofs.YtfbbidaoljfloaaDoor
open Go.RowKit Go.MuLone

theorem InvA.turnS {S : List Nat} {w w' : World} {N : NetA} (h : InvA w N) (T : Turn S w w') (h1 : ∀ k ∈ N.blocks, k ∉ S) (h2 : ∀ k ∈ N.ros, k ∉ S) (h0 : 0 ∉ S) : InvA w' N := by
  obtain ⟨q1, q2, q3, q4, q5, q6⟩ := h.m.law T (fun k hk => h1 k (List.mem_append_left _ hk)) h2
  exact ⟨⟨q1, q2, h.m.net.turn T (fun g hg => h1 g (List.mem_append_right _ hg)) h0, q3, q4, h.m.r0, q5, q6, h.m.low, h.m.ro, h.m.pos⟩, h.l⟩
theorem InvA.lt {w : World} {N : NetA} (h : InvA w N) : ∀ k ∈ N.blocks, k < w.heap.size := fun k hk => by
  rcases List.mem_append.1 hk with q | q
  · exact h.m.lt k q
  · exact h.m.net.lt k q
theorem InvA.ro_lt {w : World} {N : NetA} (h : InvA w N) : ∀ k ∈ N.ros, k < w.heap.size := h.m.ro_lt

def ptrOf (N : NetA) : Value := .pointer (some ⟨N.bn, 0, none⟩)

/-- Several networks side by side, and the script. -/
structure Game (B R n rcap : Nat) (xs : List Value) (i : Nat) (w : World) (L : List NetA) (nsl : Option Addr) (ncap : Nat) : Prop where
  row : w.ownsRow 0 89 7 (.slice (some ⟨R, 0, none⟩) n rcap) n xs
  nets : w.ownsRow 0 91 1 (.slice nsl L.length ncap) L.length (L.map ptrOf)
  inv : ∀ N ∈ L, InvA w N
  cnt : ∀ N ∈ L, N.hm ≤ 4 * i ∧ N.wn ≤ i
  ge : ∀ N ∈ L, ∀ k ∈ N.blocks, B ≤ k
  apart : ∀ a b (ha : a < L.length) (hb : b < L.length), a ≠ b → ∀ k ∈ L[a].blocks, k ∉ L[b].blocks ∧ k ∉ L[b].ros
  rowoff : ∀ N ∈ L, R ∉ N.blocks
  rowge : B ≤ R
  netoff : ∀ k, (Value.slice nsl L.length ncap).ownBlock = some k → B ≤ k ∧ k ≠ R ∧ ∀ N ∈ L, k ∉ N.blocks ∧ k ∉ N.ros
  len : L.length ≤ i
  pos : 0 < B

section
variable {B R n rcap : Nat} {xs : List Value} {i : Nat} {w w' : World} {L : List NetA} {nsl : Option Addr} {ncap : Nat}

theorem Game.same (g : Game B R n rcap xs i w L nsl ncap) (t : Turn [] w w') : Game B R n rcap xs i w' L nsl ncap :=
  ⟨t.owns g.row (by simp), t.owns g.nets (by simp), fun N hN => (g.inv N hN).turnS t (by simp) (by simp) (by simp), g.cnt, g.ge, g.apart, g.rowoff, g.rowge, g.netoff, g.len, g.pos⟩

theorem Game.next (g : Game B R n rcap xs i w L nsl ncap) : Game B R n rcap xs (i + 1) w L nsl ncap :=
  ⟨g.row, g.nets, g.inv, fun N hN => by have := g.cnt N hN; omega, g.ge, g.apart, g.rowoff, g.rowge, g.netoff, by have := g.len; omega, g.pos⟩

theorem Game.turnB (g : Game B R n rcap xs i w L nsl ncap) {p : Nat} (hp : p < L.length) {N' : NetA} (s : StpA w L[p] w' N') (hB : B ≤ w.heap.size) : Below B w w' :=
  s.turn.toBelow hB (fun x hx => g.ge _ (List.getElem_mem hp) x hx)

/-- A step on one of the networks. -/
theorem Game.step (g : Game B R n rcap xs i w L nsl ncap) {p : Nat} (hp : p < L.length) {N' : NetA} (s : StpA w L[p] w' N') (hB : B ≤ w.heap.size) : Game B R n rcap xs (i + 1) w' (L.set p N') nsl ncap := by
  have hrow : R < w.heap.size := owns_lt g.row rfl
  have hm : ∀ N ∈ L.set p N', N = N' ∨ ∃ b, ∃ hb : b < L.length, b ≠ p ∧ N = L[b] := by
    intro N hN
    obtain ⟨b, hb, rfl⟩ := List.mem_iff_getElem.1 hN
    rw [List.length_set] at hb
    rw [List.getElem_set]
    split
    · exact .inl rfl
    · exact .inr ⟨b, hb, by omega, rfl⟩
  have other : ∀ b (hb : b < L.length), b ≠ p → InvA w' L[b] := fun b hb hne =>
    (g.inv _ (List.getElem_mem hb)).turnS s.turn (fun k hk hm => (g.apart b p hb hp hne k hk).1 hm) (fun k hk hm => (g.apart p b hp hb (Ne.symm hne) k hm).2 hk) (fun hm => by have := g.ge _ (List.getElem_mem hp) 0 hm; have := g.pos; omega)
  have nlt : ∀ k, (Value.slice nsl L.length ncap).ownBlock = some k → k < w.heap.size := fun k hk => owns_lt g.nets hk
  have emap : (L.set p N').map ptrOf = L.map ptrOf := by
    apply List.ext_getElem (by simp)
    intro j h1 h2
    rw [List.getElem_map, List.getElem_map, List.getElem_set]
    split
    · rename_i e
      subst e
      simp [ptrOf, s.bn]
    · rfl
  refine ⟨s.turn.owns g.row (fun k hk hm => ?_), ?_, ?_, ?_, ?_, ?_, ?_, g.rowge, ?_, by rw [List.length_set]; have := g.len; omega, g.pos⟩
  · simp only [Value.ownBlock, Option.some.injEq] at hk
    subst hk
    exact g.rowoff _ (List.getElem_mem hp) hm
  · rw [List.length_set, emap]
    exact s.turn.owns g.nets (fun k hk hm => ((g.netoff k hk).2.2 _ (List.getElem_mem hp)).1 hm)
  · intro N hN
    rcases hm N hN with rfl | ⟨b, hb, hne, rfl⟩
    · exact s.inv
    · exact other b hb hne
  · intro N hN
    rcases hm N hN with rfl | ⟨b, hb, hne, rfl⟩
    · have := g.cnt _ (List.getElem_mem hp)
      have h1 := s.hm
      have h2 := s.wn
      omega
    · have := g.cnt _ (List.getElem_mem hb)
      omega
  · intro N hN k hk
    rcases hm N hN with rfl | ⟨b, hb, hne, rfl⟩
    · rcases s.blocks k hk with q | q
      · exact g.ge _ (List.getElem_mem hp) k q
      · omega
    · exact g.ge _ (List.getElem_mem hb) k hk
  · intro a b ha hb hne k hk
    rw [List.length_set] at ha hb
    rw [List.getElem_set] at hk
    rw [List.getElem_set]
    split at hk
    · rename_i ea
      subst ea
      rw [if_neg hne]
      rcases s.blocks k hk with q | q
      · exact g.apart p b ha hb hne k q
      · exact ⟨fun hm => by have := (g.inv _ (List.getElem_mem hb)).lt k hm; omega, fun hm => by have := (g.inv _ (List.getElem_mem hb)).ro_lt k hm; omega⟩
    · split
      · rename_i eb
        subst eb
        have hk' := g.apart a p ha hb hne k hk
        have hlt := (g.inv _ (List.getElem_mem ha)).lt k hk
        refine ⟨fun hm => ?_, fun hm => ?_⟩
        · rcases s.blocks k hm with q | q
          · exact hk'.1 q
          · omega
        · rcases s.ros k hm with q | q
          · exact hk'.2 q
          · omega
      · exact g.apart a b ha hb hne k hk
  · intro N hN hm'
    rcases hm N hN with rfl | ⟨b, hb, hne, rfl⟩
    · rcases s.blocks R hm' with q | q
      · exact g.rowoff _ (List.getElem_mem hp) q
      · omega
    · exact g.rowoff _ (List.getElem_mem hb) hm'
  · intro k hk
    rw [List.length_set] at hk
    have h0 := g.netoff k hk
    have hlt := nlt k hk
    refine ⟨h0.1, h0.2.1, fun N hN => ?_⟩
    rcases hm N hN with rfl | ⟨b, hb, hne, rfl⟩
    · have h1 := h0.2.2 _ (List.getElem_mem hp)
      refine ⟨fun hm => ?_, fun hm => ?_⟩
      · rcases s.blocks k hm with q | q
        · exact h1.1 q
        · omega
      · rcases s.ros k hm with q | q
        · exact h1.2 q
        · omega
    · exact h0.2.2 _ (List.getElem_mem hb)

/-- A network more. -/
theorem Game.more (g : Game B R n rcap xs i w L nsl ncap) {w1 : World} {N : NetA} {g' cap' : Nat} (t : Turn [] w w1) (hN : InvA w1 N) (hm : N.hm = 0) (hw : N.wn = 0) (hnew : ∀ k ∈ N.blocks, w.heap.size ≤ k) (hro : N.ros = []) (hB : B ≤ w.heap.size)
    (T : Turn (Value.slice nsl L.length ncap).ownBlock.toList w1 w') (ho : w'.ownsRow 0 91 1 (.slice (some ⟨g', 0, none⟩) (L.length + 1) cap') (L.length + 1) (L.map ptrOf ++ [ptrOf N])) (ha : (Value.slice nsl L.length ncap).ownBlock = some g' ∨ w1.heap.size ≤ g') :
    Game B R n rcap xs (i + 1) w' (L ++ [N]) (some ⟨g', 0, none⟩) cap' := by
  have g1 := g.same t
  have z := t.size
  have nlt : ∀ k, (Value.slice nsl L.length ncap).ownBlock = some k → k < w.heap.size := fun k hk => owns_lt g.nets hk
  have hrow : R < w.heap.size := owns_lt g.row rfl
  have hcase : ∀ M ∈ L ++ [N], M ∈ L ∨ M = N := fun M hM => by simpa using hM
  have offT : ∀ M ∈ L, (∀ k ∈ M.blocks, k ∉ (Value.slice nsl L.length ncap).ownBlock.toList) ∧ (∀ k ∈ M.ros, k ∉ (Value.slice nsl L.length ncap).ownBlock.toList) := fun M hM =>
    ⟨fun k hk hm => ((g.netoff k (by simpa using hm)).2.2 M hM).1 hk, fun k hk hm => ((g.netoff k (by simpa using hm)).2.2 M hM).2 hk⟩
  have off0 : 0 ∉ (Value.slice nsl L.length ncap).ownBlock.toList := fun hm => by
    have := (g.netoff 0 (by simpa using hm)).1
    have := g.pos
    omega
  have len1 : (L ++ [N]).length = L.length + 1 := by simp
  refine ⟨T.owns g1.row (fun k hk hm => ?_), ?_, ?_, ?_, ?_, ?_, ?_, g.rowge, ?_, by rw [len1]; have := g.len; omega, g.pos⟩
  · simp only [Value.ownBlock, Option.some.injEq] at hk
    subst hk
    exact (g.netoff R (by simpa using hm)).2.1 rfl
  · rw [len1]
    simpa using ho
  · intro M hM
    rcases hcase M hM with q | rfl
    · exact (g1.inv M q).turnS T (offT M q).1 (offT M q).2 off0
    · exact hN.turnS T (fun k hk hm => by have := nlt k (by simpa using hm); have := hnew k hk; omega) (by simp [hro]) off0
  · intro M hM
    rcases hcase M hM with q | rfl
    · have := g.cnt M q; omega
    · omega
  · intro M hM k hk
    rcases hcase M hM with q | rfl
    · exact g.ge M q k hk
    · have := hnew k hk; omega
  · intro a b ha' hb' hne k hk
    rw [len1] at ha' hb'
    by_cases hA : a < L.length
    · rw [List.getElem_append_left hA] at hk
      have hlt := (g.inv _ (List.getElem_mem hA)).lt k hk
      by_cases hb : b < L.length
      · rw [List.getElem_append_left hb]
        exact g.apart a b hA hb hne k hk
      · rw [List.getElem_append_right (by omega)]
        simp only [show b - L.length = 0 by omega, List.getElem_cons_zero]
        exact ⟨fun hm => by have := hnew k hm; omega, by simp [hro]⟩
    · rw [List.getElem_append_right (by omega)] at hk
      simp only [show a - L.length = 0 by omega, List.getElem_cons_zero] at hk
      have := hnew k hk
      have hb : b < L.length := by omega
      rw [List.getElem_append_left hb]
      exact ⟨fun hm => by have := (g.inv _ (List.getElem_mem hb)).lt k hm; omega, fun hm => by have := (g.inv _ (List.getElem_mem hb)).ro_lt k hm; omega⟩
  · intro M hM hm'
    rcases hcase M hM with q | rfl
    · exact g.rowoff M q hm'
    · have := hnew R hm'; omega
  · intro k hk
    simp only [Value.ownBlock, Option.some.injEq] at hk
    subst hk
    rcases ha with q | q
    · have h0 := g.netoff _ q
      have hlt := nlt _ q
      refine ⟨h0.1, h0.2.1, fun M hM => ?_⟩
      rcases hcase M hM with r | rfl
      · exact h0.2.2 M r
      · exact ⟨fun hm => by have := hnew _ hm; omega, by simp [hro]⟩
    · refine ⟨by omega, by omega, fun M hM => ?_⟩
      rcases hcase M hM with r | rfl
      · exact ⟨fun hm => by have := (g1.inv M r).lt _ hm; omega, fun hm => by have := (g1.inv M r).ro_lt _ hm; omega⟩
      · exact ⟨fun hm => by have := hN.lt _ hm; omega, by simp [hro]⟩

theorem Game.turnN (g : Game B R n rcap xs i w L nsl ncap) {w1 : World} (t : Turn [] w w1) (hB : B ≤ w.heap.size) (T : Turn (Value.slice nsl L.length ncap).ownBlock.toList w1 w') : Below B w w' :=
  ((t.mono (by simp)).trans T (fun x hx => .inl hx)).toBelow hB (fun x hx => (g.netoff x (by simpa using hx)).1)

end

end Go.Proofs.YtfbbidaoljfloaaDoor
