import Derived.Test.YtafipndlfkklfaaDoorJ29
import Derived.Test.YtafipndlfkklfaaDoorT2
import Derived.BigQuiet
import Derived.Test.YtafipndlfkklfaaDoorV3
namespace Go.Proofs.YtafipndlfkklfaaDoor
open Go.RowKit Go.MuLone

theorem BR.neN {w : World} {g K r : Nat} (h : BR w g K r) {v : Value} {n : Nat} {xs : List Value} (ho : w.ownsRow 0 3 1 v n xs) : v.ownBlock ≠ some g := by
  intro e
  obtain ⟨c, hc, _⟩ := h
  rcases ho.2 with ⟨rfl, _⟩ | ⟨o, cap, cur, rfl, _, hcur, _⟩
  · simp [Value.ownBlock] at e
  · obtain rfl : o = g := by simpa [Value.ownBlock] using e
    rw [hc] at hcur
    simp at hcur
theorem RL.neN {w : World} {B : Nat} {v : Value} {K : Nat} {gs rs : List Nat} (h : RL w B v K gs rs) {u : Value} {n : Nat} {xs : List Value} (ho : w.ownsRow 0 3 1 u n xs) : ∀ g ∈ gs, u.ownBlock ≠ some g := fun g hg => by
  obtain ⟨i, hi⟩ := List.getElem?_of_mem hg
  have hlt := (List.getElem?_eq_some_iff.1 hi).1
  obtain ⟨r, hr⟩ : ∃ r, rs[i]? = some r := ⟨_, List.getElem?_eq_getElem (by rw [← h.len]; exact hlt)⟩
  exact (h.at_ i g r hi hr).neN ho

section
variable {ops : Array Oper} {rest : List Oper} {o : Oper} {a : Act} {Q : Exit → Act → World → Prop}
theorem wpList_nums (w : World) (hgd : o.guard = none) (s x : Operand) (ho : o.op = .call { callee := .builtin .append, args := #[s, x], argTypes := #[52, 52] })
    (v : Value) {l : List Nat} (h : NL w v l) (hs : a.eval s = v) (G c : Nat) (hx : a.eval x = .slice (some ⟨G, 0, none⟩) 1 c) {num : Nat} (hG : w.cell? ⟨G, 0, none⟩ = some (.int .i64 num)) (hl : l.length ≤ 4398046511104)
    (k : ∀ q cap w', NL w' (.slice (some ⟨q, 0, none⟩) (l.length + 1) cap) (l ++ [num]) → Turn v.ownBlock.toList w w' → (v.ownBlock = some q ∨ q = w.heap.size) → wpList Tryd.prog ops Q rest (a.put o.dst (.slice (some ⟨q, 0, none⟩) (l.length + 1) cap)) w') :
    wpList Tryd.prog ops Q (o :: rest) a w := by
  obtain ⟨i0, hi, hz0, hz1, hz2⟩ := info_parts infoN
  refine wpList_append_far w hgd s x 52 ho 3 i0 _ 1 8 Tryd.underlying52 hi hz0 hz1 hz2 rfl (by decide) v l.length _ hs h.owns ⟨G, 0, none⟩ 1 c [.int .i64 num] hx rfl ?_ (by simp [Value.oneCell']) (by decide) (by unfold maxLen; omega) (by omega) ?_
  · intro j u hu
    match j, hu with
    | 0, hu =>
      cases hu
      exact hG
    | j + 1, hu => simp at hu
  · intro q cap w' h2 h3 h4 h5
    exact k q cap w' ⟨by simpa using h2⟩ ⟨h3.os, h3.tape, h3.output, h3.size, fun q hq hn => h3.block q hq (fun e => hn (by simp [← e]))⟩ h4
end

section
variable {w w1 w2 : World} {bn : Nat} {f : Nat → Value} {B K last : Nat} {rv : Value} {gs rs : List Nat} {dv : Value} {dl dl2 : List Nat}
theorem GetAt.deliver {q n cap : Nat} (h : GetAt w bn f B K last rv gs rs dv dl) (hB : B ≤ w1.heap.size) (T1 : Turn [] w w1) (hn : NL w2 (.slice (some ⟨q, 0, none⟩) n cap) dl2) (T2 : Turn dv.ownBlock.toList w1 w2) (hat : dv.ownBlock = some q ∨ q = w1.heap.size) : ∃ f2, (∀ j, j ≠ 8 → f2 j = f j) ∧
    GetAt (w2.setCell ⟨bn, 8, none⟩ (.slice (some ⟨q, 0, none⟩) n cap)) bn f2 B K last rv gs rs (.slice (some ⟨q, 0, none⟩) n cap) dl2 := by
  have h1 := h.turn T1
  have hb2 : bn ∉ dv.ownBlock.toList := fun hm => net_ne h1.row (by decide) h1.dl.owns (by simpa using hm)
  have hrow2 : w2.rowIs bn 151 12 f := h1.row.of_block (T2.block bn h1.row.lt hb2)
  have hrl2 : RL w2 B rv K gs rs := h1.rl.turn T2 (fun k hk hm => h1.rd k hk (by simpa using hm)) (fun g hg hm => h1.rl.neN h1.dl.owns g hg (by simpa using hm))
  have T3 : Turn [bn] w2 (w2.setCell ⟨bn, 8, none⟩ (.slice (some ⟨q, 0, none⟩) n cap)) := (Turn.refl [bn] w2).setCell (.inl (by simp)) _
  refine ⟨_, fun j h8 => ?_, ⟨hrow2.set 8 _, ?_, ?_, ?_, ?_, hrl2.turn T3 (fun k hk hm => ?_) (fun g hg hm => ?_), h.r0, hn.turn T3 (fun k hk hm => ?_), fun k hk => ?_, fun k hk hd => ?_⟩⟩
  · simp [h8]
  · simp; exact h.f5
  · simp; exact h.f6
  · simp; exact h.f7
  · simp
  · simp at hm; subst hm; exact net_ne hrow2 (by decide) hrl2.owns hk
  · simp at hm
    subst hm
    obtain ⟨i, hi⟩ := List.getElem?_of_mem hg
    have hlt := (List.getElem?_eq_some_iff.1 hi).1
    obtain ⟨r, hr2⟩ : ∃ r, rs[i]? = some r := ⟨_, List.getElem?_eq_getElem (by rw [← hrl2.len]; exact hlt)⟩
    exact net_row hrow2 (hrl2.at_ i g r hi hr2) rfl
  · simp at hm; subst hm; exact net_ne hrow2 (by decide) hn.owns hk
  · obtain rfl : q = k := by simpa [Value.ownBlock] using hk
    rcases hat with m | m
    · exact h.dB q m
    · omega
  · obtain rfl : q = k := by simpa [Value.ownBlock] using hd
    rcases hat with m | m
    · exact h1.rd q hk m
    · have := owns_lt h1.rl.owns hk; omega
end

/-- What a frame does at the document's receiver. -/
inductive CameIs (num K2 r last K : Nat) (rs dl : List Nat) : Bool → Nat → Nat → List Nat → List Nat → Prop
  | had : num ∈ dl → CameIs num K2 r last K rs dl true last K rs dl
  | past : num ∉ dl → num < last → CameIs num K2 r last K rs dl false last K rs dl
  | some_ : num ∉ dl → last ≤ num → rankL ((if last < num then [] else rs) ++ [r]) < K2 → CameIs num K2 r last K rs dl false num K2 ((if last < num then [] else rs) ++ [r]) dl
  | all : num ∉ dl → last ≤ num → K2 ≤ rankL ((if last < num then [] else rs) ++ [r]) → CameIs num K2 r last K rs dl true num K2 ((if last < num then [] else rs) ++ [r]) (dl ++ [num])

/-- Behind it. -/
structure CameW (w w' : World) (bn : Nat) (f : Nat → Value) (B num K2 r last K : Nat) (rv : Value) (gs rs : List Nat) (dv : Value) (dl : List Nat) (b : Bool) : Prop where
  ex : ∃ (f2 : Nat → Value) (K' last' : Nat) (rv' : Value) (gs' rs' : List Nat) (dv' : Value) (dl' : List Nat), CameIs num K2 r last K rs dl b last' K' rs' dl' ∧ (∀ j, j < 5 ∨ 8 < j → f2 j = f j) ∧ GetAt w' bn f2 B K' last' rv' gs' rs' dv' dl' ∧
    (∀ k, rv'.ownBlock = some k → rv.ownBlock = some k ∨ w.heap.size ≤ k) ∧ (∀ k, dv'.ownBlock = some k → dv.ownBlock = some k ∨ w.heap.size ≤ k) ∧ (∀ g ∈ gs', g ∈ gs ∨ w.heap.size ≤ g)
  turn : Turn (bn :: (rv.ownBlock.toList ++ dv.ownBlock.toList)) w w'

set_option maxRecDepth 100000 in
set_option maxHeartbeats 4000000 in
theorem came_any (bn num K2 id : Nat) (nonce : Int) (f : Nat → Value) (B K last : Nat) (rv : Value) (gs rs : List Nat) (dv : Value) (dl : List Nat) (w : World) (h : GetAt w bn f B K last rv gs rs dv dl) (hB : B ≤ w.heap.size) (hdl : dl.length ≤ 100000) (hrs : rs.length < 4398046511104) (hKe : num = last → K = K2) (hK1 : 1 ≤ K2) (hK2 : K2 ≤ 32) (hid : id < 1048576) :
    Calls Tryd.prog 110 #[.pointer (some ⟨bn, 5, none⟩), .int .i64 num, .int .u64 nonce, .int .i64 K2, .int .i64 id] w fun e w' => ∃ b, e = .returned (.bool b) ∧ CameW w w' bn f B num K2 (Dz.rowOf nonce K2 id) last K rv gs rs dv dl b := by
  obtain ⟨c5, c6, c7, c8⟩ := h.cells
  have z5 := h.row.frozen 5
  have z6 := h.row.frozen 6
  have z7 := h.row.frozen 7
  have HG : Hid _ := h
  clear h
  go_enter Tryd.func110, Tryd.ntmps110
  go_wp2_with fail
  refine (has_any bn num dl dv _ c8 HG.out.dl hdl).mono ?_
  rintro e1 w1 ⟨rfl, rfl⟩
  by_cases hm : num ∈ dl
  · have g1 : decide (num ∈ dl) = true := decide_eq_true hm
    go_wp2_with fail
    go_ret
    exact ⟨true, rfl, ⟨⟨f, K, last, rv, gs, rs, dv, dl, .had hm, fun _ _ => rfl, HG.out, fun k hk => .inl hk, fun k hk => .inl hk, fun g hg => .inl hg⟩, Turn.refl _ _⟩⟩
  · have g1 : decide (num ∈ dl) = false := decide_eq_false hm
    by_cases hlt : num < last
    · have g2 : decide ((num : Int) < (last : Int)) = true := by simp; omega
      go_wp2_with fail
      go_ret
      exact ⟨false, rfl, ⟨⟨f, K, last, rv, gs, rs, dv, dl, .past hm hlt, fun _ _ => rfl, HG.out, fun k hk => .inl hk, fun k hk => .inl hk, fun g hg => .inl hg⟩, Turn.refl _ _⟩⟩
    · have g2 : decide ((num : Int) < (last : Int)) = false := by simp; omega
      go_upto_if 33 with fail
      go_cut [11] from 18 to 79 (fun hv wx => hv = .bool false ∧ ∃ (f2 : Nat → Value) (rv2 : Value) (gs2 : List Nat), (∀ j, j < 5 ∨ 8 < j → f2 j = f j) ∧ GetAt wx bn f2 B K2 num rv2 gs2 (if last < num then [] else rs) dv dl ∧ (rv2 = rv ∨ rv2 = .slice none 0 0) ∧ (∀ g ∈ gs2, g ∈ gs) ∧ Turn [bn] w1 wx)
      case first =>
        by_cases hgt : last < num
        · obtain ⟨f2, hf2, hG2⟩ := HG.out.begin num K2
          have HG2 : Hid _ := hG2
          have g3 : decide ((last : Int) < (num : Int)) = true := by simp; omega
          clear hG2
          go_wp2_with fail
          go_meet
          exact ⟨rfl, f2, .slice none 0 0, [], fun j hj => hf2 j (by omega) (by omega) (by omega), by rw [if_pos hgt]; exact HG2.out, .inr rfl, by simp, (((Turn.refl [bn] w1).setCell (.inl (by simp)) _).setCell (.inl (by simp)) _).setCell (.inl (by simp)) _⟩
        · have g3 : decide ((last : Int) < (num : Int)) = false := by simp; omega
          have e1 : num = last := by omega
          have e2 := hKe e1
          have HG2 : Hid (GetAt w1 bn f B K2 num rv gs rs dv dl) := by rw [Hid, ← e2, e1]; exact HG.out
          clear e1 e2
          go_wp2_with fail
          go_meet
          exact ⟨rfl, f, rv, gs, fun _ _ => rfl, by rw [if_neg hgt]; exact HG2.out, .inl rfl, fun g hg => hg, Turn.refl _ _⟩
      case rest =>
        obtain ⟨rfl, f2, rv2, gs2, hf2, hg2, hrv2, hgs2, hT2⟩ := hcut
        obtain ⟨W2, hW2⟩ : ∃ W2, W2 = wc := ⟨_, rfl⟩
        subst hW2
        clear c5 c6 c7 c8 z5 z6 z7
        have hrs2 : (if last < num then [] else rs).length < 4398046511104 := by
          split
          · show 0 < _
            omega
          · exact hrs
        have HCI : Hid (∀ b dl', ((rankL ((if last < num then [] else rs) ++ [Dz.rowOf nonce K2 id]) < K2 ∧ b = false ∧ dl' = dl) ∨ (K2 ≤ rankL ((if last < num then [] else rs) ++ [Dz.rowOf nonce K2 id]) ∧ b = true ∧ dl' = dl ++ [num])) → CameIs num K2 (Dz.rowOf nonce K2 id) last K rs dl b num K2 ((if last < num then [] else rs) ++ [Dz.rowOf nonce K2 id]) dl') := fun b dl' q => by
          rcases q with ⟨q1, rfl, rfl⟩ | ⟨q1, rfl, rfl⟩
          · exact .some_ hm (by omega) q1
          · exact .all hm (by omega) q1
        generalize (if last < num then [] else rs) = rs2 at *
        obtain ⟨sl2, cap2, rfl, _⟩ := hg2.rl.shape
        have hrlt := Dz.rowOf_lt nonce K2 id hK1
        have HG2 : Hid _ := hg2
        have HT2 : Hid _ := hT2
        have hsz2 := hT2.size
        clear hg2 hT2 HG
        go_wp2_with fail
        refine (refRow_any nonce id K2 _ hK1 hK2 (by omega) (by omega)).mono ?_
        rintro e1 w3 ⟨rfl, hb3, hr3⟩
        have hbr3 : BR w3 W2.heap.size K2 (Dz.rowOf nonce K2 id) := hr3
        generalize hRR : Dz.rowOf nonce K2 id = r at *
        have T3 : Turn [] W2 w3 := Turn.below hb3 (Nat.le_refl _)
        have hsz3 := T3.size
        have T4 : Turn [] w3 (w3.alloc (.cells #[.slice (some ⟨W2.heap.size, 0, none⟩) K2 K2] 76)) := (Turn.refl [] w3).alloc _
        have hG4 := (HG2.out.turn T3).turn T4
        have hb4 := hbr3.turn T4 (by simp)
        have hN4 : (w3.alloc (.cells #[.slice (some ⟨W2.heap.size, 0, none⟩) K2 K2] 76)).cell? ⟨w3.heap.size, 0, none⟩ = some (rowV W2.heap.size K2) := by rw [cell_of_row _ _ _ _ _ _ (heap_alloc_new w3 _)]; rfl
        have c7 := (HG2.out.turn T3).cells.2.2.1
        have hsz4 : B ≤ (w3.alloc (.cells #[.slice (some ⟨W2.heap.size, 0, none⟩) K2 K2] 76)).heap.size := by simp; omega
        clear hb3 hr3
        go_upto_region 10 with (at_builtin; (refine wpList_rows _ rfl _ _ rfl _ hG4.rl rfl w3.heap.size 1 rfl hN4 hb4 hrlt (by omega) hsz4 ?_; intro q cap5 w5 hr5 ht5 hat5; have hrow5 := hG4.row.of_block (ht5.block bn hG4.row.lt (fun hm => net_ne hG4.row (by decide) hG4.rl.owns (by simpa using hm))); have y7 : w5.cell? ⟨bn, 7, none⟩ = some (.slice sl2 rs2.length cap2) := (by rw [hrow5.cell (by omega), hG4.f7]); have y8 := hrow5.frozen 7))
        obtain ⟨f3, hf3, hG5⟩ := (HG2.out.turn T3).more T4 hr5 ht5 hat5 (by simp)
        have hown2 : ∀ k, (Value.slice sl2 rs2.length cap2).ownBlock = some k → rv.ownBlock = some k := fun k hk => by
          rcases hrv2 with e | e
          · rw [← e]; exact hk
          · rw [e] at hk; simp [Value.ownBlock] at hk
        have hsz4' : w1.heap.size ≤ (w3.alloc (.cells #[.slice (some ⟨W2.heap.size, 0, none⟩) K2 K2] 76)).heap.size := by simp; omega
        have TA : Turn (bn :: (rv.ownBlock.toList ++ dv.ownBlock.toList)) w1 (w5.setCell ⟨bn, 7, none⟩ (.slice (some ⟨q, 0, none⟩) (rs2.length + 1) cap5)) := by
          have a1 : Turn (bn :: (rv.ownBlock.toList ++ dv.ownBlock.toList)) w1 W2 := HT2.out.mono (by simp)
          have a3 := (a1.trans T3 (by simp)).trans T4 (by simp)
          have a4 := a3.trans ht5 (fun x hx => .inl (by
            have := hown2 x (by simpa using hx)
            simp [this]))
          exact a4.setCell (.inl (by simp)) _
        have HO1 : Hid (∀ k, (Value.slice (some ⟨q, 0, none⟩) (rs2.length + 1) cap5).ownBlock = some k → rv.ownBlock = some k ∨ w1.heap.size ≤ k) := fun k hk => by
          obtain rfl : q = k := by simpa [Value.ownBlock] using hk
          rcases hat5 with m | m
          · exact .inl (hown2 q m)
          · exact .inr (by omega)
        have HO2 : Hid (∀ g ∈ gs2 ++ [W2.heap.size], g ∈ gs ∨ w1.heap.size ≤ g) := fun g hg => by
          rcases List.mem_append.1 hg with m | m
          · exact .inl (hgs2 g m)
          · rw [List.mem_singleton.1 m]; exact .inr hsz2
        have HG5 : Hid _ := hG5
        have HTA : Hid _ := TA
        have c7' := hG5.cells.2.2.1
        clear hG5 TA hr5 ht5 hat5 hrow5 y7 y8 hG4 hb4 hN4 c7 hsz4 hsz4' T4 T3 hbr3 HG2 HT2 hown2
        generalize w5.setCell ⟨bn, 7, none⟩ (.slice (some ⟨q, 0, none⟩) (rs2.length + 1) cap5) = w6 at *
        go_wp2_with fail
        refine (refRank_any _ B K2 _ _ _ HG5.out.rl HG5.out.r0 hK2 (by simp; omega)).mono ?_
        rintro e1 w7 ⟨rfl, hb7⟩
        have T7 : Turn [] w6 w7 := Turn.below hb7 (Nat.le_refl _)
        have hG7 := HG5.out.turn T7
        have HG7 : Hid _ := hG7
        have HT7 : Hid _ := HTA.out.trans T7 (by simp)
        have hsz7 : B ≤ w7.heap.size := by have := HTA.out.size; have := T7.size; omega
        have hsz7' : w1.heap.size ≤ w7.heap.size := HT7.out.size
        clear hb7 HG5 HTA T7 c7'
        by_cases hrk : rankL (rs2 ++ [r]) < K2
        · have g5 : decide ((rankL (rs2 ++ [r]) : Int) < (K2 : Int)) = true := by simp; omega
          have HC : Hid _ := HCI.out false dl (.inl ⟨hrk, rfl, rfl⟩)
          clear HCI hG7
          go_wp2_with fail
          go_ret
          exact ⟨false, rfl, ⟨⟨f3, K2, num, _, _, _, dv, dl, by rw [hRR]; exact HC.out, fun j hj => (hf3 j (by omega)).trans (hf2 j hj), HG7.out, HO1.out, fun k hk => .inl hk, HO2.out⟩, HT7.out⟩⟩
        · have g5 : decide ((rankL (rs2 ++ [r]) : Int) < (K2 : Int)) = false := by simp; omega
          have HC : Hid _ := HCI.out true (dl ++ [num]) (.inr ⟨by omega, rfl, rfl⟩)
          obtain ⟨dsl, dcap, rfl⟩ := hG7.dl.shape
          have T8 : Turn [] w7 (w7.alloc (.cells #[.int .i64 num] 3)) := (Turn.refl [] w7).alloc _
          have hG8 := hG7.turn T8
          have hN8 : (w7.alloc (.cells #[.int .i64 num] 3)).cell? ⟨w7.heap.size, 0, none⟩ = some (.int .i64 num) := by rw [cell_of_row _ _ _ _ _ _ (heap_alloc_new w7 _)]; rfl
          have hsz8 : B ≤ (w7.alloc (.cells #[.int .i64 num] 3)).heap.size := by simp; omega
          have hsz8' : w1.heap.size ≤ (w7.alloc (.cells #[.int .i64 num] 3)).heap.size := by simp; omega
          have c8 := hG7.cells.2.2.2
          clear HCI
          go_upto_region 14 with (at_builtin; (refine wpList_nums _ rfl _ _ rfl _ hG8.dl rfl w7.heap.size 1 rfl hN8 (by omega) ?_; intro q9 cap9 w9 hn9 ht9 hat9; have hrow9 := hG8.row.of_block (ht9.block bn hG8.row.lt (fun hm => net_ne hG8.row (by decide) hG8.dl.owns (by simpa using hm))); have y7 : w9.cell? ⟨bn, 8, none⟩ = some (.slice dsl dl.length dcap) := (by rw [hrow9.cell (by omega), hG8.f8]); have y8 := hrow9.frozen 8))
          obtain ⟨f4, hf4, hG9⟩ := hG7.deliver hsz8 T8 hn9 ht9 hat9
          have HG9 : Hid _ := hG9
          have HT9 : Hid (Turn (bn :: (rv.ownBlock.toList ++ (Value.slice dsl dl.length dcap).ownBlock.toList)) w1 (w9.setCell ⟨bn, 8, none⟩ (.slice (some ⟨q9, 0, none⟩) (dl.length + 1) cap9))) := ((HT7.out.trans T8 (by simp)).trans ht9 (fun x hx => .inl (by simp at hx; simp [hx]))).setCell (.inl (by simp)) _
          have HO3 : Hid (∀ k, (Value.slice (some ⟨q9, 0, none⟩) (dl.length + 1) cap9).ownBlock = some k → (Value.slice dsl dl.length dcap).ownBlock = some k ∨ w1.heap.size ≤ k) := fun k hk => by
            obtain rfl : q9 = k := by simpa [Value.ownBlock] using hk
            rcases hat9 with m | m
            · exact .inl m
            · exact .inr (by omega)
          clear hG9 hn9 ht9 hat9 hrow9 y7 y8 hG8 hN8 hG7 T8
          go_wp2_with fail
          go_ret
          exact ⟨true, rfl, ⟨⟨f4, K2, num, _, _, _, _, _, by rw [hRR]; exact HC.out, fun j hj => (hf4 j (by omega)).trans ((hf3 j (by omega)).trans (hf2 j hj)), HG9.out, HO1.out, HO3.out, HO2.out⟩, HT9.out⟩⟩
end Go.Proofs.YtafipndlfkklfaaDoor


namespace Go.Proofs.YtafipndlfkklfaaDoor
open Go.RowKit Go.MuLone

theorem frame_lost {V : RV} {num row : Nat} {data : ByteArray} (hv : RVOk V) (hdl : V.dlv num = false) (hlt : num < V.num) (h1 : 1 ≤ num) (h5 : num ≤ 500) (hd : data.size ≤ 32 * V.blk) (hr0 : row ≠ 0) (hr : row < 2 ^ blocksOf data.size V.blk) :
    V.handle (fText num V.blk row data) = (V, none) := by
  have hb1 := hv.b1
  have hb2 := hv.b2
  have hK := blocksOf_le data.size V.blk hb1 hd
  have hr32 := Rx.lt32 hK hr
  have hrd : readS (fText num V.blk row data) V.blk = some (num, data.size, row, sumRow data V.blk row) := by
    have := readS_text (x1 := num) (x2 := data.size) (x3 := row) (ns := sumRow data V.blk row) (by omega) (by omega) hr32
    rw [sumRow_len] at this
    exact this
  have hc : canB num data.size row V.blk = true := canB_iff.2 ⟨h1, h5, hK, hr0, hr⟩
  have hf : V.first num data.size = V := by unfold RV.first; rw [if_neg (by omega)]
  have hgo : V.gone num data.size row (sumRow data V.blk row) = V := by
    unfold RV.gone RV.gather
    rw [if_neg (by rw [hdl]; exact Bool.false_ne_true), hf, if_pos (.inl hlt)]
  unfold RV.handle
  rw [hrd]
  simp only
  rw [if_pos hc, hgo, if_neg (by rw [hdl]; exact Bool.false_ne_true)]

/-- The program's receiver against the document's. -/
structure GetIs (V : RV) (blk : Nat) (ds : List ByteArray) (last K : Nat) (rs dl : List Nat) : Prop where
  eblk : V.blk = blk
  num : V.num = last
  bks : V.bks = K
  rnk : V.rnk = rankL rs
  le : last ≤ ds.length
  dlv : ∀ n, V.dlv n = true ↔ n ∈ dl
  dle : ∀ n ∈ dl, 1 ≤ n ∧ n ≤ last
  len : dl.length ≤ last ∧ (1 ≤ last → last ∉ dl → dl.length + 1 ≤ last)
  dat : ∀ n, last = n + 1 → ∃ d, ds[n]? = some d ∧ K = blocksOf d.size blk ∧ (n + 1 ∉ dl → Track V (n + 1) d ∧ SetIs blk K V.set rs)
theorem GetIs.start (blk : Nat) : GetIs (RV.fresh blk) blk [] 0 0 [] [] :=
  ⟨rfl, rfl, rfl, by rw [rankL]; rfl, Nat.le_refl _, fun n => by simp [RV.fresh], by simp, ⟨Nat.le_refl _, fun h => by omega⟩, fun n hn => by omega⟩
theorem GetIs.more {V : RV} {blk : Nat} {ds : List ByteArray} {last K : Nat} {rs dl : List Nat} (h : GetIs V blk ds last K rs dl) (d : ByteArray) : GetIs V blk (ds ++ [d]) last K rs dl :=
  ⟨h.eblk, h.num, h.bks, h.rnk, by have := h.le; simp; omega, h.dlv, h.dle, h.len, fun n hn => by
    obtain ⟨x, hx, q⟩ := h.dat n hn
    exact ⟨x, by rw [List.getElem?_append_left (List.getElem?_eq_some_iff.1 hx).1]; exact hx, q⟩⟩
theorem GetIs.take {V : RV} {blk : Nat} {ds : List ByteArray} {last K : Nat} {rs dl : List Nat} (h : GetIs V blk ds last K rs dl) (l : Parcels) : GetIs { V with ready := l } blk ds last K rs dl :=
  ⟨h.eblk, h.num, h.bks, h.rnk, h.le, h.dlv, h.dle, h.len, fun n hn => by
    obtain ⟨x, hx, q1, q2⟩ := h.dat n hn
    exact ⟨x, hx, q1, fun hnd => ⟨⟨(q2 hnd).1.und, (q2 hnd).1.at_⟩, (q2 hnd).2⟩⟩⟩

/-- A frame comes at both. -/
theorem GetIs.came {V : RV} {blk : Nat} {ds : List ByteArray} {last K n r : Nat} {rs dl : List Nat} {d : ByteArray} {b : Bool} {last' K' : Nat} {rs' dl' : List Nat} (h : GetIs V blk ds last K rs dl) (hv : RVOk V) (hn : ds[n]? = some d) (h5 : ds.length ≤ 500) (hd : d.size ≤ 32 * blk) (hr0 : r ≠ 0) (hr : r < 2 ^ blocksOf d.size blk)
    (hc : CameIs (n + 1) (blocksOf d.size blk) r last K rs dl b last' K' rs' dl') :
    ∃ V2, V.handle (fText (n + 1) blk r d) = (V2, if b then some (doneB (n + 1) blk) else none) ∧ GetIs V2 blk ds last' K' rs' dl' ∧ ((dl' = dl ∧ V2.ready = V.ready) ∨ (dl' = dl ++ [n + 1] ∧ V2.ready = V.ready ++ [(d, n + 1)])) := by
  obtain ⟨hb, hnum, hbks, hrnk, hle, hdlv, hdle, hlen, hdat⟩ := h
  subst hb
  have hlt := (List.getElem?_eq_some_iff.1 hn).1
  have hK1 := blocksOf_pos d.size V.blk
  have hK2 := blocksOf_le d.size V.blk hv.b1 hd
  have h0 : GetIs V V.blk ds last K rs dl := ⟨rfl, hnum, hbks, hrnk, hle, hdlv, hdle, hlen, hdat⟩
  have step : n + 1 ∉ dl → last ≤ n + 1 → ∃ V2, Stepped V V2 (n + 1) r d ∧ V.handle (fText (n + 1) V.blk r d) = (if V2.srk = V2.bks then (V2.deliver, some (doneB (n + 1) V.blk)) else (V2, none)) ∧ SetIs V.blk (blocksOf d.size V.blk) V2.set ((if last < n + 1 then [] else rs) ++ [r]) ∧ V2.srk = rankL ((if last < n + 1 then [] else rs) ++ [r]) := fun hnd hl => by
    have hdf : V.dlv (n + 1) = false := by
      cases hq : V.dlv (n + 1)
      · rfl
      · exact absurd ((hdlv _).1 hq) hnd
    have htr : Track V (n + 1) d ∧ SetIs V.blk (blocksOf d.size V.blk) (V.sofar (n + 1)) (if last < n + 1 then [] else rs) := by
      by_cases hlt2 : last < n + 1
      · rw [if_pos hlt2]
        refine ⟨⟨hdf, .inl (by omega)⟩, ?_⟩
        unfold RV.sofar
        rw [if_pos (by omega)]
        exact SetIs.nil _ _
      · rw [if_neg hlt2]
        obtain ⟨x, hx, q1, q2⟩ := hdat n (by omega)
        rw [hn] at hx
        obtain rfl : d = x := by simpa using hx
        obtain ⟨t1, t2⟩ := q2 hnd
        refine ⟨t1, ?_⟩
        unfold RV.sofar
        rw [if_neg (by omega), ← q1]
        exact t2
    obtain ⟨V2, hs, hh⟩ := frame_step hv htr.1 (by omega) (by omega) hd hr0 hr
    have hset := htr.2.add hK2 hr (sumRow_len d V.blk r) (sumRow_lt d V.blk r)
    rw [← hs.set] at hset
    refine ⟨V2, hs, hh, hset, ?_⟩
    rw [hs.ok.cnt, hs.bks]
    exact hset.rank hK2
  cases hc with
  | had hm =>
    rw [frame_late hv ((hdlv _).2 hm) (by omega) (by omega) hd hr0 hr]
    exact ⟨V, rfl, h0, .inl ⟨rfl, rfl⟩⟩
  | past hnd hl =>
    have hdf : V.dlv (n + 1) = false := by
      cases hq : V.dlv (n + 1)
      · rfl
      · exact absurd ((hdlv _).1 hq) hnd
    rw [frame_lost hv hdf (by omega) (by omega) (by omega) hd hr0 hr]
    exact ⟨V, rfl, h0, .inl ⟨rfl, rfl⟩⟩
  | some_ hnd hl hrk =>
    obtain ⟨V2, hs, hh, hset, hsr⟩ := step hnd hl
    rw [hh, if_neg (by rw [hsr, hs.bks]; omega)]
    refine ⟨V2, rfl, ⟨hs.blk, hs.snum, hs.bks, by rw [hs.rnk, hsr], by omega, fun m => by rw [hs.dlv]; exact hdlv m, fun m hm => by have := hdle m hm; omega, ?_, fun m hm => ?_⟩, .inl ⟨rfl, hs.ready⟩⟩
    · refine ⟨by omega, fun _ _ => ?_⟩
      by_cases e : last = n + 1
      · have := hlen.2 (by omega) (by rw [e]; exact hnd); omega
      · omega
    obtain rfl : n = m := by omega
    refine ⟨d, hn, rfl, fun _ => ⟨?_, hset⟩⟩
    have hdf : V2.dlv (n + 1) = false := by
      rw [hs.dlv]
      cases hq : V.dlv (n + 1)
      · rfl
      · exact absurd ((hdlv _).1 hq) hnd
    exact ⟨hdf, .inr ⟨hs.snum, hs.len, by rw [hs.blk]; exact hs.bks, by rw [hs.blk]; exact hs.good, hs.rnk⟩⟩
  | all hnd hl hrk =>
    obtain ⟨V2, hs, hh, hset, hsr⟩ := step hnd hl
    have hfl : V2.srk = V2.bks := by
      have h1 : V2.srk ≤ V2.bks := by rw [hs.ok.cnt]; exact Rx.cntR_le _ _
      have h2 : V2.bks ≤ V2.srk := by rw [hsr, hs.bks]; exact hrk
      omega
    rw [hh, if_pos hfl]
    have hdd : ∀ m, V2.deliver.dlv m = true ↔ m = n + 1 ∨ V.dlv m = true := fun m => by
      show (if m = V2.num then true else V2.dlv m) = true ↔ _
      rw [hs.snum, hs.dlv]
      by_cases e : m = n + 1 <;> simp [e]
    refine ⟨V2.deliver, rfl, ⟨hs.blk, hs.snum, hs.bks, ?_, by omega, fun m => ?_, fun m hm => ?_, ?_, fun m hm => ?_⟩, .inr ⟨rfl, hs.data hfl⟩⟩
    · show V2.rnk = _
      rw [hs.rnk, hsr]
    · rw [hdd, hdlv, List.mem_append, List.mem_singleton]
      exact ⟨Or.symm, Or.symm⟩
    · rcases List.mem_append.1 hm with q | q
      · have := hdle m q; omega
      · rw [List.mem_singleton.1 q]; omega
    · refine ⟨?_, fun _ hq => absurd (by simp) hq⟩
      rw [List.length_append, List.length_singleton]
      by_cases e : last = n + 1
      · have := hlen.2 (by omega) (by rw [e]; exact hnd); omega
      · omega
    · obtain rfl : n = m := by omega
      exact ⟨d, hn, rfl, fun hq => absurd (by simp) hq⟩

end Go.Proofs.YtafipndlfkklfaaDoor


namespace Go.Proofs.YtafipndlfkklfaaDoor
open Go.RowKit

set_option maxRecDepth 100000 in
set_option maxHeartbeats 1000000 in
theorem refTold_no (bn : Nat) (num : Int) (sl : Option Addr) (n cap : Nat) (l : List Thing) (w : World) (hc : w.cell? ⟨bn, 4, none⟩ = some (.slice sl n cap)) (h : Things w 158 sl n cap l) (hn : n ≤ 500)
    (hb : -1 ≤ findI l 2 ∧ findI l 2 ≤ 500) (hno : findI l 2 = -1 ∨ findI l 2 + 1 ≠ num) :
    Calls Tryd.prog 108 #[.pointer (some ⟨bn, 2, none⟩), .int .i64 num] w fun e w' => e = .returned (.tuple #[]) ∧ w' = w := by
  obtain ⟨J, hJ⟩ : ∃ J, J = findI l 2 := ⟨_, rfl⟩
  rw [← hJ] at hb hno
  have HJ : Hid _ := hJ
  clear hJ
  go_enter Tryd.func108, Tryd.ntmps108
  go_wp2_with fail
  refine (find_any bn 2 _ n cap l _ hc h (by omega)).mono ?_
  rintro e w1 ⟨rfl, rfl⟩
  rw [← HJ.out]
  by_cases h0 : J = -1
  · subst h0
    go_wp2_with fail
    exact bodyPost_end (results_none rfl _ _ _) rfl ⟨rfl, rfl⟩
  · have q0 : decide ((0 : Int) ≤ J) = true := by simp; omega
    have q1 : (J + 1 == num) = false := by simp; rcases hno with e | e <;> omega
    go_wp2_with fail
    exact bodyPost_end (results_none rfl _ _ _) rfl ⟨rfl, rfl⟩

set_option maxRecDepth 100000 in
set_option maxHeartbeats 1000000 in
theorem refTold_yes (bn : Nat) (num : Int) (sl : Option Addr) (n cap k : Nat) (l : List Thing) (o : Thing) (w : World) (hc : w.cell? ⟨bn, 4, none⟩ = some (.slice sl n cap)) (h : Things w 158 sl n cap l) (hn : n ≤ 500)
    (hk : k < n) (ho : l[k]? = some o) (hfind : findI l 2 = (k : Int)) (hnum : (k : Int) + 1 = num) (hne : (Value.slice sl n cap).ownBlock ≠ some bn) :
    Calls Tryd.prog 108 #[.pointer (some ⟨bn, 2, none⟩), .int .i64 num] w fun e w' => e = .returned (.tuple #[]) ∧ Turn (Value.slice sl n cap).ownBlock.toList w w' ∧ Things w' 158 sl n cap (l.set k { o with st := 3 }) := by
  obtain ⟨g, o', hsl, ho', c0, c1, c2, c3, hfz⟩ := h.at hk
  obtain rfl : o' = o := by rw [ho] at ho'; simpa using ho'.symm
  have HK : Hid (sl = some ⟨g, 0, none⟩) := hsl
  subst hsl
  subst hnum
  have hgb : g ≠ bn := fun e => hne (by rw [e]; rfl)
  have hgb' : bn ≠ g := fun e => hgb e.symm
  have H1 := Things.set (o' := { o' with st := 3 }) (u := .int .i64 3) h rfl ho 2 (by omega) rfl
  have T2 : Turn [g] w (w.setCell ⟨g, k * 4 + 2, none⟩ (.int .i64 3)) := (Turn.refl [g] w).setCell (.inl (by simp)) _
  have hk0 : (0 : Int) ≤ (k : Int) := by omega
  have hk1 : (k : Int) < (n : Int) := by omega
  have HH1 : Hid _ := H1
  have HT2 : Hid _ := T2
  have hff := hfz (k * 4 + 2)
  have F2 : Hid (findI l 2 = (k : Int)) := hfind
  clear H1 T2 hfz ho ho' HK hfind
  go_enter Tryd.func108, Tryd.ntmps108
  go_wp2_with fail
  refine (find_any bn 2 _ n cap l _ hc h (by omega)).mono ?_
  rintro e w1 ⟨rfl, rfl⟩
  rw [F2.out]
  go_wp2_with fail
  exact bodyPost_end (results_none rfl _ _ _) rfl ⟨rfl, HT2.out, HH1.out⟩
end Go.Proofs.YtafipndlfkklfaaDoor


namespace Go.Proofs.YtafipndlfkklfaaDoor
open Go.RowKit Go.MuLone

/-- Two lists of different kinds lie apart. -/
theorem own_ne {w : World} {e e' : TypeId} (he : e ≠ e') {s s' n n' : Nat} {xs xs' : List Value} {v v' : Value} (h : w.ownsRow 0 e s v n xs) (h' : w.ownsRow 0 e' s' v' n' xs') : ∀ k, v.ownBlock = some k → v'.ownBlock ≠ some k := fun k hk hk' => by
  rcases h.2 with ⟨rfl, _⟩ | ⟨o, cap, cur, rfl, _, hcur, _⟩
  · simp [Value.ownBlock] at hk
  · rcases h'.2 with ⟨rfl, _⟩ | ⟨o', cap', cur', rfl, _, hcur', _⟩
    · simp [Value.ownBlock] at hk'
    · obtain rfl : o = k := by simpa [Value.ownBlock] using hk
      obtain rfl : o' = o := by simpa [Value.ownBlock] using hk'
      rw [hcur] at hcur'
      simp at hcur'
      exact he hcur'.2
theorem cells_ne {w : World} {e T : TypeId} (he : e ≠ T) {b s n : Nat} {c : Array Value} {fr : Nat × Nat} {xs : List Value} {v : Value} (hb : w.heap[b]? = some (.cells c T fr)) (h : w.ownsRow 0 e s v n xs) : v.ownBlock ≠ some b := fun hk => by
  rcases h.2 with ⟨rfl, _⟩ | ⟨o, cap, cur, rfl, _, hcur, _⟩
  · simp [Value.ownBlock] at hk
  · obtain rfl : o = b := by simpa [Value.ownBlock] using hk
    rw [hb] at hcur
    simp at hcur
    exact he hcur.2.1.symm

/-- The state of a network with both ends, told plainly. -/
structure NetA where
  bn : Nat
  bs : Nat
  br : Nat
  blk : Nat
  bud : Nat
  F : List Nat
  S : SV
  V : RV
  os : List Thing
  rsl : Option Addr
  rcap : Nat
  last : Nat
  K : Nat
  gv : Value
  gs : List Nat
  rs : List Nat
  dv : Value
  dl : List Nat
  taken : Nat
  wsl : Option Addr
  wn : Nat
  wcap : Nat
  wx : List Value
  hsl : Option Addr
  hm : Nat
  hcap : Nat
  hs : List Value

namespace NetA
def X (N : NetA) : Mid := ⟨.pointer (some ⟨N.br, 0, none⟩), .int .i64 N.last, .int .i64 N.K, N.gv, N.dv, .int .i64 N.taken⟩
def rv (N : NetA) : Value := .slice N.rsl N.os.length N.rcap
def wv (N : NetA) : Value := .slice N.wsl N.wn N.wcap
def hv (N : NetA) : Value := .slice N.hsl N.hm N.hcap
def ds (N : NetA) : List ByteArray := N.os.map (·.data)
/-- The law's own blocks that may be written. -/
def lows (N : NetA) : List Nat := N.bn :: (N.rv.ownBlock.toList ++ N.wv.ownBlock.toList ++ N.hv.ownBlock.toList ++ N.gv.ownBlock.toList ++ N.dv.ownBlock.toList)
/-- Those that are only read. -/
def ros (N : NetA) : List Nat := N.hs.filterMap Value.ownBlock ++ N.gs
def blocks (N : NetA) : List Nat := N.lows ++ N.F
end NetA

/-- A frame on its way is one that was sent. -/
def PostOk (N : NetA) (b : Bool) (s : ByteArray) (n d : Int) : Prop :=
  ∃ k : Nat, n = (k : Int) + 1 ∧ (b = true → k < 500 ∧ k + 1 ∈ N.dl ∧ bytesOf s = doneB (k + 1) N.blk) ∧
    (b = false → ∃ (i : Nat) (o : Thing), d = (i : Int) ∧ i < 1048576 ∧ N.os[k]? = some o ∧ bytesOf s = fText (k + 1) N.blk (Dz.rowOf o.nonce (blocksOf o.data.size N.blk) i) o.data)

/-- .. in memory. -/
structure InvM (w : World) (N : NetA) : Prop where
  hold : HoldAt w N.bn N.bs N.X N.blk N.bud N.rv N.wv N.hsl N.hm N.hcap N.hs
  way : WayAt w N.bn N.wsl N.wn N.wcap N.wx
  net : Net w N.bs N.br N.F N.S N.V
  rth : Things w 158 N.rsl N.os.length N.rcap N.os
  rl : RL w 0 N.gv N.K N.gs N.rs
  r0 : N.rs = [] → N.gv = .slice none 0 0
  nl : NL w N.dv N.dl
  lists : ∀ i (hi : i < N.hs.length), HeldList w (markOf (i / 4)) N.hs[i]
  low : ∀ k ∈ N.lows, k ∉ N.F
  ro : ∀ k ∈ N.ros, k ∉ N.F
  pos : 0 ∉ N.lows
/-- .. in numbers. -/
structure InvL (N : NetA) : Prop where
  sblk : N.S.blk = N.blk
  sbud : N.S.bud = N.bud
  shape : Shape N.blk N.bud N.S.en N.os N.S.l
  get : GetIs N.V N.blk N.ds N.last N.K N.rs N.dl
  odat : ∀ (i : Nat) (o : Thing), N.os[i]? = some o → o.data.size ≤ 32 * N.blk
  tk : N.taken ≤ N.dl.length
  ready : N.V.ready.length + N.taken = N.dl.length ∧ ∀ (i n : Nat) (o : Thing), N.dl[N.taken + i]? = some (n + 1) → N.os[n]? = some o → N.V.ready[i]? = some (o.data, n + 1)
  posts : ∀ i, i < N.wn → ∃ b s n d, N.wx[i * 4]? = some (.bool b) ∧ N.wx[i * 4 + 1]? = some (.string s) ∧ N.wx[i * 4 + 2]? = some (.int .i64 n) ∧ N.wx[i * 4 + 3]? = some (.int .i64 d) ∧ PostOk N b s n d
  blk1 : 1 ≤ N.blk
  blk2 : N.blk ≤ 32
  bud1 : 1 ≤ N.bud
  bud2 : N.bud ≤ 1000
  four : ∃ q, N.hm = 4 * q
  nrs : 4 * N.rs.length ≤ N.hm
structure InvA (w : World) (N : NetA) : Prop where
  m : InvM w N
  l : InvL N

theorem InvM.lt {w : World} {N : NetA} (h : InvM w N) : ∀ k ∈ N.lows, k < w.heap.size := fun k hk => by
  simp only [NetA.lows, List.mem_cons, List.mem_append, Option.mem_toList] at hk
  rcases hk with r | ((((r | r) | r) | r) | r)
  · rw [r]; exact lt_of_heap h.hold.net
  · exact owns_lt h.rth.owns r
  · exact owns_lt h.way.owns r
  · exact owns_lt h.hold.owns r
  · exact owns_lt h.rl.owns r
  · exact owns_lt h.nl.owns r
theorem InvM.ro_lt {w : World} {N : NetA} (h : InvM w N) : ∀ k ∈ N.ros, k < w.heap.size := fun k hk => by
  rcases List.mem_append.1 hk with q | q
  · obtain ⟨v, hv, hk⟩ := List.mem_filterMap.1 q
    obtain ⟨i, hi, rfl⟩ := List.mem_iff_getElem.1 hv
    obtain ⟨sl, n, cap, e, _, ho⟩ := h.lists i hi
    rw [e] at hk
    rw [e] at ho
    exact owns_lt ho hk
  · obtain ⟨i, hi⟩ := List.getElem?_of_mem q
    have hlt := (List.getElem?_eq_some_iff.1 hi).1
    obtain ⟨r, hr⟩ : ∃ r, N.rs[i]? = some r := ⟨_, List.getElem?_eq_getElem (by rw [← h.rl.len]; exact hlt)⟩
    exact World.rowIs.lt (h.rl.at_ i k r hi hr)

/-- The two ends do something: what the law holds stays. -/
theorem InvM.law {Z : List Nat} {w w' : World} {N : NetA} (h : InvM w N) (ht : Turn Z w w') (h1 : ∀ k ∈ N.lows, k ∉ Z) (h2 : ∀ k ∈ N.ros, k ∉ Z) :
    HoldAt w' N.bn N.bs N.X N.blk N.bud N.rv N.wv N.hsl N.hm N.hcap N.hs ∧ WayAt w' N.bn N.wsl N.wn N.wcap N.wx ∧ Things w' 158 N.rsl N.os.length N.rcap N.os ∧ RL w' 0 N.gv N.K N.gs N.rs ∧ NL w' N.dv N.dl ∧ (∀ i (hi : i < N.hs.length), HeldList w' (markOf (i / 4)) N.hs[i]) := by
  have m : ∀ (v : Value) (k : Nat), v ∈ [N.rv, N.wv, N.hv, N.gv, N.dv] → v.ownBlock = some k → k ∉ Z := fun v k hv hk => h1 k (by
    simp only [NetA.lows, List.mem_cons, List.mem_append, Option.mem_toList]
    simp at hv
    rcases hv with rfl | rfl | rfl | rfl | rfl <;> simp [hk])
  refine ⟨h.hold.turn ht (h1 _ (by simp [NetA.lows])) (fun k hk => m N.hv k (by simp) hk), h.way.turn ht (fun k hk => m N.wv k (by simp) hk), h.rth.turn ht (fun k hk => m N.rv k (by simp) hk), h.rl.turn ht (fun k hk => m N.gv k (by simp) hk) (fun g hg => h2 g (List.mem_append_right _ hg)), h.nl.turn ht (fun k hk => m N.dv k (by simp) hk), fun i hi => (h.lists i hi).turn ht (fun k hk => h2 k (List.mem_append_left _ (List.mem_filterMap.2 ⟨_, List.getElem_mem hi, hk⟩)))⟩

end Go.Proofs.YtafipndlfkklfaaDoor


namespace Go.Proofs.YtafipndlfkklfaaDoor
open Go.RowKit Go.MuLone

/-- What a step on a network does. -/
structure StpA (w : World) (N : NetA) (w' : World) (N' : NetA) : Prop where
  inv : InvA w' N'
  turn : Turn N.blocks w w'
  bn : N'.bn = N.bn
  blocks : ∀ k ∈ N'.blocks, k ∈ N.blocks ∨ w.heap.size ≤ k
  ros : ∀ k ∈ N'.ros, k ∈ N.ros ∨ w.heap.size ≤ k
  hm : N'.hm ≤ N.hm + 4
  wn : N'.wn ≤ N.wn + 1

/-- The two ends have done something. -/
theorem InvM.ends {w w' : World} {N : NetA} {F' : List Nat} {S' : SV} {V' : RV} (h : InvM w N) (ha : NAft w w' N.bs N.br N.F F' S' V') : InvM w' { N with F := F', S := S', V := V' } := by
  obtain ⟨q1, q2, q3, q4, q5, q6⟩ := h.law ha.turn h.low h.ro
  refine ⟨q1, q2, ha.net, q3, q4, h.r0, q5, q6, fun k hk hm => ?_, fun k hk hm => ?_, h.pos⟩
  · rcases ha.foot k hm with q | q
    · exact h.low k hk q
    · have := h.lt k hk; omega
  · rcases ha.foot k hm with q | q
    · exact h.ro k hk q
    · have := h.ro_lt k hk; omega
theorem foot_blocks {w w' : World} {N : NetA} {F' : List Nat} {S' : SV} {V' : RV} (ha : NAft w w' N.bs N.br N.F F' S' V') : ∀ k ∈ N.lows ++ F', k ∈ N.blocks ∨ w.heap.size ≤ k := fun k hk => by
  rcases List.mem_append.1 hk with q | q
  · exact .inl (List.mem_append_left _ q)
  · rcases ha.foot k q with q | q
    · exact .inl (List.mem_append_right _ q)
    · exact .inr q
theorem InvA.ends {w w' : World} {N : NetA} {F' : List Nat} {S' : SV} {V' : RV} (h : InvA w N) (ha : NAft w w' N.bs N.br N.F F' S' V') (hl : InvL { N with F := F', S := S', V := V' }) : StpA w N w' { N with F := F', S := S', V := V' } :=
  ⟨⟨h.m.ends ha, hl⟩, ha.turn.mono (fun x hx => List.mem_append_right _ hx), rfl, foot_blocks ha, fun k hk => .inl hk, by show N.hm ≤ _; omega, by show N.wn ≤ _; omega⟩
/-- .. but nothing has come of it. -/
theorem InvA.same {w w' : World} {N : NetA} {F' : List Nat} (h : InvA w N) (ha : NAft w w' N.bs N.br N.F F' N.S N.V) : StpA w N w' { N with F := F' } := h.ends ha ⟨h.l.sblk, h.l.sbud, h.l.shape, h.l.get, h.l.odat, h.l.tk, h.l.ready, h.l.posts, h.l.blk1, h.l.blk2, h.l.bud1, h.l.bud2, h.l.four, h.l.nrs⟩

theorem InvM.cells {w : World} {N : NetA} (h : InvM w N) : w.cell? ⟨N.bn, 0, none⟩ = some (.pointer (some ⟨N.bs, 0, none⟩)) ∧ w.cell? ⟨N.bn, 1, none⟩ = some (.pointer (some ⟨N.br, 0, none⟩)) :=
  ⟨by rw [cell_of_row _ _ _ _ _ _ h.hold.net]; rfl, by rw [cell_of_row _ _ _ _ _ _ h.hold.net]; rfl⟩

set_option maxRecDepth 100000 in
set_option maxHeartbeats 800000 in
theorem nothing_up (N : NetA) (s : ByteArray) (w : World) (h : InvA w N) (hS : N.S.handle (bytesOf s) = N.S) :
    Calls Tryd.prog 66 #[.pointer (some ⟨N.bn, 0, none⟩), .bool true, .string s] w fun e w' => e = .returned (.bool true) ∧ ∃ N', StpA w N w' N' := by
  obtain ⟨c0, c1⟩ := h.m.cells
  have HI : Hid _ := h
  clear h
  go_enter Tryd.func66, Tryd.ntmps66
  go_wp2_with fail
  refine (nSHandle s HI.out.m.net).mono ?_
  rintro e1 w1 ⟨rfl, F1, ha⟩
  rw [hS] at ha
  have HS : Hid _ := HI.out.same ha
  clear ha
  go_wp2_with fail
  go_ret
  exact ⟨rfl, _, HS.out⟩

set_option maxRecDepth 100000 in
set_option maxHeartbeats 800000 in
theorem nothing_down (N : NetA) (s : ByteArray) (w : World) (h : InvA w N) (hm : s.size ≤ 4611686018427387904) (hV : N.V.handle (bytesOf s) = (N.V, none)) :
    Calls Tryd.prog 66 #[.pointer (some ⟨N.bn, 0, none⟩), .bool false, .string s] w fun e w' => e = .returned (.bool true) ∧ ∃ N', StpA w N w' N' := by
  obtain ⟨c0, c1⟩ := h.m.cells
  have HI : Hid _ := h
  clear h
  go_enter Tryd.func66, Tryd.ntmps66
  go_wp2_with fail
  refine (nHandle s HI.out.m.net hm).mono ?_
  rintro e1 w1 ⟨F1, ha, hans⟩
  rw [hV] at ha hans
  obtain rfl := hans.none_ rfl
  have HS : Hid _ := HI.out.same ha
  clear ha hans
  go_wp2_with fail
  go_ret
  exact ⟨rfl, _, HS.out⟩

/-- What is too short or too long is no frame. -/
theorem short_sender {S : SV} {bs : List Nat} (h : bs.length ≠ 8) : S.handle bs = S := by
  unfold SV.handle
  cases S.l[S.en]? with
  | none => rfl
  | some o =>
    simp only
    rw [if_neg (fun q => h (by rw [q.2, doneB_len]))]
theorem short_receiver {V : RV} {bs : List Nat} (h : bs.length ≠ V.blk + 13) (hb : ∀ b ∈ bs, b < 256) : V.handle bs = (V, none) := by
  unfold RV.handle
  cases hr : readS bs V.blk with
  | none => rfl
  | some x =>
    obtain ⟨x1, x2, x3, ns⟩ := x
    exact absurd (readS_facts hb hr).1 h
/-- A frame that comes back to the side that sent it. -/
theorem cross_up {S : SV} {num blk row : Nat} {d : ByteArray} (hb : 1 ≤ blk) : S.handle (fText num blk row d) = S := short_sender (by rw [fText, sumText_len, sumRow_len]; omega)
theorem cross_down {V : RV} {num : Nat} (hv : RVOk V) : V.handle (doneB num V.blk) = (V, none) := short_receiver (by rw [doneB_len]; have := hv.b1; omega) (doneB_lt _ _)

end Go.Proofs.YtafipndlfkklfaaDoor
