import Derived.Test.YtfbbidaoljfloaaDoorJ30
import Derived.Test.YtfbbidaoljfloaaDoorK4
import Derived.Deep.CutBlock
namespace Go.Proofs.YtfbbidaoljfloaaDoor
open Go.RowKit Go.MuLone

theorem infoBs : (Tryd.prog.info? 76).map (fun i => (i.zero, i.size, i.bytes)) = some (some (.slice none 0 0), 1, 24) := by kernel_rfl

/-- A list of rows: where they lie, what they are. -/
structure RL (w : World) (B : Nat) (v : Value) (K : Nat) (gs rs : List Nat) : Prop where
  owns : w.ownsRow 0 76 1 v gs.length (gs.map (fun g => rowV g K))
  len : gs.length = rs.length
  at_ : ∀ (i g r : Nat), gs[i]? = some g → rs[i]? = some r → BR w g K r
  lt : ∀ r ∈ rs, r < 2 ^ K
  out : ∀ k, v.ownBlock = some k → B ≤ k
theorem RL.nil (w : World) (B K : Nat) : RL w B (.slice none 0 0) K [] [] := ⟨World.ownsRow_nil _ _ _ _, rfl, fun i g r h => by simp at h, by simp, fun k hk => by simp [Value.ownBlock] at hk⟩
theorem RL.shape {w : World} {B : Nat} {v : Value} {K : Nat} {gs rs : List Nat} (h : RL w B v K gs rs) : ∃ sl cap, v = .slice sl rs.length cap ∧ rs.length ≤ cap := by
  rcases h.owns.2 with ⟨rfl, e⟩ | ⟨g, cap, cur, rfl, _, _, hn, _⟩
  · exact ⟨none, 0, by rw [← h.len, e], by rw [← h.len]; omega⟩
  · exact ⟨_, cap, by rw [h.len], by rw [← h.len]; exact hn⟩
theorem RL.get {w : World} {B : Nat} {v : Value} {K : Nat} {gs rs : List Nat} (h : RL w B v K gs rs) {i r : Nat} (hi : rs[i]? = some r) : ∃ o cap g, v = .slice (some ⟨o, 0, none⟩) rs.length cap ∧ w.cell? ⟨o, i, none⟩ = some (rowV g K) ∧ BR w g K r ∧ o < w.heap.size ∧ gs[i]? = some g := by
  have hlt := (List.getElem?_eq_some_iff.1 hi).1
  obtain ⟨g, hg⟩ : ∃ g, gs[i]? = some g := ⟨_, List.getElem?_eq_getElem (by rw [h.len]; exact hlt)⟩
  rcases h.owns.2 with ⟨_, e⟩ | ⟨o, cap, cur, rfl, _, _, hn, _⟩
  · rw [h.len] at e; omega
  · exact ⟨o, cap, g, by rw [h.len], owns_cell h.owns rfl (by simp [hg]), h.at_ i g r hg hi, owns_lt h.owns rfl, hg⟩
/-- The block of a row is not the block of a list. -/
theorem BR.ne {w : World} {g K r : Nat} (h : BR w g K r) {v : Value} {n : Nat} {xs : List Value} (ho : w.ownsRow 0 76 1 v n xs) : v.ownBlock ≠ some g := by
  intro e
  obtain ⟨c, hc, _⟩ := h
  rcases ho.2 with ⟨rfl, _⟩ | ⟨o, cap, cur, rfl, _, hcur, _⟩
  · simp [Value.ownBlock] at e
  · obtain rfl : o = g := by simpa [Value.ownBlock] using e
    rw [hc] at hcur
    simp at hcur
theorem RL.turn {Z : List Nat} {w w' : World} {B : Nat} {v : Value} {K : Nat} {gs rs : List Nat} (h : RL w B v K gs rs) (ht : Turn Z w w') (hz : ∀ k, v.ownBlock = some k → k ∉ Z) (hg : ∀ g ∈ gs, g ∉ Z) : RL w' B v K gs rs :=
  ⟨ht.owns h.owns hz, h.len, fun i g r q1 q2 => (h.at_ i g r q1 q2).turn ht (hg g (List.mem_of_getElem? q1)), h.lt, h.out⟩
theorem RL.ne {w : World} {B : Nat} {v : Value} {K : Nat} {gs rs : List Nat} (h : RL w B v K gs rs) {u : Value} {n : Nat} {xs : List Value} (ho : w.ownsRow 0 76 1 u n xs) : ∀ g ∈ gs, u.ownBlock ≠ some g := fun g hg => by
  obtain ⟨i, hi⟩ := List.getElem?_of_mem hg
  have hlt := (List.getElem?_eq_some_iff.1 hi).1
  obtain ⟨r, hr⟩ : ∃ r, rs[i]? = some r := ⟨_, List.getElem?_eq_getElem (by rw [← h.len]; exact hlt)⟩
  exact (h.at_ i g r hi hr).ne ho

section
variable {ops : Array Oper} {rest : List Oper} {o : Oper} {a : Act} {Q : Exit → Act → World → Prop}
/-- One row more in the list. -/
theorem wpList_rows (w : World) (hgd : o.guard = none) (s x : Operand) (ho : o.op = .call { callee := .builtin .append, args := #[s, x], argTypes := #[146, 146] })
    {B K : Nat} (v : Value) {gs rs : List Nat} (h : RL w B v K gs rs) (hs : a.eval s = v) (G c : Nat) (hx : a.eval x = .slice (some ⟨G, 0, none⟩) 1 c) {g r : Nat} (hG : w.cell? ⟨G, 0, none⟩ = some (rowV g K)) (hg : BR w g K r) (hr : r < 2 ^ K) (hl : rs.length ≤ 4398046511104) (hB : B ≤ w.heap.size)
    (k : ∀ q cap w', RL w' B (.slice (some ⟨q, 0, none⟩) (rs.length + 1) cap) K (gs ++ [g]) (rs ++ [r]) → Turn v.ownBlock.toList w w' → (v.ownBlock = some q ∨ q = w.heap.size) → wpList Tryd.prog ops Q rest (a.put o.dst (.slice (some ⟨q, 0, none⟩) (rs.length + 1) cap)) w') :
    wpList Tryd.prog ops Q (o :: rest) a w := by
  obtain ⟨i0, hi, hz0, hz1, hz2⟩ := info_parts infoBs
  have hlen := h.len
  refine wpList_append_far w hgd s x 146 ho 76 i0 _ 1 24 Tryd.underlying146 hi hz0 hz1 hz2 rfl (by decide) v gs.length _ hs h.owns ⟨G, 0, none⟩ 1 c [rowV g K] hx rfl ?_ (by simp [Value.oneCell', rowV]) (by decide) (by unfold maxLen; omega) (by omega) ?_
  · intro j u hu
    match j, hu with
    | 0, hu =>
      cases hu
      exact hG
    | j + 1, hu => simp at hu
  · intro q cap w' h2 h3 h4 h5
    have T : Turn v.ownBlock.toList w w' := ⟨h3.os, h3.tape, h3.output, h3.size, fun q hq hn => h3.block q hq (fun e => hn (by simp [← e]))⟩
    rw [hlen] at h2 ⊢
    refine k q cap w' ⟨by simpa [hlen] using h2, by simp [hlen], fun i g' r' q1 q2 => ?_, fun r' hr' => ?_, fun p hp => ?_⟩ T h4
    · have hil : i < gs.length + 1 := by have := (List.getElem?_eq_some_iff.1 q1).1; simpa using this
      by_cases e : i < gs.length
      · rw [List.getElem?_append_left e] at q1
        rw [List.getElem?_append_left (by omega)] at q2
        exact (h.at_ i g' r' q1 q2).turn T (fun hm => (h.at_ i g' r' q1 q2).ne h.owns (by simpa using hm))
      · obtain rfl : i = gs.length := by omega
        obtain rfl : g = g' := by simpa using q1
        rw [hlen] at q2
        obtain rfl : r = r' := by simpa using q2
        exact hg.turn T (fun hm => hg.ne h.owns (by simpa using hm))
    · rcases List.mem_append.1 hr' with m | m
      · exact h.lt r' m
      · rw [List.mem_singleton.1 m]; exact hr
    · obtain rfl : q = p := by simpa [Value.ownBlock] using hp
      rcases h4 with e | e
      · exact h.out q e
      · omega
/-- A list copied. -/
theorem wpList_rows_copy (w : World) (hgd : o.guard = none) (s x : Operand) (ho : o.op = .call { callee := .builtin .append, args := #[s, x], argTypes := #[146, 146] })
    {B K : Nat} (v : Value) {gs rs : List Nat} (h : RL w B v K gs rs) (hv0 : rs = [] → v = .slice none 0 0) (hs : a.eval s = .slice none 0 0) (hx : a.eval x = v) (hl : rs.length ≤ 4398046511104)
    (k : ∀ u w', RL w' w.heap.size u K gs rs → Turn [] w w' → wpList Tryd.prog ops Q rest (a.put o.dst u) w') :
    wpList Tryd.prog ops Q (o :: rest) a w := by
  obtain ⟨i0, hi, hz0, hz1, hz2⟩ := info_parts infoBs
  have hlen := h.len
  by_cases h0 : gs.length = 0
  · have hgs : gs = [] := List.length_eq_zero_iff.1 h0
    have hrs : rs = [] := List.length_eq_zero_iff.1 (by omega)
    subst hgs hrs
    obtain rfl := hv0 rfl
    refine wpList_plain hgd fun _ hK => ?_
    unfold Oper.wp execOp
    simp only [ho, resolve, invoke, builtin, Sem.run_bind, Sem.run_pure, Result.andThen_ok, List.map_toArray, List.map_cons, List.map_nil, hs, hx, run_append_nothing (P := Tryd.prog) w 146 146 o.type 76 i0 Tryd.underlying146 hi none 0 0 (Nat.le_refl _) (.slice none 0 0) (Src.ofNil w Tryd.underlying146 0)]
    exact hK _ _ (k _ w (RL.nil _ _ _) (Turn.refl _ _))
  · rcases h.owns.2 with ⟨rfl, e⟩ | ⟨G, cap, cur, rfl, _, hcur, hn, _⟩
    · omega
    · refine wpList_append_far w hgd s x 146 ho 76 i0 _ 1 24 Tryd.underlying146 hi hz0 hz1 hz2 rfl (by decide) (.slice none 0 0) 0 [] hs (World.ownsRow_nil _ _ _ _) ⟨G, 0, none⟩ gs.length cap (gs.map (fun g => rowV g K)) hx (by simp) (fun j u hu => h.owns.cells rfl j u hu) (fun u hu => by
        obtain ⟨q, _, rfl⟩ := List.mem_map.1 hu
        rfl) (by omega) (by unfold maxLen; omega) (by omega) ?_
      intro q cap2 w' h2 h3 h4 h5
      have T : Turn [] w w' := ⟨h3.os, h3.tape, h3.output, h3.size, fun q hq hn => h3.block q hq (by simp [Value.ownBlock])⟩
      refine k _ w' ⟨by simpa using h2, hlen, fun i g' r' q1 q2 => (h.at_ i g' r' q1 q2).turn T (by simp), h.lt, fun p hp => ?_⟩ T
      obtain rfl : q = p := by simpa [Value.ownBlock] using hp
      rcases h4 with e | e
      · simp [Value.ownBlock] at e
      · omega
end

end Go.Proofs.YtfbbidaoljfloaaDoor


namespace Go.Proofs.YtfbbidaoljfloaaDoor
open Go.RowKit Go.MuLone

def lenOf : Value → Nat
  | .slice _ n _ => n
  | _ => 0

/-- The rows that are left, and those that were rid of the first one. -/
structure RkI (w wr : World) (K : Nat) (lv rv : Value) (gs gs2 : List Nat) (p : Nat) (t done : List Nat) : Prop where
  l : RL wr w.heap.size lv K gs (p :: t)
  r : RL wr w.heap.size rv K gs2 done
  bel : Below w.heap.size w wr
  ne : ∀ k, lv.ownBlock = some k → rv.ownBlock ≠ some k
theorem RkI.turn {w wr w' : World} {K : Nat} {lv rv : Value} {gs gs2 : List Nat} {p : Nat} {t done : List Nat} (h : RkI w wr K lv rv gs gs2 p t done) (ht : Turn [] wr w') : RkI w w' K lv rv gs gs2 p t done :=
  ⟨h.l.turn ht (by simp) (by simp), h.r.turn ht (by simp) (by simp), h.bel.trans (ht.toBelow h.bel.size (by simp)), h.ne⟩
theorem RkI.more {w wr w' : World} {K : Nat} {lv rv : Value} {gs gs2 gs3 : List Nat} {p : Nat} {t done done' : List Nat} {q n cap : Nat} (h : RkI w wr K lv rv gs gs2 p t done) (hr : RL w' w.heap.size (.slice (some ⟨q, 0, none⟩) n cap) K gs3 done') (ht : Turn rv.ownBlock.toList wr w') (hat : rv.ownBlock = some q ∨ q = wr.heap.size) : RkI w w' K lv (.slice (some ⟨q, 0, none⟩) n cap) gs gs3 p t done' :=
  ⟨h.l.turn ht (fun k hk hm => h.ne k hk (by simpa using hm)) (fun g hg hm => h.l.ne h.r.owns g hg (by simpa using hm)), hr, h.bel.trans (ht.toBelow h.bel.size (fun x hx => h.r.out x (by simpa using hx))), fun k hk e => by
    obtain rfl : q = k := by simpa [Value.ownBlock] using e
    rcases hat with m | m
    · exact h.ne q hk m
    · have := owns_lt h.l.owns hk; omega⟩

set_option maxRecDepth 100000 in
set_option maxHeartbeats 4000000 in
theorem refRank_any (v : Value) (B K : Nat) (gs rs : List Nat) (w : World) (h : RL w B v K gs rs) (hv0 : rs = [] → v = .slice none 0 0) (hK : K ≤ 32) (hl : rs.length ≤ 4398046511104) :
    Calls Tryd.prog 65 #[v] w fun e w' => e = .returned (.int .i64 (rankL rs)) ∧ Below w.heap.size w w' := by
  obtain ⟨sl0, cap0, rfl, hcap0⟩ := h.shape
  go_enter Tryd.func65, Tryd.ntmps65
  go_upto_region 3 with (at_builtin; (refine wpList_rows_copy _ rfl _ _ rfl _ h hv0 rfl rfl hl ?_; intro u w1 h1 T1))
  have HL : Hid _ := h1
  have HB1 : Hid (Below w.heap.size w w1) := T1.toBelow (Nat.le_refl _) (by simp)
  clear h1 T1 h hv0
  go_wp2_with fail
  go_loopw [3, 4] (fun lv nv wr => ∃ (gs' rs' : List Nat) (n : Nat), nv = .int .i64 n ∧ RL wr w.heap.size lv K gs' rs' ∧ Below w.heap.size w wr ∧ n + rankL rs' = rankL rs ∧ n + rs'.length ≤ rs.length) (fun lv _ _ => lenOf lv)
  case atStart => exact ⟨gs, rs, 0, rfl, HL.out, HB1.out, by omega, by omega⟩
  case round =>
    obtain ⟨gs', rs', n, rfl, hrl, hbe, hrk, hle⟩ := hrel
    clear HL HB1
    obtain ⟨sl, cap, rfl, hcap⟩ := hrl.shape
    have HRL : Hid _ := hrl
    have HBE : Hid _ := hbe
    have HRK : Hid _ := hrk
    clear hrk
    match hrs : rs', HRL, HRK, hle, hrl, hcap with
    | [], HRL, HRK, hle, hrl, hcap =>
      have HF : Hid (rankL rs = n) := by have := HRK.out; rw [rankL_nil] at this; rw [Hid]; omega
      clear hrl hbe
      go_wp2_with fail
      go_ret
      exact ⟨by rw [HF.out]; rfl, HBE.out⟩
    | p :: t, HRL, HRK, hle, hrl, hcap =>
      obtain ⟨o, cap2, g, hsl, hc0, hbr, hol, hg0⟩ := hrl.get (i := 0) (r := p) rfl
      obtain ⟨rfl, rfl⟩ : sl = some ⟨o, 0, none⟩ ∧ cap = cap2 := by injection hsl with a b c; exact ⟨a, c⟩
      have hpK := hrl.lt p (List.mem_cons_self ..)
      have hlen : (p :: t).length = t.length + 1 := rfl
      subst hrs
      have HRL' : Hid (RL wr w.heap.size (.slice (some ⟨o, 0, none⟩) (t.length + 1) cap) K gs' (p :: t)) := hrl
      have hle' : n + (t.length + 1) ≤ rs.length := hle
      have HBR : Hid _ := hbr
      unfold rowV at hc0
      clear hsl hcap hlen hle HRL hrl
      go_wp2_with fail
      refine (first_any g K p _ hK hpK HBR.out).mono ?_
      rintro e1 w2 ⟨rfl, rfl⟩
      have HI0 : Hid (RkI w w2 K (.slice (some ⟨o, 0, none⟩) (t.length + 1) cap) (.slice none 0 0) gs' [] p t []) := ⟨HRL'.out, RL.nil _ _ _, HBE.out, by simp [Value.ownBlock]⟩
      clear HRL' HBE hbe hbr hc0
      obtain ⟨J, hJ⟩ : ∃ J, J = firstI p := ⟨_, rfl⟩
      rw [← hJ]
      have HJ : Hid _ := hJ
      clear hJ
      go_wp2_with fail
      go_loopw [7, 8] (fun rv iv wx => ∃ (i : Nat) (gs2 : List Nat), iv = .int .i64 ((i : Int) + 1) ∧ i ≤ t.length ∧ RkI w wx K (.slice (some ⟨o, 0, none⟩) (t.length + 1) cap) rv gs' gs2 p t ((t.take i).map (ridR p))) (fun _ iv _ => t.length + 1 - (intOf iv).toNat)
      case atStart => exact ⟨0, [], rfl, Nat.zero_le _, HI0.out⟩
      case round =>
        obtain ⟨i, gs2, rfl, hi, hki⟩ := hrel
        clear HI0
        obtain ⟨rsl, rcap, rfl, hrcap⟩ := hki.r.shape
        have hrl : ((t.take i).map (ridR p)).length = i := by simp; omega
        have HKI : Hid _ := hki
        by_cases hil : i < t.length
        · obtain ⟨r, hr⟩ : ∃ r, t[i]? = some r := ⟨_, List.getElem?_eq_getElem hil⟩
          obtain ⟨o', cap', g2, hsl, hc2, hbr2, _, _⟩ := hki.l.get (i := i + 1) (r := r) (by simpa using hr)
          obtain ⟨rfl, rfl⟩ : o = o' ∧ cap = cap' := by injection hsl with a b c; injection a with a; injection a with a; exact ⟨a, c⟩
          have hrK := hki.l.lt r (List.mem_cons_of_mem _ (List.mem_of_getElem? hr))
          have i0 : (0 : Int) ≤ (i : Int) + 1 := by omega
          have i1 : (i : Int) + 1 < (t.length : Int) + 1 := by omega
          have HB2 : Hid _ := hbr2
          have HR : Hid _ := hr
          unfold rowV at hc2
          clear hsl hbr2 hki hr
          rw [hrl] at *
          obtain ⟨BB, hBB⟩ : ∃ BB : Bool, BB = decide (p ≠ 0 ∧ r.testBit (Rx.low p) = true) := ⟨_, rfl⟩
          have HBB : Hid _ := hBB
          clear hBB
          go_upto_region 12 with fail
          go_cut [38] from 21 to 45 (fun v wx => v = .bool BB ∧ wx = wr)
          case first =>
            by_cases hp0 : p = 0
            · have hJ1 : J = -1 := by rw [HJ.out]; unfold firstI; rw [if_pos hp0]
              have hB1 : BB = false := by rw [HBB.out]; simp [hp0]
              subst hJ1 hB1
              go_wp2_with fail
              go_meet
              exact ⟨rfl, rfl⟩
            · have hlow := Rx.low_ltK hK hp0 hpK
              have hJ1 : J = (Rx.low p : Int) := by rw [HJ.out]; unfold firstI; rw [if_neg hp0]
              have hB1 : BB = r.testBit (Rx.low p) := by rw [HBB.out]; simp [hp0]
              have hcj : wr.cell? ⟨g2, Rx.low p, none⟩ = some (.bool (r.testBit (Rx.low p))) := World.rowIs.cell HB2.out hlow
              rw [← hB1] at hcj
              have j0 : (0 : Int) ≤ (Rx.low p : Int) := by omega
              have j1 : (Rx.low p : Int) < (K : Int) := by omega
              subst hJ1
              generalize Rx.low p = jl at *
              go_wp2_with fail
              go_meet
              exact ⟨by rw [hB1], rfl⟩
          case rest =>
            obtain ⟨rfl, rfl⟩ := hcut
            obtain ⟨W2, hW2⟩ : ∃ W2, W2 = wc := ⟨_, rfl⟩
            subst hW2
            go_upto_if 38 with fail
            go_cut [9] from 21 to 45 (fun v9 wx => ∃ g3, v9 = .slice (some ⟨g3, 0, none⟩) K K ∧ BR wx g3 K (ridR p r) ∧ RkI w wx K (.slice (some ⟨o, 0, none⟩) (t.length + 1) cap) (.slice rsl i rcap) gs' gs2 p t ((t.take i).map (ridR p)))
            case first =>
              cases BB with
              | true =>
                have hrid : ridR p r = r ^^^ p := by
                  unfold ridR
                  rw [if_pos]
                  have := HBB.out
                  simpa using this.symm
                obtain ⟨_, _, g5, _, _, hbp, _, hg5⟩ := HKI.out.l.get (i := 0) (r := p) rfl
                obtain rfl : g = g5 := by rw [hg0] at hg5; simpa using hg5
                go_wp2_with fail
                refine (plus_any g2 g K r p _ hK HB2.out hbp hrK hpK).mono ?_
                rintro e1 wP ⟨g3, rfl, hg3, hbr3, hbe3⟩
                rw [← hrid] at hbr3
                have HBX : Hid _ := hbr3
                have HKX : Hid _ := HKI.out.turn (Turn.below (S := []) hbe3 (Nat.le_refl _))
                clear hbr3 hbe3 hbp hrid
                unfold rowV
                go_wp2_with fail
                go_meet
                exact ⟨g3, rfl, HBX.out, HKX.out⟩
              | false =>
                have hrid : ridR p r = r := by
                  unfold ridR
                  rw [if_neg]
                  have := HBB.out
                  simpa using this.symm
                have HBX : Hid (BR W2 g2 K (ridR p r)) := by rw [hrid]; exact HB2.out
                clear hrid
                go_wp2_with fail
                go_meet
                exact ⟨g2, rfl, HBX.out, HKI.out⟩
            case rest =>
              obtain ⟨g3, rfl, hb3, hk3⟩ := hcut
              obtain ⟨W3, hW3⟩ : ∃ W3, W3 = wc := ⟨_, rfl⟩
              subst hW3
              have T9 := (Turn.refl [] W3).alloc (.cells #[.slice (some ⟨g3, 0, none⟩) K K] 76)
              have hk9 := hk3.turn T9
              have hb9 := hb3.turn T9 (by simp)
              have hN9 : (W3.alloc (.cells #[.slice (some ⟨g3, 0, none⟩) K K] 76)).cell? ⟨W3.heap.size, 0, none⟩ = some (rowV g3 K) := by rw [cell_of_row _ _ _ _ _ _ (heap_alloc_new W3 _)]; rfl
              have hr9 := hk9.r
              have hsz9 := hk9.bel.size
              have hlx := ridR_lt hpK hrK
              clear hb3 hk3 HKI HB2 hc2
              go_upto_region 10 with (at_builtin; (refine wpList_rows _ rfl _ _ rfl _ hr9 rfl W3.heap.size 1 rfl hN9 hb9 hlx (by simp; omega) hsz9 ?_; intro q2 cap2 w10 hr10 ht10 hat10))
              have hm := hk9.more hr10 ht10 hat10
              have htk : (t.take i).map (ridR p) ++ [ridR p r] = (t.take (i + 1)).map (ridR p) := by
                obtain ⟨z1, z2⟩ := List.getElem?_eq_some_iff.1 HR.out
                rw [List.take_succ_eq_append_getElem z1, List.map_append, z2]
                rfl
              rw [htk, show ((t.take i).map (ridR p)).length = i by simp; omega] at hm
              have HM : Hid _ := hm
              clear hm hk9 hb9 hN9 hr9 hsz9 T9 hr10 ht10 hat10 htk
              go_wp2_with fail
              exact ⟨⟨i + 1, _, by go_num, by omega, HM.out⟩, by simp [intOf]; omega⟩
        · obtain rfl : i = t.length := by omega
          have HK2 : Hid _ := hki
          have hrk := HRK.out
          rw [rankL_cons] at hrk
          rw [List.take_length] at HK2
          rw [List.take_length]
          clear hki HKI
          by_cases hp0 : p = 0
          · have hJ1 : J = -1 := by rw [HJ.out]; unfold firstI; rw [if_pos hp0]
            rw [if_pos hp0] at hrk
            have HE : Hid _ := hrk
            subst hJ1
            clear hrk hp0
            go_wp2_with fail
            exact ⟨⟨gs2, t.map (ridR p), n, rfl, HK2.out.r, HK2.out.bel, by have := HE.out; omega, by simp; omega⟩, by simp [lenOf]⟩
          · have hJ1 : J = (Rx.low p : Int) := by rw [HJ.out]; unfold firstI; rw [if_neg hp0]
            rw [if_neg hp0] at hrk
            have HE : Hid _ := hrk
            subst hJ1
            clear hrk
            generalize Rx.low p = jl at *
            go_wp2_with fail
            exact ⟨⟨gs2, t.map (ridR p), n + 1, by go_num, HK2.out.r, HK2.out.bel, by have := HE.out; omega, by simp; omega⟩, by simp [lenOf]⟩
end Go.Proofs.YtfbbidaoljfloaaDoor


namespace Go.Proofs.YtfbbidaoljfloaaDoor
open Go.RowKit Go.MuLone

/-- A list of numbers. -/
structure NL (w : World) (v : Value) (l : List Nat) : Prop where
  owns : w.ownsRow 0 3 1 v l.length (l.map (fun (n : Nat) => Value.int .i64 n))
theorem NL.shape {w : World} {v : Value} {l : List Nat} (h : NL w v l) : ∃ sl cap, v = .slice sl l.length cap := by
  rcases h.owns.2 with ⟨rfl, e⟩ | ⟨g, cap, cur, rfl, _⟩
  · exact ⟨none, 0, by rw [e]⟩
  · exact ⟨_, cap, rfl⟩
theorem NL.get {w : World} {v : Value} {l : List Nat} (h : NL w v l) {i n : Nat} (hi : l[i]? = some n) : ∃ o cap, v = .slice (some ⟨o, 0, none⟩) l.length cap ∧ w.cell? ⟨o, i, none⟩ = some (.int .i64 n) := by
  have hlt := (List.getElem?_eq_some_iff.1 hi).1
  rcases h.owns.2 with ⟨_, e⟩ | ⟨o, cap, cur, rfl, _⟩
  · omega
  · exact ⟨o, cap, rfl, owns_cell h.owns rfl (by simp [hi])⟩

set_option maxRecDepth 100000 in
set_option maxHeartbeats 1000000 in
theorem has_any (bn num : Nat) (dl : List Nat) (v : Value) (w : World) (hc : w.cell? ⟨bn, 8, none⟩ = some v) (h : NL w v dl) (hl : dl.length ≤ 100000) :
    Calls Tryd.prog 120 #[.pointer (some ⟨bn, 5, none⟩), .int .i64 num] w fun e w' => e = .returned (.bool (decide (num ∈ dl))) ∧ w' = w := by
  obtain ⟨sl, cap, rfl⟩ := h.shape
  have HL : Hid _ := h
  clear h
  go_enter Tryd.func120, Tryd.ntmps120
  go_wp2_with fail
  go_loop [5] (fun jv => ∃ j : Nat, jv = .int .i64 j ∧ j ≤ dl.length ∧ ∀ i n, i < j → dl[i]? = some n → n ≠ num) (fun jv => dl.length - (intOf jv).toNat)
  case atStart => exact ⟨0, rfl, Nat.zero_le _, fun i n hi => by omega⟩
  case round =>
    obtain ⟨j, rfl, hj, hb⟩ := hrel
    have HB : Hid _ := hb
    clear hb
    by_cases hjl : j < dl.length
    · have g1 : decide ((j : Int) < (dl.length : Int)) = true := by simp; omega
      have j0 : (0 : Int) ≤ (j : Int) := by omega
      have j1 : (j : Int) < (dl.length : Int) := by omega
      obtain ⟨n, hn⟩ : ∃ n, dl[j]? = some n := ⟨_, List.getElem?_eq_getElem hjl⟩
      obtain ⟨o, cap2, hsl, hcn⟩ := HL.out.get hn
      obtain ⟨rfl, rfl⟩ : sl = some ⟨o, 0, none⟩ ∧ cap = cap2 := by injection hsl with a b c; exact ⟨a, c⟩
      have HN : Hid _ := hn
      clear hsl hn
      by_cases e : n = num
      · subst e
        have HE : Hid (decide (n ∈ dl) = true) := decide_eq_true (List.mem_of_getElem? HN.out)
        go_wp2_with fail
        go_ret
        exact ⟨by rw [HE.out]; rfl, rfl⟩
      · have q : ((n : Int) == (num : Int)) = false := by simp; omega
        have HB2 : Hid (∀ i m, i < j + 1 → dl[i]? = some m → m ≠ num) := fun i m hi hm => by
          by_cases e2 : i = j
          · subst e2
            have := hm.symm.trans HN.out
            obtain rfl : m = n := by simpa using this
            exact e
          · exact HB.out i m (by omega) hm
        go_wp2_with fail
        exact ⟨⟨j + 1, by go_num, by omega, HB2.out⟩, by simp [intOf]; omega⟩
    · obtain rfl : j = dl.length := by omega
      have g1 : decide ((dl.length : Int) < (dl.length : Int)) = false := by simp
      have HE : Hid (decide (num ∈ dl) = false) := decide_eq_false (fun hm => by
        obtain ⟨i, hi⟩ := List.getElem?_of_mem hm
        exact HB.out i num (List.getElem?_eq_some_iff.1 hi).1 hi rfl)
      go_wp2_with fail
      go_ret
      exact ⟨by rw [HE.out]; rfl, rfl⟩

theorem blocksOf_stop {len blk k : Nat} (hb : 1 ≤ blk) (hk : 1 ≤ k) (h1 : len ≤ k * blk) (h2 : k = 1 ∨ (k - 1) * blk < len) : blocksOf len blk = k := by
  unfold blocksOf
  have e : (len + blk - 1) / blk = if len = 0 then 0 else (len - 1) / blk + 1 := by
    by_cases h0 : len = 0
    · rw [if_pos h0, h0, Nat.div_eq_of_lt (by omega)]
    · rw [if_neg h0, show len + blk - 1 = (len - 1) + blk by omega, Nat.add_div_right _ (by omega)]
  rw [e]
  by_cases h0 : len = 0
  · rw [if_pos h0]
    rcases h2 with q | q
    · omega
    · omega
  · rw [if_neg h0]
    have hq : (len - 1) / blk = k - 1 := by
      apply Nat.div_eq_of_lt_le
      · rcases h2 with q | q
        · subst q; simp
        · omega
      · have : (k - 1 + 1) * blk = k * blk := by rw [Nat.sub_add_cancel hk]
        show len - 1 < (k - 1 + 1) * blk
        omega
    omega

set_option maxRecDepth 100000 in
set_option maxHeartbeats 1000000 in
theorem refBlocks_any (len blk : Nat) (w : World) (h1 : 1 ≤ blk) (h2 : blk ≤ 32) (hd : len ≤ 32 * blk) :
    Calls Tryd.prog 109 #[.int .i64 len, .int .i64 blk] w fun e w' => e = .returned (.int .i64 (blocksOf len blk)) ∧ w' = w := by
  go_enter Tryd.func109, Tryd.ntmps109
  go_wp2_with fail
  go_loop [5] (fun kv => ∃ k : Nat, kv = .int .i64 k ∧ 1 ≤ k ∧ k ≤ 32 ∧ (k = 1 ∨ (k - 1) * blk < len)) (fun kv => 32 - (intOf kv).toNat)
  case atStart => exact ⟨1, rfl, by omega, by omega, .inl rfl⟩
  case round =>
    obtain ⟨k, rfl, hk1, hk2, hk3⟩ := hrel
    have hprod : k * blk ≤ 32 * 32 := Nat.mul_le_mul hk2 h2
    obtain ⟨P, hP⟩ : ∃ P, P = k * blk := ⟨_, rfl⟩
    have hPi : ((k : Int) * (blk : Int)) = (P : Int) := by rw [hP]; simp
    have HP : Hid _ := hP
    have HK3 : Hid _ := hk3
    rw [← hP] at hprod
    clear hP hk3
    by_cases hl : P < len
    · have hk32 : k < 32 := by
        apply Classical.byContradiction
        intro hn
        have : k = 32 := by omega
        subst this
        have := HP.out
        omega
      have HN : Hid (k + 1 = 1 ∨ (k + 1 - 1) * blk < len) := .inr (by rw [Nat.add_sub_cancel, ← HP.out]; exact hl)
      go_wp2_with fail
      exact ⟨⟨k + 1, by go_num, by omega, by omega, HN.out⟩, by simp [intOf]; omega⟩
    · have HE : Hid (blocksOf len blk = k) := blocksOf_stop h1 hk1 (by rw [← HP.out]; omega) HK3.out
      go_wp2_with fail
      go_ret
      exact ⟨by rw [HE.out]; rfl, rfl⟩
end Go.Proofs.YtfbbidaoljfloaaDoor


namespace Go.Proofs.YtfbbidaoljfloaaDoor
open Go.RowKit Go.MuLone

theorem infoN : (Tryd.prog.info? 3).map (fun i => (i.zero, i.size, i.bytes)) = some (some (.int .i64 0), 1, 8) := by kernel_rfl

theorem NL.turn {Z : List Nat} {w w' : World} {v : Value} {l : List Nat} (h : NL w v l) (ht : Turn Z w w') (hz : ∀ k, v.ownBlock = some k → k ∉ Z) : NL w' v l := ⟨ht.owns h.owns hz⟩

/-- The block of a network is no block of a list. -/
theorem net_ne {w : World} {bn N : Nat} {f : Nat → Value} (h : w.rowIs bn 151 N f) {e : TypeId} (he : e ≠ 151) {v : Value} {n : Nat} {xs : List Value} (ho : w.ownsRow 0 e 1 v n xs) : v.ownBlock ≠ some bn := by
  intro q
  obtain ⟨c, hc, _⟩ := h
  rcases ho.2 with ⟨rfl, _⟩ | ⟨o, cap, cur, rfl, _, hcur, _⟩
  · simp [Value.ownBlock] at q
  · obtain rfl : o = bn := by simpa [Value.ownBlock] using q
    rw [hc] at hcur
    simp at hcur
    exact he hcur.2.symm
theorem net_row {w : World} {bn N g K r : Nat} {f : Nat → Value} (h : w.rowIs bn 151 N f) (hb : BR w g K r) : g ≠ bn := by
  rintro rfl
  obtain ⟨c, hc, _⟩ := h
  obtain ⟨d, hd, _⟩ := hb
  rw [hc] at hd
  simp at hd

/-- The document's receiver, in the midst of a network. -/
structure GetAt (w : World) (bn : Nat) (f : Nat → Value) (B K last : Nat) (rv : Value) (gs rs : List Nat) (dv : Value) (dl : List Nat) : Prop where
  row : w.rowIs bn 151 12 f
  f5 : f 5 = .int .i64 last
  f6 : f 6 = .int .i64 K
  f7 : f 7 = rv
  f8 : f 8 = dv
  rl : RL w B rv K gs rs
  r0 : rs = [] → rv = .slice none 0 0
  dl : NL w dv dl
  dB : ∀ k, dv.ownBlock = some k → B ≤ k
  rd : ∀ k, rv.ownBlock = some k → dv.ownBlock ≠ some k
section
variable {w w' : World} {bn : Nat} {f : Nat → Value} {B K last : Nat} {rv : Value} {gs rs : List Nat} {dv : Value} {dl : List Nat}
theorem GetAt.turn (h : GetAt w bn f B K last rv gs rs dv dl) (ht : Turn [] w w') : GetAt w' bn f B K last rv gs rs dv dl :=
  ⟨h.row.of_block (ht.block bn h.row.lt (by simp)), h.f5, h.f6, h.f7, h.f8, h.rl.turn ht (by simp) (by simp), h.r0, h.dl.turn ht (by simp), h.dB, h.rd⟩
theorem GetAt.cells (h : GetAt w bn f B K last rv gs rs dv dl) : w.cell? ⟨bn, 5, none⟩ = some (.int .i64 last) ∧ w.cell? ⟨bn, 6, none⟩ = some (.int .i64 K) ∧ w.cell? ⟨bn, 7, none⟩ = some rv ∧ w.cell? ⟨bn, 8, none⟩ = some dv :=
  ⟨by rw [h.row.cell (by omega), h.f5], by rw [h.row.cell (by omega), h.f6], by rw [h.row.cell (by omega), h.f7], by rw [h.row.cell (by omega), h.f8]⟩
/-- A new object. -/
theorem GetAt.begin (h : GetAt w bn f B K last rv gs rs dv dl) (num K2 : Nat) : ∃ f2, (∀ j, j ≠ 5 → j ≠ 6 → j ≠ 7 → f2 j = f j) ∧
    GetAt (((w.setCell ⟨bn, 5, none⟩ (.int .i64 num)).setCell ⟨bn, 6, none⟩ (.int .i64 K2)).setCell ⟨bn, 7, none⟩ (.slice none 0 0)) bn f2 B K2 num (.slice none 0 0) [] [] dv dl := by
  have T : Turn [bn] w (((w.setCell ⟨bn, 5, none⟩ (.int .i64 num)).setCell ⟨bn, 6, none⟩ (.int .i64 K2)).setCell ⟨bn, 7, none⟩ (.slice none 0 0)) := (((Turn.refl [bn] w).setCell (.inl (by simp)) _).setCell (.inl (by simp)) _).setCell (.inl (by simp)) _
  refine ⟨_, fun j h5 h6 h7 => ?_, ⟨((h.row.set 5 _).set 6 _).set 7 _, ?_, ?_, ?_, ?_, RL.nil _ _ _, fun _ => rfl, h.dl.turn T (fun k hk hm => ?_), h.dB, fun k hk => by simp [Value.ownBlock] at hk⟩⟩
  · simp [h5, h6, h7]
  · simp
  · simp
  · simp
  · simp; exact h.f8
  · simp at hm
    subst hm
    exact net_ne h.row (by decide) h.dl.owns hk
/-- A row more, laid down. -/
theorem GetAt.more {w1 w2 : World} {gs2 rs2 : List Nat} {q n cap : Nat} (h : GetAt w bn f B K last rv gs rs dv dl) (T1 : Turn [] w w1) (hr : RL w2 B (.slice (some ⟨q, 0, none⟩) n cap) K gs2 rs2) (T2 : Turn rv.ownBlock.toList w1 w2) (hat : rv.ownBlock = some q ∨ q = w1.heap.size) (hne : rs2 ≠ []) : ∃ f2, (∀ j, j ≠ 7 → f2 j = f j) ∧
    GetAt (w2.setCell ⟨bn, 7, none⟩ (.slice (some ⟨q, 0, none⟩) n cap)) bn f2 B K last (.slice (some ⟨q, 0, none⟩) n cap) gs2 rs2 dv dl := by
  have h1 := h.turn T1
  have hb2 : bn ∉ rv.ownBlock.toList := fun hm => net_ne h1.row (by decide) h1.rl.owns (by simpa using hm)
  have hrow2 : w2.rowIs bn 151 12 f := h1.row.of_block (T2.block bn h1.row.lt hb2)
  have hdl2 : NL w2 dv dl := h1.dl.turn T2 (fun k hk hm => h1.rd k (by simpa using hm) hk)
  have T3 : Turn [bn] w2 (w2.setCell ⟨bn, 7, none⟩ (.slice (some ⟨q, 0, none⟩) n cap)) := (Turn.refl [bn] w2).setCell (.inl (by simp)) _
  refine ⟨_, fun j h7 => ?_, ⟨hrow2.set 7 _, ?_, ?_, ?_, ?_, hr.turn T3 (fun k hk hm => ?_) (fun g hg hm => ?_), fun e => absurd e hne, hdl2.turn T3 (fun k hk hm => ?_), h.dB, fun k hk hd => ?_⟩⟩
  · simp [h7]
  · simp; exact h.f5
  · simp; exact h.f6
  · simp
  · simp; exact h.f8
  · simp at hm; subst hm; exact net_ne hrow2 (by decide) hr.owns hk
  · simp at hm
    subst hm
    obtain ⟨i, hi⟩ := List.getElem?_of_mem hg
    have hlt := (List.getElem?_eq_some_iff.1 hi).1
    obtain ⟨r, hr2⟩ : ∃ r, rs2[i]? = some r := ⟨_, List.getElem?_eq_getElem (by rw [← hr.len]; exact hlt)⟩
    exact net_row hrow2 (hr.at_ i g r hi hr2) rfl
  · simp at hm; subst hm; exact net_ne hrow2 (by decide) hdl2.owns hk
  · obtain rfl : q = k := by simpa [Value.ownBlock] using hk
    rcases hat with m | m
    · exact h1.rd q m hd
    · have := owns_lt h1.dl.owns hd; omega
end
end Go.Proofs.YtfbbidaoljfloaaDoor


namespace Go.Proofs.YtfbbidaoljfloaaDoor
open Go.RowKit Go.MuLone

theorem BR.neN {w : World} {g K r : Nat} (h : BR w g K r) {v : Value} {n : Nat} {xs : List Value} (ho : w.ownsRow 0 3 1 v n xs) : v.ownBlock ≠ some g := by
  intro e
  obtain ⟨c, hc, _⟩ := h
  rcases ho.2 with ⟨rfl, _⟩ | ⟨o, cap, cur, rfl, _, hcur, _⟩
  · simp [Value.ownBlock] at e
  · obtain rfl : o = g := by simpa [Value.ownBlock] using e
    rw [hc] at hcur
    simp at hcur
theorem RL.neN {w : World} {B : Nat} {v : Value} {K : Nat} {gs rs : List Nat} (h : RL w B v K gs rs) {u : Value} {n : Nat} {xs : List Value} (ho : w.ownsRow 0 3 1 u n xs) : ∀ g ∈ gs, u.ownBlock ≠ some g := fun g hg => by
  obtain ⟨i, hi⟩ := List.getElem?_of_mem hg
  have hlt := (List.getElem?_eq_some_iff.1 hi).1
  obtain ⟨r, hr⟩ : ∃ r, rs[i]? = some r := ⟨_, List.getElem?_eq_getElem (by rw [← h.len]; exact hlt)⟩
  exact (h.at_ i g r hi hr).neN ho

section
variable {ops : Array Oper} {rest : List Oper} {o : Oper} {a : Act} {Q : Exit → Act → World → Prop}
theorem wpList_nums (w : World) (hgd : o.guard = none) (s x : Operand) (ho : o.op = .call { callee := .builtin .append, args := #[s, x], argTypes := #[52, 52] })
    (v : Value) {l : List Nat} (h : NL w v l) (hs : a.eval s = v) (G c : Nat) (hx : a.eval x = .slice (some ⟨G, 0, none⟩) 1 c) {num : Nat} (hG : w.cell? ⟨G, 0, none⟩ = some (.int .i64 num)) (hl : l.length ≤ 4398046511104)
    (k : ∀ q cap w', NL w' (.slice (some ⟨q, 0, none⟩) (l.length + 1) cap) (l ++ [num]) → Turn v.ownBlock.toList w w' → (v.ownBlock = some q ∨ q = w.heap.size) → wpList Tryd.prog ops Q rest (a.put o.dst (.slice (some ⟨q, 0, none⟩) (l.length + 1) cap)) w') :
    wpList Tryd.prog ops Q (o :: rest) a w := by
  obtain ⟨i0, hi, hz0, hz1, hz2⟩ := info_parts infoN
  refine wpList_append_far w hgd s x 52 ho 3 i0 _ 1 8 Tryd.underlying52 hi hz0 hz1 hz2 rfl (by decide) v l.length _ hs h.owns ⟨G, 0, none⟩ 1 c [.int .i64 num] hx rfl ?_ (by simp [Value.oneCell']) (by decide) (by unfold maxLen; omega) (by omega) ?_
  · intro j u hu
    match j, hu with
    | 0, hu =>
      cases hu
      exact hG
    | j + 1, hu => simp at hu
  · intro q cap w' h2 h3 h4 h5
    exact k q cap w' ⟨by simpa using h2⟩ ⟨h3.os, h3.tape, h3.output, h3.size, fun q hq hn => h3.block q hq (fun e => hn (by simp [← e]))⟩ h4
end

section
variable {w w1 w2 : World} {bn : Nat} {f : Nat → Value} {B K last : Nat} {rv : Value} {gs rs : List Nat} {dv : Value} {dl dl2 : List Nat}
theorem GetAt.deliver {q n cap : Nat} (h : GetAt w bn f B K last rv gs rs dv dl) (hB : B ≤ w1.heap.size) (T1 : Turn [] w w1) (hn : NL w2 (.slice (some ⟨q, 0, none⟩) n cap) dl2) (T2 : Turn dv.ownBlock.toList w1 w2) (hat : dv.ownBlock = some q ∨ q = w1.heap.size) : ∃ f2, (∀ j, j ≠ 8 → f2 j = f j) ∧
    GetAt (w2.setCell ⟨bn, 8, none⟩ (.slice (some ⟨q, 0, none⟩) n cap)) bn f2 B K last rv gs rs (.slice (some ⟨q, 0, none⟩) n cap) dl2 := by
  have h1 := h.turn T1
  have hb2 : bn ∉ dv.ownBlock.toList := fun hm => net_ne h1.row (by decide) h1.dl.owns (by simpa using hm)
  have hrow2 : w2.rowIs bn 151 12 f := h1.row.of_block (T2.block bn h1.row.lt hb2)
  have hrl2 : RL w2 B rv K gs rs := h1.rl.turn T2 (fun k hk hm => h1.rd k hk (by simpa using hm)) (fun g hg hm => h1.rl.neN h1.dl.owns g hg (by simpa using hm))
  have T3 : Turn [bn] w2 (w2.setCell ⟨bn, 8, none⟩ (.slice (some ⟨q, 0, none⟩) n cap)) := (Turn.refl [bn] w2).setCell (.inl (by simp)) _
  refine ⟨_, fun j h8 => ?_, ⟨hrow2.set 8 _, ?_, ?_, ?_, ?_, hrl2.turn T3 (fun k hk hm => ?_) (fun g hg hm => ?_), h.r0, hn.turn T3 (fun k hk hm => ?_), fun k hk => ?_, fun k hk hd => ?_⟩⟩
  · simp [h8]
  · simp; exact h.f5
  · simp; exact h.f6
  · simp; exact h.f7
  · simp
  · simp at hm; subst hm; exact net_ne hrow2 (by decide) hrl2.owns hk
  · simp at hm
    subst hm
    obtain ⟨i, hi⟩ := List.getElem?_of_mem hg
    have hlt := (List.getElem?_eq_some_iff.1 hi).1
    obtain ⟨r, hr2⟩ : ∃ r, rs[i]? = some r := ⟨_, List.getElem?_eq_getElem (by rw [← hrl2.len]; exact hlt)⟩
    exact net_row hrow2 (hrl2.at_ i g r hi hr2) rfl
  · simp at hm; subst hm; exact net_ne hrow2 (by decide) hn.owns hk
  · obtain rfl : q = k := by simpa [Value.ownBlock] using hk
    rcases hat with m | m
    · exact h.dB q m
    · omega
  · obtain rfl : q = k := by simpa [Value.ownBlock] using hd
    rcases hat with m | m
    · exact h1.rd q hk m
    · have := owns_lt h1.rl.owns hk; omega
end

/-- What a frame does at the document's receiver. -/
structure CameIs (num K2 r last K : Nat) (rs dl : List Nat) (b : Bool) (last' K' : Nat) (rs' dl' : List Nat) : Prop where
  is : (num ∈ dl ∧ true = b ∧ last = last' ∧ K = K' ∧ rs = rs' ∧ dl = dl') ∨
    (num ∉ dl ∧ num < last ∧ false = b ∧ last = last' ∧ K = K' ∧ rs = rs' ∧ dl = dl') ∨
    (num ∉ dl ∧ last ≤ num ∧ rankL ((if last < num then [] else rs) ++ [r]) < K2 ∧ false = b ∧ num = last' ∧ K2 = K' ∧ (if last < num then [] else rs) ++ [r] = rs' ∧ dl = dl') ∨
    (num ∉ dl ∧ last ≤ num ∧ K2 ≤ rankL ((if last < num then [] else rs) ++ [r]) ∧ true = b ∧ num = last' ∧ K2 = K' ∧ (if last < num then [] else rs) ++ [r] = rs' ∧ dl ++ [num] = dl')
theorem CameIs.had {num K2 r last K : Nat} {rs dl : List Nat} (h : num ∈ dl) : CameIs num K2 r last K rs dl true last K rs dl := ⟨.inl ⟨h, rfl, rfl, rfl, rfl, rfl⟩⟩
theorem CameIs.past {num K2 r last K : Nat} {rs dl : List Nat} (h : num ∉ dl) (h1 : num < last) : CameIs num K2 r last K rs dl false last K rs dl := ⟨.inr (.inl ⟨h, h1, rfl, rfl, rfl, rfl, rfl⟩)⟩
theorem CameIs.part {num K2 r last K : Nat} {rs dl : List Nat} (h : num ∉ dl) (h1 : last ≤ num) (h2 : rankL ((if last < num then [] else rs) ++ [r]) < K2) : CameIs num K2 r last K rs dl false num K2 ((if last < num then [] else rs) ++ [r]) dl := ⟨.inr (.inr (.inl ⟨h, h1, h2, rfl, rfl, rfl, rfl, rfl⟩))⟩
theorem CameIs.full {num K2 r last K : Nat} {rs dl : List Nat} (h : num ∉ dl) (h1 : last ≤ num) (h2 : K2 ≤ rankL ((if last < num then [] else rs) ++ [r])) : CameIs num K2 r last K rs dl true num K2 ((if last < num then [] else rs) ++ [r]) (dl ++ [num]) := ⟨.inr (.inr (.inr ⟨h, h1, h2, rfl, rfl, rfl, rfl, rfl⟩))⟩

/-- Behind it. -/
structure CameW (w w' : World) (bn : Nat) (f : Nat → Value) (B num K2 r last K : Nat) (rv : Value) (gs rs : List Nat) (dv : Value) (dl : List Nat) (b : Bool) : Prop where
  ex : ∃ (f2 : Nat → Value) (K' last' : Nat) (rv' : Value) (gs' rs' : List Nat) (dv' : Value) (dl' : List Nat), CameIs num K2 r last K rs dl b last' K' rs' dl' ∧ (∀ j, j < 5 ∨ 8 < j → f2 j = f j) ∧ GetAt w' bn f2 B K' last' rv' gs' rs' dv' dl' ∧
    (∀ k, rv'.ownBlock = some k → rv.ownBlock = some k ∨ w.heap.size ≤ k) ∧ (∀ k, dv'.ownBlock = some k → dv.ownBlock = some k ∨ w.heap.size ≤ k) ∧ (∀ g ∈ gs', g ∈ gs ∨ w.heap.size ≤ g)
  turn : Turn (bn :: (rv.ownBlock.toList ++ dv.ownBlock.toList)) w w'

set_option maxRecDepth 100000 in
set_option maxHeartbeats 4000000 in
theorem came_any (bn num K2 id : Nat) (nonce : Int) (f : Nat → Value) (B K last : Nat) (rv : Value) (gs rs : List Nat) (dv : Value) (dl : List Nat) (w : World) (h : GetAt w bn f B K last rv gs rs dv dl) (hB : B ≤ w.heap.size) (hdl : dl.length ≤ 100000) (hrs : rs.length < 4398046511104) (hKe : num = last → K = K2) (hK1 : 1 ≤ K2) (hK2 : K2 ≤ 32) (hid : id < 1048576) :
    Calls Tryd.prog 110 #[.pointer (some ⟨bn, 5, none⟩), .int .i64 num, .int .u64 nonce, .int .i64 K2, .int .i64 id] w fun e w' => ∃ b, e = .returned (.bool b) ∧ CameW w w' bn f B num K2 (Dz.rowOf nonce K2 id) last K rv gs rs dv dl b := by
  obtain ⟨c5, c6, c7, c8⟩ := h.cells
  have z5 := h.row.frozen 5
  have z6 := h.row.frozen 6
  have z7 := h.row.frozen 7
  have HG : Hid _ := h
  clear h
  go_enter Tryd.func110, Tryd.ntmps110
  go_wp2_with fail
  refine (has_any bn num dl dv _ c8 HG.out.dl hdl).mono ?_
  rintro e1 w1 ⟨rfl, rfl⟩
  by_cases hm : num ∈ dl
  · have g1 : decide (num ∈ dl) = true := decide_eq_true hm
    go_wp2_with fail
    go_ret
    exact ⟨true, rfl, ⟨⟨f, K, last, rv, gs, rs, dv, dl, .had hm, fun _ _ => rfl, HG.out, fun k hk => .inl hk, fun k hk => .inl hk, fun g hg => .inl hg⟩, Turn.refl _ _⟩⟩
  · have g1 : decide (num ∈ dl) = false := decide_eq_false hm
    by_cases hlt : num < last
    · have g2 : decide ((num : Int) < (last : Int)) = true := by simp; omega
      go_wp2_with fail
      go_ret
      exact ⟨false, rfl, ⟨⟨f, K, last, rv, gs, rs, dv, dl, .past hm hlt, fun _ _ => rfl, HG.out, fun k hk => .inl hk, fun k hk => .inl hk, fun g hg => .inl hg⟩, Turn.refl _ _⟩⟩
    · have g2 : decide ((num : Int) < (last : Int)) = false := by simp; omega
      go_upto_if 33 with fail
      go_cut [11] from 18 to 79 (fun hv wx => hv = .bool false ∧ ∃ (f2 : Nat → Value) (rv2 : Value) (gs2 : List Nat), (∀ j, j < 5 ∨ 8 < j → f2 j = f j) ∧ GetAt wx bn f2 B K2 num rv2 gs2 (if last < num then [] else rs) dv dl ∧ (rv2 = rv ∨ rv2 = .slice none 0 0) ∧ (∀ g ∈ gs2, g ∈ gs) ∧ Turn [bn] w1 wx)
      case first =>
        by_cases hgt : last < num
        · obtain ⟨f2, hf2, hG2⟩ := HG.out.begin num K2
          have HG2 : Hid _ := hG2
          have g3 : decide ((last : Int) < (num : Int)) = true := by simp; omega
          clear hG2
          go_wp2_with fail
          go_meet
          exact ⟨rfl, f2, .slice none 0 0, [], fun j hj => hf2 j (by omega) (by omega) (by omega), by rw [if_pos hgt]; exact HG2.out, .inr rfl, by simp, (((Turn.refl [bn] w1).setCell (.inl (by simp)) _).setCell (.inl (by simp)) _).setCell (.inl (by simp)) _⟩
        · have g3 : decide ((last : Int) < (num : Int)) = false := by simp; omega
          have e1 : num = last := by omega
          have e2 := hKe e1
          have HG2 : Hid (GetAt w1 bn f B K2 num rv gs rs dv dl) := by rw [Hid, ← e2, e1]; exact HG.out
          clear e1 e2
          go_wp2_with fail
          go_meet
          exact ⟨rfl, f, rv, gs, fun _ _ => rfl, by rw [if_neg hgt]; exact HG2.out, .inl rfl, fun g hg => hg, Turn.refl _ _⟩
      case rest =>
        obtain ⟨rfl, f2, rv2, gs2, hf2, hg2, hrv2, hgs2, hT2⟩ := hcut
        obtain ⟨W2, hW2⟩ : ∃ W2, W2 = wc := ⟨_, rfl⟩
        subst hW2
        clear c5 c6 c7 c8 z5 z6 z7
        have hrs2 : (if last < num then [] else rs).length < 4398046511104 := by
          split
          · show 0 < _
            omega
          · exact hrs
        have HCI : Hid (∀ b dl', ((rankL ((if last < num then [] else rs) ++ [Dz.rowOf nonce K2 id]) < K2 ∧ b = false ∧ dl' = dl) ∨ (K2 ≤ rankL ((if last < num then [] else rs) ++ [Dz.rowOf nonce K2 id]) ∧ b = true ∧ dl' = dl ++ [num])) → CameIs num K2 (Dz.rowOf nonce K2 id) last K rs dl b num K2 ((if last < num then [] else rs) ++ [Dz.rowOf nonce K2 id]) dl') := fun b dl' q => by
          rcases q with ⟨q1, rfl, rfl⟩ | ⟨q1, rfl, rfl⟩
          · exact .part hm (by omega) q1
          · exact .full hm (by omega) q1
        generalize (if last < num then [] else rs) = rs2 at *
        obtain ⟨sl2, cap2, rfl, _⟩ := hg2.rl.shape
        have hrlt := Dz.rowOf_lt nonce K2 id hK1
        have HG2 : Hid _ := hg2
        have HT2 : Hid _ := hT2
        have hsz2 := hT2.size
        clear hg2 hT2 HG
        go_wp2_with fail
        refine (refRow_any nonce id K2 _ hK1 hK2 (by omega) (by omega)).mono ?_
        rintro e1 w3 ⟨rfl, hb3, hr3⟩
        have hbr3 : BR w3 W2.heap.size K2 (Dz.rowOf nonce K2 id) := hr3
        generalize hRR : Dz.rowOf nonce K2 id = r at *
        have T3 : Turn [] W2 w3 := Turn.below hb3 (Nat.le_refl _)
        have hsz3 := T3.size
        have T4 : Turn [] w3 (w3.alloc (.cells #[.slice (some ⟨W2.heap.size, 0, none⟩) K2 K2] 76)) := (Turn.refl [] w3).alloc _
        have hG4 := (HG2.out.turn T3).turn T4
        have hb4 := hbr3.turn T4 (by simp)
        have hN4 : (w3.alloc (.cells #[.slice (some ⟨W2.heap.size, 0, none⟩) K2 K2] 76)).cell? ⟨w3.heap.size, 0, none⟩ = some (rowV W2.heap.size K2) := by rw [cell_of_row _ _ _ _ _ _ (heap_alloc_new w3 _)]; rfl
        have c7 := (HG2.out.turn T3).cells.2.2.1
        have hsz4 : B ≤ (w3.alloc (.cells #[.slice (some ⟨W2.heap.size, 0, none⟩) K2 K2] 76)).heap.size := by simp; omega
        clear hb3 hr3
        go_upto_region 10 with (at_builtin; (refine wpList_rows _ rfl _ _ rfl _ hG4.rl rfl w3.heap.size 1 rfl hN4 hb4 hrlt (by omega) hsz4 ?_; intro q cap5 w5 hr5 ht5 hat5; have hrow5 := hG4.row.of_block (ht5.block bn hG4.row.lt (fun hm => net_ne hG4.row (by decide) hG4.rl.owns (by simpa using hm))); have y7 : w5.cell? ⟨bn, 7, none⟩ = some (.slice sl2 rs2.length cap2) := (by rw [hrow5.cell (by omega), hG4.f7]); have y8 := hrow5.frozen 7))
        obtain ⟨f3, hf3, hG5⟩ := (HG2.out.turn T3).more T4 hr5 ht5 hat5 (by simp)
        have hown2 : ∀ k, (Value.slice sl2 rs2.length cap2).ownBlock = some k → rv.ownBlock = some k := fun k hk => by
          rcases hrv2 with e | e
          · rw [← e]; exact hk
          · rw [e] at hk; simp [Value.ownBlock] at hk
        have hsz4' : w1.heap.size ≤ (w3.alloc (.cells #[.slice (some ⟨W2.heap.size, 0, none⟩) K2 K2] 76)).heap.size := by simp; omega
        have TA : Turn (bn :: (rv.ownBlock.toList ++ dv.ownBlock.toList)) w1 (w5.setCell ⟨bn, 7, none⟩ (.slice (some ⟨q, 0, none⟩) (rs2.length + 1) cap5)) := by
          have a1 : Turn (bn :: (rv.ownBlock.toList ++ dv.ownBlock.toList)) w1 W2 := HT2.out.mono (by simp)
          have a3 := (a1.trans T3 (by simp)).trans T4 (by simp)
          have a4 := a3.trans ht5 (fun x hx => .inl (by
            have := hown2 x (by simpa using hx)
            simp [this]))
          exact a4.setCell (.inl (by simp)) _
        have HO1 : Hid (∀ k, (Value.slice (some ⟨q, 0, none⟩) (rs2.length + 1) cap5).ownBlock = some k → rv.ownBlock = some k ∨ w1.heap.size ≤ k) := fun k hk => by
          obtain rfl : q = k := by simpa [Value.ownBlock] using hk
          rcases hat5 with m | m
          · exact .inl (hown2 q m)
          · exact .inr (by omega)
        have HO2 : Hid (∀ g ∈ gs2 ++ [W2.heap.size], g ∈ gs ∨ w1.heap.size ≤ g) := fun g hg => by
          rcases List.mem_append.1 hg with m | m
          · exact .inl (hgs2 g m)
          · rw [List.mem_singleton.1 m]; exact .inr hsz2
        have HG5 : Hid _ := hG5
        have HTA : Hid _ := TA
        have c7' := hG5.cells.2.2.1
        clear hG5 TA hr5 ht5 hat5 hrow5 y7 y8 hG4 hb4 hN4 c7 hsz4 hsz4' T4 T3 hbr3 HG2 HT2 hown2
        generalize w5.setCell ⟨bn, 7, none⟩ (.slice (some ⟨q, 0, none⟩) (rs2.length + 1) cap5) = w6 at *
        go_wp2_with fail
        refine (refRank_any _ B K2 _ _ _ HG5.out.rl HG5.out.r0 hK2 (by simp; omega)).mono ?_
        rintro e1 w7 ⟨rfl, hb7⟩
        have T7 : Turn [] w6 w7 := Turn.below hb7 (Nat.le_refl _)
        have hG7 := HG5.out.turn T7
        have HG7 : Hid _ := hG7
        have HT7 : Hid _ := HTA.out.trans T7 (by simp)
        have hsz7 : B ≤ w7.heap.size := by have := HTA.out.size; have := T7.size; omega
        have hsz7' : w1.heap.size ≤ w7.heap.size := HT7.out.size
        clear hb7 HG5 HTA T7 c7'
        by_cases hrk : rankL (rs2 ++ [r]) < K2
        · have g5 : decide ((rankL (rs2 ++ [r]) : Int) < (K2 : Int)) = true := by simp; omega
          have HC : Hid _ := HCI.out false dl (.inl ⟨hrk, rfl, rfl⟩)
          clear HCI hG7
          go_wp2_with fail
          go_ret
          exact ⟨false, rfl, ⟨⟨f3, K2, num, _, _, _, dv, dl, by rw [hRR]; exact HC.out, fun j hj => (hf3 j (by omega)).trans (hf2 j hj), HG7.out, HO1.out, fun k hk => .inl hk, HO2.out⟩, HT7.out⟩⟩
        · have g5 : decide ((rankL (rs2 ++ [r]) : Int) < (K2 : Int)) = false := by simp; omega
          have HC : Hid _ := HCI.out true (dl ++ [num]) (.inr ⟨by omega, rfl, rfl⟩)
          obtain ⟨dsl, dcap, rfl⟩ := hG7.dl.shape
          have T8 : Turn [] w7 (w7.alloc (.cells #[.int .i64 num] 3)) := (Turn.refl [] w7).alloc _
          have hG8 := hG7.turn T8
          have hN8 : (w7.alloc (.cells #[.int .i64 num] 3)).cell? ⟨w7.heap.size, 0, none⟩ = some (.int .i64 num) := by rw [cell_of_row _ _ _ _ _ _ (heap_alloc_new w7 _)]; rfl
          have hsz8 : B ≤ (w7.alloc (.cells #[.int .i64 num] 3)).heap.size := by simp; omega
          have hsz8' : w1.heap.size ≤ (w7.alloc (.cells #[.int .i64 num] 3)).heap.size := by simp; omega
          have c8 := hG7.cells.2.2.2
          clear HCI
          go_upto_region 14 with (at_builtin; (refine wpList_nums _ rfl _ _ rfl _ hG8.dl rfl w7.heap.size 1 rfl hN8 (by omega) ?_; intro q9 cap9 w9 hn9 ht9 hat9; have hrow9 := hG8.row.of_block (ht9.block bn hG8.row.lt (fun hm => net_ne hG8.row (by decide) hG8.dl.owns (by simpa using hm))); have y7 : w9.cell? ⟨bn, 8, none⟩ = some (.slice dsl dl.length dcap) := (by rw [hrow9.cell (by omega), hG8.f8]); have y8 := hrow9.frozen 8))
          obtain ⟨f4, hf4, hG9⟩ := hG7.deliver hsz8 T8 hn9 ht9 hat9
          have HG9 : Hid _ := hG9
          have HT9 : Hid (Turn (bn :: (rv.ownBlock.toList ++ (Value.slice dsl dl.length dcap).ownBlock.toList)) w1 (w9.setCell ⟨bn, 8, none⟩ (.slice (some ⟨q9, 0, none⟩) (dl.length + 1) cap9))) := ((HT7.out.trans T8 (by simp)).trans ht9 (fun x hx => .inl (by simp at hx; simp [hx]))).setCell (.inl (by simp)) _
          have HO3 : Hid (∀ k, (Value.slice (some ⟨q9, 0, none⟩) (dl.length + 1) cap9).ownBlock = some k → (Value.slice dsl dl.length dcap).ownBlock = some k ∨ w1.heap.size ≤ k) := fun k hk => by
            obtain rfl : q9 = k := by simpa [Value.ownBlock] using hk
            rcases hat9 with m | m
            · exact .inl m
            · exact .inr (by omega)
          clear hG9 hn9 ht9 hat9 hrow9 y7 y8 hG8 hN8 hG7 T8
          go_wp2_with fail
          go_ret
          exact ⟨true, rfl, ⟨⟨f4, K2, num, _, _, _, _, _, by rw [hRR]; exact HC.out, fun j hj => (hf4 j (by omega)).trans ((hf3 j (by omega)).trans (hf2 j hj)), HG9.out, HO1.out, HO3.out, HO2.out⟩, HT9.out⟩⟩
end Go.Proofs.YtfbbidaoljfloaaDoor


namespace Go.Proofs.YtfbbidaoljfloaaDoor
open Go.RowKit Go.MuLone

theorem frame_lost {V : RV} {num row : Nat} {data : ByteArray} (hv : RVOk V) (hdl : V.dlv num = false) (hlt : num < V.num) (h1 : 1 ≤ num) (h5 : num ≤ 500) (hd : data.size ≤ 32 * V.blk) (hr0 : row ≠ 0) (hr : row < 2 ^ blocksOf data.size V.blk) :
    V.handle (fText num V.blk row data) = (V, none) := by
  have hb1 := hv.b1
  have hb2 := hv.b2
  have hK := blocksOf_le data.size V.blk hb1 hd
  have hr32 := Rx.lt32 hK hr
  have hrd : readS (fText num V.blk row data) V.blk = some (num, data.size, row, sumRow data V.blk row) := by
    have := readS_text (x1 := num) (x2 := data.size) (x3 := row) (ns := sumRow data V.blk row) (by omega) (by omega) hr32
    rw [sumRow_len] at this
    exact this
  have hc : canB num data.size row V.blk = true := canB_iff.2 ⟨h1, h5, hK, hr0, hr⟩
  have hf : V.first num data.size = V := by unfold RV.first; rw [if_neg (by omega)]
  have hgo : V.gone num data.size row (sumRow data V.blk row) = V := by
    unfold RV.gone RV.gather
    rw [if_neg (by rw [hdl]; exact Bool.false_ne_true), hf, if_pos (.inl hlt)]
  unfold RV.handle
  rw [hrd]
  simp only
  rw [if_pos hc, hgo, if_neg (by rw [hdl]; exact Bool.false_ne_true)]

/-- The program's receiver against the document's. -/
structure GetIs (V : RV) (blk : Nat) (ds : List ByteArray) (last K : Nat) (rs dl : List Nat) : Prop where
  eblk : V.blk = blk
  num : V.num = last
  bks : V.bks = K
  rnk : V.rnk = rankL rs
  le : last ≤ ds.length
  dlv : ∀ n, V.dlv n = true ↔ n ∈ dl
  dle : ∀ n ∈ dl, 1 ≤ n ∧ n ≤ last
  len : dl.length ≤ last ∧ (1 ≤ last → last ∉ dl → dl.length + 1 ≤ last)
  dat : ∀ n, last = n + 1 → ∃ d, ds[n]? = some d ∧ K = blocksOf d.size blk ∧ (n + 1 ∉ dl → Track V (n + 1) d ∧ SetIs blk K V.set rs)
theorem GetIs.start (blk : Nat) : GetIs (RV.fresh blk) blk [] 0 0 [] [] :=
  ⟨rfl, rfl, rfl, by rw [rankL_nil]; rfl, Nat.le_refl _, fun n => by simp [RV.fresh], by simp, ⟨Nat.le_refl _, fun h => by omega⟩, fun n hn => by omega⟩
theorem GetIs.more {V : RV} {blk : Nat} {ds : List ByteArray} {last K : Nat} {rs dl : List Nat} (h : GetIs V blk ds last K rs dl) (d : ByteArray) : GetIs V blk (ds ++ [d]) last K rs dl :=
  ⟨h.eblk, h.num, h.bks, h.rnk, by have := h.le; simp; omega, h.dlv, h.dle, h.len, fun n hn => by
    obtain ⟨x, hx, q⟩ := h.dat n hn
    exact ⟨x, by rw [List.getElem?_append_left (List.getElem?_eq_some_iff.1 hx).1]; exact hx, q⟩⟩
theorem GetIs.take {V : RV} {blk : Nat} {ds : List ByteArray} {last K : Nat} {rs dl : List Nat} (h : GetIs V blk ds last K rs dl) (l : Parcels) : GetIs { V with ready := l } blk ds last K rs dl :=
  ⟨h.eblk, h.num, h.bks, h.rnk, h.le, h.dlv, h.dle, h.len, fun n hn => by
    obtain ⟨x, hx, q1, q2⟩ := h.dat n hn
    exact ⟨x, hx, q1, fun hnd => ⟨⟨(q2 hnd).1.und, (q2 hnd).1.at_⟩, (q2 hnd).2⟩⟩⟩

/-- A frame comes at both. -/
theorem GetIs.came {V : RV} {blk : Nat} {ds : List ByteArray} {last K n r : Nat} {rs dl : List Nat} {d : ByteArray} {b : Bool} {last' K' : Nat} {rs' dl' : List Nat} (h : GetIs V blk ds last K rs dl) (hv : RVOk V) (hn : ds[n]? = some d) (h5 : ds.length ≤ 500) (hd : d.size ≤ 32 * blk) (hr0 : r ≠ 0) (hr : r < 2 ^ blocksOf d.size blk)
    (hc : CameIs (n + 1) (blocksOf d.size blk) r last K rs dl b last' K' rs' dl') :
    ∃ V2, V.handle (fText (n + 1) blk r d) = (V2, if b then some (doneB (n + 1) blk) else none) ∧ GetIs V2 blk ds last' K' rs' dl' ∧ ((dl' = dl ∧ V2.ready = V.ready) ∨ (dl' = dl ++ [n + 1] ∧ V2.ready = V.ready ++ [(d, n + 1)])) := by
  obtain ⟨hb, hnum, hbks, hrnk, hle, hdlv, hdle, hlen, hdat⟩ := h
  subst hb
  have hlt := (List.getElem?_eq_some_iff.1 hn).1
  have hK1 := blocksOf_pos d.size V.blk
  have hK2 := blocksOf_le d.size V.blk hv.b1 hd
  have h0 : GetIs V V.blk ds last K rs dl := ⟨rfl, hnum, hbks, hrnk, hle, hdlv, hdle, hlen, hdat⟩
  have step : n + 1 ∉ dl → last ≤ n + 1 → ∃ V2, Stepped V V2 (n + 1) r d ∧ V.handle (fText (n + 1) V.blk r d) = (if V2.srk = V2.bks then (V2.deliver, some (doneB (n + 1) V.blk)) else (V2, none)) ∧ SetIs V.blk (blocksOf d.size V.blk) V2.set ((if last < n + 1 then [] else rs) ++ [r]) ∧ V2.srk = rankL ((if last < n + 1 then [] else rs) ++ [r]) := fun hnd hl => by
    have hdf : V.dlv (n + 1) = false := by
      cases hq : V.dlv (n + 1)
      · rfl
      · exact absurd ((hdlv _).1 hq) hnd
    have htr : Track V (n + 1) d ∧ SetIs V.blk (blocksOf d.size V.blk) (V.sofar (n + 1)) (if last < n + 1 then [] else rs) := by
      by_cases hlt2 : last < n + 1
      · rw [if_pos hlt2]
        refine ⟨⟨hdf, .inl (by omega)⟩, ?_⟩
        unfold RV.sofar
        rw [if_pos (by omega)]
        exact SetIs.nil _ _
      · rw [if_neg hlt2]
        obtain ⟨x, hx, q1, q2⟩ := hdat n (by omega)
        rw [hn] at hx
        obtain rfl : d = x := by simpa using hx
        obtain ⟨t1, t2⟩ := q2 hnd
        refine ⟨t1, ?_⟩
        unfold RV.sofar
        rw [if_neg (by omega), ← q1]
        exact t2
    obtain ⟨V2, hs, hh⟩ := frame_step hv htr.1 (by omega) (by omega) hd hr0 hr
    have hset := htr.2.add hK2 hr (sumRow_len d V.blk r) (sumRow_lt d V.blk r)
    rw [← hs.set] at hset
    refine ⟨V2, hs, hh, hset, ?_⟩
    rw [hs.ok.cnt, hs.bks]
    exact hset.rank hK2
  rcases hc with ⟨⟨hm, rfl, rfl, rfl, rfl, rfl⟩ | ⟨hnd, hl, rfl, rfl, rfl, rfl, rfl⟩ | ⟨hnd, hl, hrk, rfl, rfl, rfl, rfl, rfl⟩ | ⟨hnd, hl, hrk, rfl, rfl, rfl, rfl, rfl⟩⟩
  · rw [frame_late hv ((hdlv _).2 hm) (by omega) (by omega) hd hr0 hr]
    exact ⟨V, rfl, h0, .inl ⟨rfl, rfl⟩⟩
  · have hdf : V.dlv (n + 1) = false := by
      cases hq : V.dlv (n + 1)
      · rfl
      · exact absurd ((hdlv _).1 hq) hnd
    rw [frame_lost hv hdf (by omega) (by omega) (by omega) hd hr0 hr]
    exact ⟨V, rfl, h0, .inl ⟨rfl, rfl⟩⟩
  · obtain ⟨V2, hs, hh, hset, hsr⟩ := step hnd hl
    rw [hh, if_neg (by rw [hsr, hs.bks]; omega)]
    refine ⟨V2, rfl, ⟨hs.blk, hs.snum, hs.bks, by rw [hs.rnk, hsr], by omega, fun m => by rw [hs.dlv]; exact hdlv m, fun m hm => by have := hdle m hm; omega, ?_, fun m hm => ?_⟩, .inl ⟨rfl, hs.ready⟩⟩
    · refine ⟨by omega, fun _ _ => ?_⟩
      by_cases e : last = n + 1
      · have := hlen.2 (by omega) (by rw [e]; exact hnd); omega
      · omega
    obtain rfl : n = m := by omega
    refine ⟨d, hn, rfl, fun _ => ⟨?_, hset⟩⟩
    have hdf : V2.dlv (n + 1) = false := by
      rw [hs.dlv]
      cases hq : V.dlv (n + 1)
      · rfl
      · exact absurd ((hdlv _).1 hq) hnd
    exact ⟨hdf, .inr ⟨hs.snum, hs.len, by rw [hs.blk]; exact hs.bks, by rw [hs.blk]; exact hs.good, hs.rnk⟩⟩
  · obtain ⟨V2, hs, hh, hset, hsr⟩ := step hnd hl
    have hfl : V2.srk = V2.bks := by
      have h1 : V2.srk ≤ V2.bks := by rw [hs.ok.cnt]; exact Rx.cntR_le _ _
      have h2 : V2.bks ≤ V2.srk := by rw [hsr, hs.bks]; exact hrk
      omega
    rw [hh, if_pos hfl]
    have hdd : ∀ m, V2.deliver.dlv m = true ↔ m = n + 1 ∨ V.dlv m = true := fun m => by
      show (if m = V2.num then true else V2.dlv m) = true ↔ _
      rw [hs.snum, hs.dlv]
      by_cases e : m = n + 1 <;> simp [e]
    refine ⟨V2.deliver, rfl, ⟨hs.blk, hs.snum, hs.bks, ?_, by omega, fun m => ?_, fun m hm => ?_, ?_, fun m hm => ?_⟩, .inr ⟨rfl, hs.data hfl⟩⟩
    · show V2.rnk = _
      rw [hs.rnk, hsr]
    · rw [hdd, hdlv, List.mem_append, List.mem_singleton]
      exact ⟨Or.symm, Or.symm⟩
    · rcases List.mem_append.1 hm with q | q
      · have := hdle m q; omega
      · rw [List.mem_singleton.1 q]; omega
    · refine ⟨?_, fun _ hq => absurd (by simp) hq⟩
      rw [List.length_append, List.length_singleton]
      by_cases e : last = n + 1
      · have := hlen.2 (by omega) (by rw [e]; exact hnd); omega
      · omega
    · obtain rfl : n = m := by omega
      exact ⟨d, hn, rfl, fun hq => absurd (by simp) hq⟩

end Go.Proofs.YtfbbidaoljfloaaDoor
