import Derived.Test.YtfbbidaoljfloaaDoorF1
import Derived.Deep.OwnRows
import Derived.BigQuiet
namespace Go.Proofs.YtfbbidaoljfloaaDoor
open Go.RowKit Go.MuLone

structure IntsF (w : World) (sl : Option Addr) (zs : List Int) : Prop where
  at_ : ∀ i x, zs[i]? = some x → ∃ a, sl = some a ∧ a.block < w.heap.size ∧ w.cell? (a.add i) = some (.int .i64 x)
  lo : ∀ x ∈ zs, -9223372036854775808 ≤ x ∧ x ≤ 9223372036854775807
  len : zs.length ≤ 1152921504606846976

/-- The cells of what lets frames by. -/
def fairC (f : Nat) (rv : Value) (at_ : Nat) (lost : Nat → Nat) (i : Nat) : Value :=
  if i = 0 then .int .i64 f else if i = 1 then rv else if i = 2 then .int .i64 at_ else if i < 37 then .int .i64 (lost (i - 3)) else .int .i64 0
structure FairAt (w : World) (bn f : Nat) (rv : Value) (at_ : Nat) (lost : Nat → Nat) : Prop where
  row : w.rowIs bn 83 38 (fairC f rv at_ lost)
theorem FairAt.c0 {w : World} {bn f at_ : Nat} {rv : Value} {lost : Nat → Nat} (h : FairAt w bn f rv at_ lost) : w.cell? ⟨bn, 0, none⟩ = some (.int .i64 f) := h.row.cell (by omega)
theorem FairAt.c1 {w : World} {bn f at_ : Nat} {rv : Value} {lost : Nat → Nat} (h : FairAt w bn f rv at_ lost) : w.cell? ⟨bn, 1, none⟩ = some rv := h.row.cell (by omega)
theorem FairAt.c2 {w : World} {bn f at_ : Nat} {rv : Value} {lost : Nat → Nat} (h : FairAt w bn f rv at_ lost) : w.cell? ⟨bn, 2, none⟩ = some (.int .i64 at_) := h.row.cell (by omega)
theorem FairAt.cl {w : World} {bn f at_ : Nat} {rv : Value} {lost : Nat → Nat} (h : FairAt w bn f rv at_ lost) {c : Nat} (hc : c < 34) : w.cell? ⟨bn, 3 + c, none⟩ = some (.int .i64 (lost c)) := by
  rw [h.row.cell (by omega)]
  unfold fairC
  rw [if_neg (by omega), if_neg (by omega), if_neg (by omega), if_pos (by omega), show 3 + c - 3 = c by omega]
theorem FairAt.turn {Z : List Nat} {w w' : World} {bn f at_ : Nat} {rv : Value} {lost : Nat → Nat} (h : FairAt w bn f rv at_ lost) (ht : Turn Z w w') (hz : bn ∉ Z) : FairAt w' bn f rv at_ lost := ⟨h.row.of_block (ht.block bn h.row.lt hz)⟩
theorem FairAt.setAt {w : World} {bn f at_ : Nat} {rv : Value} {lost : Nat → Nat} (h : FairAt w bn f rv at_ lost) (a2 : Nat) : FairAt (w.setCell ⟨bn, 2, none⟩ (.int .i64 a2)) bn f rv a2 lost :=
  ⟨(h.row.set 2 (.int .i64 a2)).congr (fun i _ => by
    unfold fairC
    by_cases e : i = 2
    · subst e; simp
    · simp [e])⟩
theorem FairAt.setLost {w : World} {bn f at_ : Nat} {rv : Value} {lost : Nat → Nat} (h : FairAt w bn f rv at_ lost) {c : Nat} (hc : c < 34) (x : Nat) : FairAt (w.setCell ⟨bn, 3 + c, none⟩ (.int .i64 x)) bn f rv at_ (fun y => if y = c then x else lost y) :=
  ⟨(h.row.set (3 + c) (.int .i64 x)).congr (fun i hi => by
    unfold fairC
    by_cases e : i = 3 + c
    · subst e
      rw [if_pos rfl, if_neg (by omega), if_neg (by omega), if_neg (by omega), if_pos (by omega), show 3 + c - 3 = c by omega]
      simp
    · rw [if_neg e]
      split
      · rfl
      · split
        · rfl
        · split
          · rfl
          · split
            · simp only []
              rw [if_neg (by omega)]
            · rfl)⟩

theorem Turn.cellAt {Z : List Nat} {w w' : World} (h : Turn Z w w') {b j : Nat} {v : Value} (hc : w.cell? ⟨b, j, none⟩ = some v) (hz : b ∉ Z) : w'.cell? ⟨b, j, none⟩ = some v := by
  have hlt := World.block_lt_of_cell? w _ hc
  have he := h.block b hlt hz
  rw [← hc]
  unfold World.cell?
  simp only [he]
theorem lostF_snoc (b : Bool) (c : Nat) : ∀ (l : List Nat) (L : Nat → Nat), lostF b (l ++ [c]) L = fun x => if x = c then (if b then 0 else lostF b l L c + 1) else lostF b l L x
  | [], _ => rfl
  | _ :: l, _ => lostF_snoc b c l _

set_option maxRecDepth 100000 in
set_option maxHeartbeats 4000000 in
theorem lets_any (bn g ccap f at_ : Nat) (sl : Option Addr) (zcap : Nat) (zs : List Int) (cs : List Nat) (lost : Nat → Nat) (w : World) (hf : FairAt w bn f (.slice sl zs.length zcap) at_ lost) (hz : IntsF w sl zs)
    (hc : ∀ (i c : Nat), cs[i]? = some c → w.cell? ⟨g, i, none⟩ = some (.int .i64 c) ∧ c < 34) (hn : cs.length ≤ 2) (hg : g ≠ bn) (hat : at_ ≤ 1000000) (hl : ∀ c, lost c ≤ 1000000) :
    Calls Tryd.prog 32 #[.pointer (some ⟨bn, 0, none⟩), .slice (some ⟨g, 0, none⟩) cs.length ccap] w fun e w' => ∃ (b : Bool) (a2 : Nat), e = .returned (.bool b) ∧ (∀ c ∈ cs, f ≤ lost c + 1 → b = true) ∧ a2 ≤ at_ + 1 ∧ FairAt w' bn f (.slice sl zs.length zcap) a2 (lostF b cs lost) ∧ Turn [bn] w w' := by
  have s0 := hf.c0
  have s1 := hf.c1
  have s2 := hf.c2
  have hzl := hz.len
  have sf := hf.row.frozen 2
  have HF : Hid _ := hf
  have HZ : Hid _ := hz
  have HC : Hid _ := hc
  have HL : Hid _ := hl
  clear hf hz hc hl
  go_enter Tryd.func32, Tryd.ntmps32
  go_upto_if 14 with fail
  go_cut [5] from 9 to 93 (fun cv wx => ∃ (c : Int) (a2 : Nat), cv = .int .i64 c ∧ -9223372036854775808 ≤ c ∧ c ≤ 9223372036854775807 ∧ a2 ≤ at_ + 1 ∧ FairAt wx bn f (.slice sl zs.length zcap) a2 lost ∧ Turn [bn] w wx)
  case first =>
    by_cases hzs : zs.length = 0
    · have g1 : decide (0 < zs.length) = false := decide_eq_false (by omega)
      go_wp2_with fail
      go_meet
      exact ⟨0, at_, rfl, by omega, by omega, by omega, HF.out, Turn.refl _ _⟩
    · have g1 : decide (0 < zs.length) = true := decide_eq_true (by omega)
      obtain ⟨j, hj⟩ : ∃ j : Nat, j = at_ % zs.length := ⟨_, rfl⟩
      have hjl : j < zs.length := by rw [hj]; exact Nat.mod_lt _ (by omega)
      have hje : (at_ : Int) % (zs.length : Int) = (j : Int) := by rw [hj]; rfl
      obtain ⟨x, hx⟩ : ∃ x, zs[j]? = some x := ⟨_, List.getElem?_eq_getElem hjl⟩
      obtain ⟨aa, ha, hab, hac⟩ := HZ.out.at_ j x hx
      obtain ⟨hx1, hx2⟩ := HZ.out.lo x (List.mem_of_getElem? hx)
      subst ha
      have j0 : (0 : Int) ≤ (j : Int) := by omega
      have j1 : (j : Int) < (zs.length : Int) := by omega
      have hac2 : w.cell? (aa.add (at_ % zs.length)) = some (.int .i64 x) := by rw [← hj]; exact hac
      have e0 : 0 ≤ (at_ : Int) % (zs.length : Int) := by rw [hje]; exact j0
      have e1 : (at_ : Int) % (zs.length : Int) < (zs.length : Int) := by rw [hje]; exact j1
      clear hj hx hje
      go_wp2_with fail
      go_region
      go_wp2_with fail
      have hfa := HF.out.setAt (at_ + 1)
      rw [show ((at_ + 1 : Nat) : Int) = (at_ : Int) + 1 by omega] at hfa
      have HFA : Hid _ := hfa
      go_meet
      exact ⟨x, at_ + 1, rfl, hx1, hx2, Nat.le_refl _, ⟨HFA.out.row.drew⟩, ((Turn.refl [bn] w).setCell (.inl (by simp)) _).drew⟩
  case rest =>
    obtain ⟨c0, a2, rfl, hc1, hc2, ha2, hf1, ht1⟩ := hcut
    obtain ⟨W1, hW1⟩ : ∃ W1, W1 = wc := ⟨_, rfl⟩
    subst hW1
    have HF1 : Hid _ := hf1
    have HT1 : Hid _ := ht1
    clear hf1 ht1 HF s0 s1 s2 sf
    go_wp2_with fail
    refine (keepPick_any c0 2 _ hc1 hc2 (by omega) (by omega)).mono ?_
    rintro e1 w2 ⟨k, hk, rfl, rfl⟩
    go_wp2_with fail
    generalize (k : Int) = k0
    go_loopw [6, 7] (fun bv iv wx => ∃ (i : Nat) (b : Bool), iv = .int .i64 i ∧ bv = .bool b ∧ i ≤ cs.length ∧ (∀ m c : Nat, m < i → cs[m]? = some c → f ≤ lost c + 1 → b = true) ∧ FairAt wx bn f (.slice sl zs.length zcap) a2 lost ∧ Turn [bn] w wx) (fun _ iv _ => cs.length - (intOf iv).toNat)
    case atStart => exact ⟨0, _, rfl, rfl, Nat.zero_le _, fun m c hm => by omega, HF1.out, HT1.out⟩
    case round =>
      obtain ⟨i, b, rfl, rfl, hi, hb, hf2, ht2⟩ := hrel
      clear HF1 HT1
      have HB : Hid _ := hb
      have HT2 : Hid _ := ht2
      by_cases hil : i < cs.length
      · obtain ⟨c, hx⟩ : ∃ c, cs[i]? = some c := ⟨_, List.getElem?_eq_getElem hil⟩
        obtain ⟨hcc, hc34⟩ := HC.out i c hx
        have g1 : decide ((i : Int) < (cs.length : Int)) = true := by simp; omega
        have s3 := ht2.cellAt hcc (by simpa using hg)
        have s4 := hf2.cl hc34
        have s5 := hf2.c0
        have hlc := HL.out c
        have i0 : (0 : Int) ≤ (i : Int) := by omega
        have i1 : (i : Int) < (cs.length : Int) := by omega
        have k0 : (0 : Int) ≤ (c : Int) := by omega
        have k1 : (c : Int) < 34 := by omega
        have HF2 : Hid _ := hf2
        have HX : Hid _ := hx
        clear hf2 ht2 hb hcc hx
        cases b with
        | true =>
          go_wp2_with fail
          go_region
          go_wp2_with fail
          exact ⟨⟨i + 1, true, by go_num, rfl, by omega, fun _ _ _ _ _ => rfl, ⟨HF2.out.row.drew⟩, HT2.out.drew⟩, by simp [intOf]; omega⟩
        | false =>
          go_wp2_with fail
          go_region
          go_wp2_with fail
          refine ⟨⟨i + 1, _, by go_num, rfl, by omega, fun m d hm hd hfd => ?_, ⟨HF2.out.row.drew⟩, HT2.out.drew⟩, by simp [intOf]; omega⟩
          by_cases e : m = i
          · subst e
            have := hd.symm.trans HX.out
            obtain rfl : d = c := by simpa using this
            simp
            omega
          · have := HB.out m d (by omega) hd hfd
            cases this
      · obtain rfl : i = cs.length := by omega
        have g1 : decide ((cs.length : Int) < (cs.length : Int)) = false := by simp
        have HF2 : Hid _ := hf2
        have HBC : Hid (∀ c ∈ cs, f ≤ lost c + 1 → b = true) := fun c hc hfc => by
          obtain ⟨m, hm⟩ := List.getElem?_of_mem hc
          exact hb m c (List.getElem?_eq_some_iff.1 hm).1 hm hfc
        clear hf2 ht2 hb HB
        go_wp2_with fail
        go_loopw [8] (fun iv wx => ∃ i : Nat, iv = .int .i64 i ∧ i ≤ cs.length ∧ FairAt wx bn f (.slice sl zs.length zcap) a2 (lostF b (cs.take i) lost) ∧ Turn [bn] w wx) (fun iv _ => cs.length - (intOf iv).toNat)
        case atStart => exact ⟨0, rfl, Nat.zero_le _, HF2.out, HT2.out⟩
        case round =>
          obtain ⟨i, rfl, hi, hf3, ht3⟩ := hrel
          clear HF2 HT2
          have HF3 : Hid _ := hf3
          have HT3 : Hid _ := ht3
          by_cases hil : i < cs.length
          · obtain ⟨c, hx⟩ : ∃ c, cs[i]? = some c := ⟨_, List.getElem?_eq_getElem hil⟩
            obtain ⟨hcc, hc34⟩ := HC.out i c hx
            have g1 : decide ((i : Int) < (cs.length : Int)) = true := by simp; omega
            have s3 := ht3.cellAt hcc (by simpa using hg)
            have s4 := hf3.cl hc34
            have s6 := hf3.row.frozen (3 + c)
            have i0 : (0 : Int) ≤ (i : Int) := by omega
            have i1 : (i : Int) < (cs.length : Int) := by omega
            have k0 : (0 : Int) ≤ (c : Int) := by omega
            have k1 : (c : Int) < 34 := by omega
            have htk : cs.take (i + 1) = cs.take i ++ [c] := by
              obtain ⟨q1, q2⟩ := List.getElem?_eq_some_iff.1 hx
              rw [List.take_succ_eq_append_getElem q1, q2]
            have hlb : lostF b (cs.take i) lost c ≤ 1000002 := by
              have hk : ∀ (l : List Nat) (L : Nat → Nat) (x N : Nat), (∀ y, L y ≤ N) → lostF b l L x ≤ N + l.length := by
                intro l
                induction l with
                | nil => intro L x N h; exact h x
                | cons a l ih =>
                  intro L x N h
                  rw [lostF]
                  have := ih (fun y => if y = a then (if b then 0 else L a + 1) else L y) x (N + 1) (fun y => by
                    have h1 := h a
                    have h2 := h y
                    split
                    · split <;> omega
                    · omega)
                  simp
                  omega
              have := hk (cs.take i) lost c 1000000 HL.out
              simp at this
              omega
            have HTK : Hid _ := htk
            clear hf3 ht3 hcc hx htk
            generalize hLL : lostF b (cs.take i) lost = LL at *
            have hfa := HF3.out.setLost hc34 (LL c + 1)
            rw [show ((LL c + 1 : Nat) : Int) = (LL c : Int) + 1 by omega] at hfa
            have hta : Turn [bn] w (wr.setCell ⟨bn, 3 + c, none⟩ (.int .i64 ((LL c : Int) + 1))).drew := (HT3.out.setCell (.inl (by simp)) _).drew
            have HFA : Hid (FairAt (wr.setCell ⟨bn, 3 + c, none⟩ (.int .i64 ((LL c : Int) + 1))).drew bn f (.slice sl zs.length zcap) a2 (fun y => if y = c then LL c + 1 else LL y)) := ⟨hfa.row.drew⟩
            have HTA : Hid _ := hta
            clear hfa hta
            cases b with
            | true =>
              go_wp2_with fail
              go_region
              go_wp2_with fail
              generalize (wr.setCell ⟨bn, 3 + c, none⟩ (.int .i64 ((LL c : Int) + 1))).drew = w5 at *
              obtain ⟨hcc, _⟩ := HC.out i c (by have := congrArg (fun l => l[i]?) HTK.out; simpa [List.getElem?_take, Nat.min_eq_left (Nat.le_of_lt hil)] using this)
              have t3 := HTA.out.cellAt hcc (by simpa using hg)
              have t4 := HFA.out.cl hc34
              have t6 := HFA.out.row.frozen (3 + c)
              have hfb := HFA.out.setLost hc34 0
              have HFB : Hid (FairAt (w5.setCell ⟨bn, 3 + c, none⟩ (.int .i64 0)).drew bn f (.slice sl zs.length zcap) a2 (lostF true (cs.take (i + 1)) lost)) := by
                have e : lostF true (cs.take (i + 1)) lost = fun y => if y = c then 0 else if y = c then LL c + 1 else LL y := by
                  rw [HTK.out, lostF_snoc, hLL]
                  funext y
                  by_cases q : y = c <;> simp [q]
                rw [e]
                exact ⟨hfb.row.drew⟩
              clear hfb hcc s3 s4 s6
              go_region
              go_wp2_with fail
              exact ⟨⟨i + 1, by go_num, by omega, HFB.out, (HTA.out.setCell (.inl (by simp)) _).drew⟩, by simp [intOf]; omega⟩
            | false =>
              have HFB : Hid (FairAt (wr.setCell ⟨bn, 3 + c, none⟩ (.int .i64 ((LL c : Int) + 1))).drew bn f (.slice sl zs.length zcap) a2 (lostF false (cs.take (i + 1)) lost)) := by
                have e : lostF false (cs.take (i + 1)) lost = fun y => if y = c then LL c + 1 else LL y := by
                  rw [HTK.out, lostF_snoc, hLL]
                  simp
                rw [e]
                exact HFA.out
              go_wp2_with fail
              go_region
              go_wp2_with fail
              exact ⟨⟨i + 1, by go_num, by omega, HFB.out, HTA.out⟩, by simp [intOf]; omega⟩
          · obtain rfl : i = cs.length := by omega
            have g1 : decide ((cs.length : Int) < (cs.length : Int)) = false := by simp
            clear hf3 ht3
            go_wp2_with fail
            go_ret
            exact ⟨b, a2, rfl, HBC.out, ha2, by have := HF3.out; rw [List.take_length] at this; exact this, HT3.out⟩
end Go.Proofs.YtfbbidaoljfloaaDoor
