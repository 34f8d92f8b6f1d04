import Derived.Test.YtfbbidaoljfloaaDoorK3
namespace Go.Proofs.YtfbbidaoljfloaaDoor
open Go.RowKit Go.MuLone

/-- How many frames of the block j alone there are among the first i. -/
def cntJ (K j : Nat) : Nat → Nat
  | 0 => 0
  | i + 1 => cntJ K j i + if i % 4 = 0 ∧ i / 4 % K = j then 1 else 0
theorem cntJ_mono (K j : Nat) {a b : Nat} (h : a ≤ b) : cntJ K j a ≤ cntJ K j b := by
  induction b with
  | zero => rw [show a = 0 by omega]; exact Nat.le_refl _
  | succ b ih =>
    by_cases e : a = b + 1
    · rw [e]; exact Nat.le_refl _
    · have := ih (by omega)
      show _ ≤ cntJ K j b + _
      omega
theorem cntJ_first {K j : Nat} : ∀ i, i ≤ 4 * K → cntJ K j i = if 4 * j < i then 1 else 0 := by
  intro i
  induction i with
  | zero => intro _; simp [cntJ]
  | succ i ih =>
    intro hi
    have hm : i / 4 % K = i / 4 := Nat.mod_eq_of_lt (by omega)
    rw [cntJ, ih (by omega), hm]
    by_cases e : i = 4 * j
    · rw [if_neg (by omega), if_pos (by omega), if_pos (by omega)]
    · rw [if_neg (show ¬ (i % 4 = 0 ∧ i / 4 = j) by omega)]
      by_cases q : 4 * j < i
      · rw [if_pos q, if_pos (by omega)]
      · rw [if_neg q, if_neg (by omega)]
theorem cntJ_period {K j : Nat} (hj : j < K) (i : Nat) : cntJ K j (i + 4 * K) = cntJ K j i + 1 := by
  induction i with
  | zero => rw [Nat.zero_add, cntJ_first _ (Nat.le_refl _), if_pos (by omega)]; rfl
  | succ i ih =>
    rw [show i + 1 + 4 * K = (i + 4 * K) + 1 by omega, cntJ, ih, cntJ]
    have e1 : (i + 4 * K) % 4 = i % 4 := by omega
    have e2 : (i + 4 * K) / 4 % K = i / 4 % K := by
      rw [show (i + 4 * K) / 4 = i / 4 + K by omega, Nat.add_mod_right]
    rw [e1, e2]
    omega
theorem cntJ_full {K j : Nat} (hj : j < K) : ∀ f, cntJ K j (4 * K * f) = f := by
  intro f
  induction f with
  | zero => rfl
  | succ f ih => rw [show 4 * K * (f + 1) = 4 * K * f + 4 * K by rw [Nat.mul_succ], cntJ_period hj, ih]

/-- What is lost of each class, behind one thing of some classes. -/
def lostF (b : Bool) : List Nat → (Nat → Nat) → (Nat → Nat)
  | [], L => L
  | c :: cs, L => lostF b cs (fun x => if x = c then (if b then 0 else L c + 1) else L x)
theorem lostF_not {b : Bool} {x : Nat} : ∀ (cs : List Nat) (L : Nat → Nat), x ∉ cs → lostF b cs L x = L x
  | [], _, _ => rfl
  | c :: cs, L, h => by
    rw [lostF, lostF_not cs _ (fun hm => h (List.mem_cons_of_mem _ hm)), if_neg (fun e => h (by rw [e]; exact List.mem_cons_self ..))]
theorem lostF_one (b : Bool) (c : Nat) (L : Nat → Nat) (x : Nat) : lostF b [c] L x = if x = c then (if b then 0 else L c + 1) else L x := rfl
theorem lostF_two {b : Bool} {c d : Nat} (h : c ≠ d) (L : Nat → Nat) (x : Nat) : lostF b [c, d] L x = if x = d then (if b then 0 else L d + 1) else if x = c then (if b then 0 else L c + 1) else L x := by
  show (if x = d then (if b then 0 else (if d = c then _ else L d) + 1) else _) = _
  rw [if_neg (Ne.symm h)]

/-- Not all has come yet. -/
structure FairQ (V : RV) (data : ByteArray) (i f : Nat) (lost : Nat → Nat) : Prop where
  track : Track V 1 data
  part : V.num < 1 ∨ V.srk ≠ V.bks
  red : ∀ j, j < blocksOf data.size V.blk → redF 34 (V.sofar 1) (2 ^ j) = true ∨ cntJ (blocksOf data.size V.blk) j i ≤ lost j
  lim : ∀ c, lost c < f
  ready : V.ready = []

theorem FairQ.lt {V : RV} {data : ByteArray} {i f : Nat} {lost : Nat → Nat} (h : FairQ V data i f lost) (hv : RVOk V) (hd : data.size ≤ 32 * V.blk) : i < 4 * blocksOf data.size V.blk * f := by
  apply Classical.byContradiction
  intro hk
  have hK1 := blocksOf_pos data.size V.blk
  have hK := blocksOf_le data.size V.blk hv.b1 hd
  have hall : ∀ j, j < blocksOf data.size V.blk → (V.sofar 1 j).1 ≠ 0 := fun j hj => by
    rcases h.red j hj with q | q
    · exact redF_pow (by omega) q
    · exfalso
      have h1 := cntJ_mono (blocksOf data.size V.blk) j (show 4 * blocksOf data.size V.blk * f ≤ i by omega)
      rw [cntJ_full hj] at h1
      have := h.lim j
      omega
  rcases h.track.at_ with q | ⟨q1, q2, q3, q4, q5⟩
  · have := hall 0 (by omega)
    unfold RV.sofar at this
    rw [if_pos q] at this
    exact this rfl
  · rcases h.part with p | p
    · omega
    · apply p
      rw [hv.cnt, q3]
      apply Rx.cntR_all
      intro j hj
      have := hall j hj
      unfold RV.sofar at this
      rw [if_neg (by omega)] at this
      exact this

theorem FairQ.start {blk f : Nat} (data : ByteArray) (hf : 1 ≤ f) : FairQ (RV.fresh blk) data 0 f (fun _ => 0) :=
  ⟨⟨rfl, .inl (by simp [RV.fresh])⟩, .inl (by simp [RV.fresh]), fun j _ => .inr (Nat.zero_le _), fun _ => hf, rfl⟩

/-- The classes of the i-th frame. -/
def clsOf (K i : Nat) : List Nat := if i % 4 = 0 then [32, i / 4 % K] else [32]

/-- A frame is lost. -/
theorem FairQ.lose {V : RV} {data : ByteArray} {i f : Nat} {lost : Nat → Nat} (h : FairQ V data i f lost) (hv : RVOk V) (hd : data.size ≤ 32 * V.blk) (hb : ∀ c ∈ clsOf (blocksOf data.size V.blk) i, lost c + 1 < f) : FairQ V data (i + 1) f (lostF false (clsOf (blocksOf data.size V.blk) i) lost) := by
  have hK1 := blocksOf_pos data.size V.blk
  have hK := blocksOf_le data.size V.blk hv.b1 hd
  have hm : i / 4 % blocksOf data.size V.blk < blocksOf data.size V.blk := Nat.mod_lt _ (by omega)
  refine ⟨h.track, h.part, fun j hj => ?_, fun c => ?_, h.ready⟩
  · rcases h.red j hj with q | q
    · exact .inl q
    · right
      unfold clsOf
      rw [cntJ]
      by_cases h4 : i % 4 = 0
      · rw [if_pos h4, lostF_two (by omega)]
        by_cases e : j = i / 4 % blocksOf data.size V.blk
        · rw [if_pos e, ← e]; simp; split <;> omega
        · rw [if_neg e, if_neg (show ¬ (i % 4 = 0 ∧ i / 4 % blocksOf data.size V.blk = j) from fun p => e p.2.symm), if_neg (by omega)]; omega
      · rw [if_neg h4, lostF_one, if_neg (show ¬ j = 32 by omega), if_neg (fun p => h4 p.1)]; omega
  · have hl := h.lim c
    unfold clsOf at hb ⊢
    by_cases h4 : i % 4 = 0
    · rw [if_pos h4] at hb ⊢
      have b1 := hb 32 (by simp)
      have b2 := hb (i / 4 % blocksOf data.size V.blk) (by simp)
      rw [lostF_two (by omega)]
      split
      · simp; omega
      · split
        · simp; omega
        · exact hl
    · rw [if_neg h4] at hb ⊢
      have b1 := hb 32 (by simp)
      rw [lostF_one]
      split
      · simp; omega
      · exact hl

theorem lim_won {f : Nat} {cs : List Nat} (hf : 1 ≤ f) : ∀ (lost : Nat → Nat), (∀ c, lost c < f) → ∀ c, lostF true cs lost c < f := by
  induction cs with
  | nil => intro lost h c; exact h c
  | cons d cs ih =>
    intro lost h c
    rw [lostF]
    exact ih _ (fun x => by split <;> first | exact h x | (simp; omega)) c

/-- A frame comes, and it is not yet enough. -/
theorem FairQ.come {V V2 : RV} {data : ByteArray} {i f : Nat} {lost : Nat → Nat} {nonce : Int} (h : FairQ V data i f lost) (hv : RVOk V) (hd : data.size ≤ 32 * V.blk) (hf : 1 ≤ f) (hs : Stepped V V2 1 (Dz.rowOf nonce (blocksOf data.size V.blk) i) data) (hnf : ¬ V2.srk = V2.bks) : FairQ V2 data (i + 1) f (lostF true (clsOf (blocksOf data.size V.blk) i) lost) := by
  have hK1 := blocksOf_pos data.size V.blk
  have hK := blocksOf_le data.size V.blk hv.b1 hd
  refine ⟨hs.track h.track, .inr hnf, fun j hj => ?_, lim_won hf _ h.lim, by rw [hs.ready]; exact h.ready⟩
  rw [hs.sofar, hs.set, hs.blk]
  rw [hs.blk] at hj
  by_cases hc : i % 4 = 0 ∧ i / 4 % blocksOf data.size V.blk = j
  · left
    rw [rowOf_four nonce _ i hc.1, hc.2]
    exact redF_added hK 33 _ _ _ (sofar_ok hv h.track) (Nat.pow_lt_pow_right (by decide) hj) (.inr (by omega)) (by omega)
  · rcases h.red j hj with q | q
    · exact .inl (redF_addF _ _ _ _ _ _ q)
    · right
      rw [cntJ, if_neg hc, lostF_not]
      · exact q
      · unfold clsOf
        split
        · rename_i h4
          intro hm
          simp at hm
          rcases hm with e | e
          · omega
          · exact hc ⟨h4, e.symm⟩
        · intro hm
          simp at hm
          omega

/-- All has come; the answers are on their way. -/
structure FairD (V : RV) (data : ByteArray) (i f most : Nat) (lost : Nat → Nat) : Prop where
  dlv : V.dlv 1 = true
  ready : V.ready = [(data, 1)]
  lim : ∀ c, lost c < f
  left : (f - 1 - lost 33) * f + (f - 1 - lost 32) + i < most

theorem FairQ.got {V V2 : RV} {data : ByteArray} {i f most : Nat} {lost : Nat → Nat} {nonce : Int} (h : FairQ V data i f lost) (hv : RVOk V) (hd : data.size ≤ 32 * V.blk) (hf : 1 ≤ f) (hm : most = 4 * blocksOf data.size V.blk * f + f * f) (hs : Stepped V V2 1 (Dz.rowOf nonce (blocksOf data.size V.blk) i) data) (hfl : V2.srk = V2.bks)
    (hb : lostF true (clsOf (blocksOf data.size V.blk) i) lost 33 + 1 < f) : FairD V2.deliver data (i + 1) f most (lostF false [33] (lostF true (clsOf (blocksOf data.size V.blk) i) lost)) := by
  have hi := h.lt hv hd
  have hK1 := blocksOf_pos data.size V.blk
  have hK := blocksOf_le data.size V.blk hv.b1 hd
  have hmj : i / 4 % blocksOf data.size V.blk < blocksOf data.size V.blk := Nat.mod_lt _ (by omega)
  have hl := lim_won (cs := clsOf (blocksOf data.size V.blk) i) hf _ h.lim
  generalize lostF true (clsOf (blocksOf data.size V.blk) i) lost = L at *
  refine ⟨?_, ?_, fun c => ?_, ?_⟩
  · show (if 1 = V2.num then true else V2.dlv 1) = true
    rw [if_pos hs.snum.symm]
  · rw [hs.data hfl, h.ready]; rfl
  · rw [lostF_one]
    split
    · simp; omega
    · exact hl c
  · have e1 : lostF false [33] L 33 = L 33 + 1 := by simp [lostF_one]
    have e2 : lostF false [33] L 32 = L 32 := by simp [lostF_one]
    rw [e1, e2]
    obtain ⟨g, rfl⟩ : ∃ g, f = g + 2 := ⟨f - 2, by omega⟩
    have h1 : (g + 2 - 1 - (L 33 + 1)) * (g + 2) ≤ g * (g + 2) := Nat.mul_le_mul_right _ (by omega)
    have h2 : (g + 2) * (g + 2) = g * (g + 2) + 2 * (g + 2) := by rw [← Nat.add_mul]
    omega

theorem FairD.lose {V : RV} {data : ByteArray} {K i f most : Nat} {lost : Nat → Nat} (h : FairD V data i f most lost) (hK : 1 ≤ K) (hK2 : K ≤ 32) (hb : ∀ c ∈ clsOf K i, lost c + 1 < f) : FairD V data (i + 1) f most (lostF false (clsOf K i) lost) := by
  have hm : i / 4 % K < K := Nat.mod_lt _ (by omega)
  have hl := h.left
  have b1 : lost 32 + 1 < f := hb 32 (by unfold clsOf; split <;> simp)
  have e33 : lostF false (clsOf K i) lost 33 = lost 33 := lostF_not _ _ (by unfold clsOf; split <;> simp <;> omega)
  have e32 : lostF false (clsOf K i) lost 32 = lost 32 + 1 := by
    unfold clsOf
    split
    · rw [lostF_two (by omega), if_neg (by omega), if_pos rfl]; simp
    · rw [lostF_one, if_pos rfl]; simp
  refine ⟨h.dlv, h.ready, fun c => ?_, by rw [e33, e32]; omega⟩
  have hlc := h.lim c
  unfold clsOf at hb ⊢
  by_cases h4 : i % 4 = 0
  · rw [if_pos h4] at hb ⊢
    have b2 := hb (i / 4 % K) (by simp)
    rw [lostF_two (by omega)]
    split
    · simp; omega
    · split
      · simp; omega
      · exact hlc
  · rw [if_neg h4] at hb ⊢
    rw [lostF_one]
    split
    · simp; omega
    · exact hlc

theorem FairD.come {V : RV} {data : ByteArray} {K i f most : Nat} {lost : Nat → Nat} (h : FairD V data i f most lost) (hf : 1 ≤ f) (hK : 1 ≤ K) (hK2 : K ≤ 32) (hb : lostF true (clsOf K i) lost 33 + 1 < f) : FairD V data (i + 1) f most (lostF false [33] (lostF true (clsOf K i) lost)) := by
  have hm : i / 4 % K < K := Nat.mod_lt _ (by omega)
  have hl := h.left
  have hlm := lim_won (cs := clsOf K i) hf _ h.lim
  have e33 : lostF true (clsOf K i) lost 33 = lost 33 := lostF_not _ _ (by unfold clsOf; split <;> simp <;> omega)
  rw [e33] at hb
  refine ⟨h.dlv, h.ready, fun c => ?_, ?_⟩
  · rw [lostF_one]
    split
    · rw [e33]; simp; omega
    · exact hlm c
  · have e1 : lostF false [33] (lostF true (clsOf K i) lost) 33 = lost 33 + 1 := by simp [lostF_one, e33]
    rw [e1]
    obtain ⟨a, ha⟩ : ∃ a, f - 1 - lost 33 = a + 1 := ⟨f - 1 - lost 33 - 1, by omega⟩
    rw [ha] at hl
    rw [show f - 1 - (lost 33 + 1) = a by omega]
    rw [Nat.add_mul] at hl
    omega

end Go.Proofs.YtfbbidaoljfloaaDoor
