import Derived.Test.YtfbbidaoljfloaaDoorM2
import Derived.Test.YtfbbidaoljfloaaDoorY18
import Derived.Test.YtfbbidaoljfloaaDoorK1
namespace Go.Proofs.YtfbbidaoljfloaaDoor
open Go.RowKit Go.MuLone

theorem rowOf_ne (nonce : Int) (K : Nat) (id : Int) (hK : 1 ≤ K) : Dz.rowOf nonce K id ≠ 0 := by
  unfold Dz.rowOf
  split
  · have := Nat.two_pow_pos ((id / 4).toNat % K)
    omega
  · intro e
    have hm := Dz.many_le K (Dz.num (Dz.lcg (Dz.seed0 nonce id)) % K + 1) hK (by omega)
    have h1 := Dz.many_more K (Dz.num (Dz.lcg (Dz.seed0 nonce id)) % K + 1) 0 (by omega) (by omega)
    have hc := Dz.rowAt_cnt K (Dz.lcg (Dz.seed0 nonce id)) hK _ hm
    have e' : Dz.rowAt K (Dz.lcg (Dz.seed0 nonce id)) (Dz.many K (Dz.num (Dz.lcg (Dz.seed0 nonce id)) % K + 1)) = 0 := e
    rw [e', Dz.cnt_zero] at hc
    omega

theorem rowOf_four (nonce : Int) (K k : Nat) (h4 : k % 4 = 0) : Dz.rowOf nonce K (k : Int) = 2 ^ (k / 4 % K) :=
  Dz.rowOf_plain nonce K k (k / 4 % K) (by omega) (by omega) (by simp)

theorem SVOk.handle {S : SV} (h : SVOk S) (bs : List Nat) : SVOk (S.handle bs) := by
  unfold SV.handle
  cases ho : S.l[S.en]? with
  | none => exact h
  | some o =>
    simp only
    split
    · exact h.done 3 ho
    · exact h

theorem nSHandle {w : World} {bs br : Nat} {F : List Nat} {S : SV} {V : RV} (text : ByteArray) (h : Net w bs br F S V) :
    Calls Tryd.prog 21 #[.pointer (some ⟨bs, 0, none⟩), .string text] w fun e w' => e = .returned (.tuple #[]) ∧ ∃ F', NAft w w' bs br F F' (S.handle (bytesOf text)) V := by
  obtain ⟨sl, cap, R, hn, rfl⟩ := h
  refine (handleS_any bs sl cap S text w hn.send hn.sok).mono ?_
  rintro e w' ⟨rfl, ha⟩
  exact ⟨rfl, _, hn.sender ha (hn.sok.handle _)⟩

theorem redF_addF (n k : Nat) : ∀ (S : Rx.SetV) (x : Nat) (b : List Nat) (r : Nat), redF n S r = true → redF n (Rx.addF k S x b).1 r = true := by
  induction k with
  | zero => intro S x b r h; exact h
  | succ k ih =>
    intro S x b r h
    unfold Rx.addF
    by_cases h0 : x = 0
    · rw [if_pos h0]; exact h
    · rw [if_neg h0]
      by_cases h1 : (S (Rx.low x)).1 = 0
      · rw [if_pos h1]
        exact redF_set n S r h1 h
      · rw [if_neg h1]
        exact ih S _ _ r h

theorem low_pow {j : Nat} (hj : j < 32) : Rx.low (2 ^ j) = j := by
  have hp : 2 ^ j < 4294967296 := Nat.lt_of_lt_of_le (Nat.pow_lt_pow_right (by decide) hj) (by decide)
  refine Rx.low_unique hp (by simp) (fun i hi => ?_)
  rw [Nat.testBit_two_pow]
  simp
  omega

theorem redF_pow {S : Rx.SetV} {j n : Nat} (hj : j < 32) (h : redF (n + 1) S (2 ^ j) = true) : (S j).1 ≠ 0 := by
  intro e
  have hp : (2 : Nat) ^ j ≠ 0 := by have := Nat.two_pow_pos j; omega
  rw [redF, if_neg hp, low_pow hj, if_pos e] at h
  cases h

/-- How far an object is, all its frames having come. -/
structure Prog (V : RV) (num : Nat) (data : ByteArray) (k : Nat) : Prop where
  track : Track V num data
  part : V.num < num ∨ V.srk ≠ V.bks
  red : ∀ m, m < k → m % 4 = 0 → redF 34 (V.sofar num) (2 ^ (m / 4 % blocksOf data.size V.blk)) = true

theorem Prog.start {V : RV} {num : Nat} {data : ByteArray} (hd : V.dlv num = false) (hn : V.num < num) : Prog V num data 0 :=
  ⟨⟨hd, .inl hn⟩, .inl hn, fun m hm => by omega⟩

theorem Prog.lt {V : RV} {num k : Nat} {data : ByteArray} (h : Prog V num data k) (hv : RVOk V) (hd : data.size ≤ 32 * V.blk) : k < 4 * blocksOf data.size V.blk := by
  apply Classical.byContradiction
  intro hk
  have hK1 := blocksOf_pos data.size V.blk
  have hK := blocksOf_le data.size V.blk hv.b1 hd
  have hall : ∀ j, j < blocksOf data.size V.blk → (V.sofar num j).1 ≠ 0 := fun j hj => by
    have := h.red (4 * j) (by omega) (by omega)
    rw [show 4 * j / 4 % blocksOf data.size V.blk = j by rw [Nat.mul_div_cancel_left _ (by decide), Nat.mod_eq_of_lt hj]] at this
    exact redF_pow (by omega) this
  rcases h.track.at_ with q | ⟨q1, q2, q3, q4, q5⟩
  · have := hall 0 (by omega)
    unfold RV.sofar at this
    rw [if_pos q] at this
    exact this rfl
  · rcases h.part with p | p
    · omega
    · apply p
      rw [hv.cnt, q3]
      apply Rx.cntR_all
      intro j hj
      have := hall j hj
      unfold RV.sofar at this
      rw [if_neg (by omega)] at this
      exact this

theorem sofar_ok {V : RV} {num : Nat} {data : ByteArray} (hv : RVOk V) (h : Track V num data) : Rx.SetOk V.blk (blocksOf data.size V.blk) (V.sofar num) := by
  unfold RV.sofar
  rcases h.at_ with q | ⟨q1, q2, q3, q4, q5⟩
  · rw [if_pos q]; exact emptyS_ok _ _
  · rw [if_neg (by omega), ← q3]; exact hv.set

theorem Prog.next {V V2 : RV} {num k : Nat} {data : ByteArray} {nonce : Int} (h : Prog V num data k) (hv : RVOk V) (hd : data.size ≤ 32 * V.blk) (hs : Stepped V V2 num (Dz.rowOf nonce (blocksOf data.size V.blk) k) data) (hnf : ¬ V2.srk = V2.bks) : Prog V2 num data (k + 1) := by
  have hK1 := blocksOf_pos data.size V.blk
  have hK := blocksOf_le data.size V.blk hv.b1 hd
  refine ⟨hs.track h.track, .inr hnf, fun m hm h4 => ?_⟩
  rw [hs.sofar, hs.set, hs.blk]
  by_cases hmk : m = k
  · subst hmk
    rw [rowOf_four nonce _ m h4]
    have hj : m / 4 % blocksOf data.size V.blk < blocksOf data.size V.blk := Nat.mod_lt _ (by omega)
    exact redF_added hK 33 _ _ _ (sofar_ok hv h.track) (Nat.pow_lt_pow_right (by decide) hj) (.inr (by omega)) (by omega)
  · exact redF_addF _ _ _ _ _ _ (h.red m (by omega) h4)

/-- The sender is at work on an object; k frames were sent, and all have come. -/
structure InObj (S : SV) (V : RV) (num : Nat) (data : ByteArray) (nonce : Int) (k : Nat) (L : List Thing) : Prop where
  pos : 1 ≤ num
  n5 : num ≤ 500
  en : S.en + 1 = num
  cur : ∃ st, S.l[S.en]? = some ⟨data, nonce, st, k⟩
  rest : S.l.drop num = L
  blk : S.blk = V.blk
  fit : data.size ≤ 32 * V.blk
  prog : Prog V num data k
  ready : V.ready = []
  later : ∀ j, num < j → V.dlv j = false

structure AftObj (S : SV) (V : RV) (num : Nat) (data : ByteArray) (k : Nat) (L : List Thing) : Prop where
  en : S.en = num
  cur : S.l[num - 1]? = some ⟨.empty, 0, 3, k⟩
  rest : S.l.drop num = L
  blk : S.blk = V.blk
  vnum : V.num ≤ num
  ready : V.ready = [(data, num)]
  later : ∀ j, num < j → V.dlv j = false

/-- One frame: the object is done, or not yet. -/
theorem InObj.step {S : SV} {V : RV} {num k : Nat} {data : ByteArray} {nonce : Int} {L : List Thing} {st : Int} (h : InObj S V num data nonce k L) (hv : RVOk V) (ho : S.l[S.en]? = some ⟨data, nonce, st, k⟩) :
    (∃ V1, V.handle (bytesOf (frameOf (S.en + 1) S.blk ⟨data, nonce, st, k⟩)) = (V1, none) ∧ InObj (S.sentOne ⟨data, nonce, st, k⟩) V1 num data nonce (k + 1) L) ∨
    (∃ V1, V.handle (bytesOf (frameOf (S.en + 1) S.blk ⟨data, nonce, st, k⟩)) = (V1, some (doneB num V.blk)) ∧ AftObj ((S.sentOne ⟨data, nonce, st, k⟩).handle (doneB num V.blk)) V1 num data (k + 1) L) := by
  have hlt := (List.getElem?_eq_some_iff.1 ho).1
  have hK1 := blocksOf_pos data.size V.blk
  obtain ⟨V2, hst, hh⟩ := frame_step (row := Dz.rowOf nonce (blocksOf data.size V.blk) k) hv h.prog.track h.pos h.n5 h.fit (rowOf_ne _ _ _ hK1) (Dz.rowOf_lt _ _ _ hK1)
  have htx : bytesOf (frameOf (S.en + 1) S.blk ⟨data, nonce, st, k⟩) = fText num V.blk (Dz.rowOf nonce (blocksOf data.size V.blk) k) data := by
    rw [fText_frame, h.en, h.blk]
  rw [htx, hh]
  have hcur : (S.sentOne ⟨data, nonce, st, k⟩).l[S.en]? = some ⟨data, nonce, 2, ((k + 1 : Nat) : Int)⟩ := by
    show (S.l.set S.en _)[S.en]? = _
    rw [List.getElem?_set_self hlt]
    simp
  have hrest : (S.sentOne ⟨data, nonce, st, k⟩).l.drop num = L := by
    show (S.l.set S.en _).drop num = L
    rw [← h.rest, List.drop_set_of_lt (by have := h.en; omega)]
  by_cases hf : V2.srk = V2.bks
  · right
    rw [if_pos hf]
    refine ⟨_, rfl, ?_⟩
    have hhan : (S.sentOne ⟨data, nonce, st, k⟩).handle (doneB num V.blk) = (S.sentOne ⟨data, nonce, st, k⟩).done 3 ⟨data, nonce, 2, ((k + 1 : Nat) : Int)⟩ := by
      unfold SV.handle
      rw [show (S.sentOne ⟨data, nonce, st, k⟩).en = S.en from rfl, hcur]
      simp only
      rw [if_pos ⟨trivial, by rw [h.en]; show doneB num V.blk = doneB num S.blk; rw [h.blk]⟩]
    rw [hhan]
    have hdr := hst.data hf
    rw [h.ready] at hdr
    refine ⟨h.en, ?_, ?_, ?_, ?_, hdr, fun j hj => ?_⟩
    · show ((S.l.set S.en _).set S.en _)[num - 1]? = _
      rw [show num - 1 = S.en by have := h.en; omega, List.getElem?_set_self (by simpa using hlt)]
    · show ((S.l.set S.en _).set S.en _).drop num = L
      rw [List.set_set, ← h.rest, List.drop_set_of_lt (by have := h.en; omega)]
    · show S.blk = V2.blk
      rw [hst.blk]; exact h.blk
    · show V2.num ≤ num
      rw [hst.snum]; exact Nat.le_refl _
    · show (if j = V2.num then true else V2.dlv j) = false
      rw [hst.snum, if_neg (by omega), hst.dlv]
      exact h.later j hj
  · left
    rw [if_neg hf]
    refine ⟨V2, rfl, ⟨h.pos, h.n5, h.en, ⟨2, hcur⟩, hrest, by show S.blk = V2.blk; rw [hst.blk]; exact h.blk, by rw [hst.blk]; exact h.fit, h.prog.next hv h.fit hst hf, by rw [hst.ready]; exact h.ready, fun j hj => by rw [hst.dlv]; exact h.later j hj⟩⟩

end Go.Proofs.YtfbbidaoljfloaaDoor
