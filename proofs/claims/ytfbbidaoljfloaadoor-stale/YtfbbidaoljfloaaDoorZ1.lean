import Derived.Test.YtfbbidaoljfloaaDoorE4
namespace Go.Proofs.YtfbbidaoljfloaaDoor
open Go.RowKit Go.MuLone

/-- Which of n things a raw number speaks of. -/
def pickF (c : Int) (n : Nat) : Nat := ((if c < 0 then -(c + 1) else c) % (n : Int)).toNat
theorem pickF_lt (c : Int) {n : Nat} (hn : 0 < n) : pickF c n < n := by
  unfold pickF
  have h1 := Int.emod_nonneg (if c < 0 then -(c + 1) else c) (show (n : Int) ≠ 0 by omega)
  have h2 := Int.emod_lt_of_pos (if c < 0 then -(c + 1) else c) (show (0 : Int) < n by omega)
  omega

theorem pickNet_f (c : Int) (n : Nat) (w : World) (h1 : -9223372036854775808 ≤ c) (h2 : c ≤ 9223372036854775807) (hn : 0 < n) (hn2 : n ≤ 4611686018427387904) :
    Calls Tryd.prog 51 #[.int .i64 c, .int .i64 n] w fun e w' => e = .returned (.int .i64 (pickF c n)) ∧ w' = w := by
  have hn' : (0 : Int) < (n : Int) := by omega
  by_cases hc : c < 0
  · have e0 : 0 ≤ (-(c + 1)) % (n : Int) := Int.emod_nonneg _ (by omega)
    have e1 : (-(c + 1)) % (n : Int) < n := Int.emod_lt_of_pos _ (by omega)
    have e2 : 0 ≤ -(c + 1) := by omega
    have e4 : pickF c n = (-(c + 1) % (n : Int)).toNat := by unfold pickF; rw [if_pos hc]
    have E4 : Hid _ := e4
    clear e4
    have hneg : ∀ w : World, (Op.unary .neg (.int .i64 (c + 1))).run Tryd.prog w = .ok (.int .i64 (-(c + 1))) w := fun w => by
      have e : IntKind.i64.wrap (-(c + 1)) = -(c + 1) := by simp [IntKind.wrap, IntKind.signed, IntKind.bits]; omega
      simp [go_sem, e]
    go_enter Tryd.func51, Tryd.ntmps51
    go_wp2
    go_ret
    have e3 : -((c + 1).tmod (n : Int)) = -(c + 1) % (n : Int) := by rw [← Int.neg_tmod, Int.tmod_eq_emod_of_nonneg (by omega)]
    rw [E4.out]
    exact ⟨ret_int (by omega), rfl⟩
  · have e0 : 0 ≤ c % (n : Int) := Int.emod_nonneg _ (by omega)
    have e1 : c % (n : Int) < n := Int.emod_lt_of_pos _ (by omega)
    have e2 : 0 ≤ c := by omega
    have e4 : pickF c n = (c % (n : Int)).toNat := by unfold pickF; rw [if_neg hc]
    have E4 : Hid _ := e4
    clear e4
    go_enter Tryd.func51, Tryd.ntmps51
    go_wp2
    go_ret
    rw [E4.out]
    exact ⟨ret_int (by omega), rfl⟩

theorem pick_f (c num : Int) (n : Nat) (w : World) (he : num = n) (h1 : -9223372036854775808 ≤ c) (h2 : c ≤ 9223372036854775807) (hn : 0 < n) (hn2 : n ≤ 4611686018427387904) :
    Calls Tryd.prog 26 #[.int .i64 c, .int .i64 num] w fun e w' => e = .returned (.int .i64 (pickF c n)) ∧ w' = w := by
  subst he
  go_enter Tryd.func26, Tryd.ntmps26
  go_wp2_with fail
  refine (pickNet_f c n _ h1 h2 hn hn2).mono ?_
  rintro e w1 ⟨rfl, rfl⟩
  go_wp2
  go_ret
  exact ⟨rfl, rfl⟩

def framesN (num blk : Nat) (D : ByteArray) (nonce : Int) (n : Nat) : List ByteArray := (List.range n).map (fun (j : Nat) => frameOf num blk ⟨D, nonce, 0, (j : Int)⟩)
theorem framesN_len (num blk : Nat) (D : ByteArray) (nonce : Int) (n : Nat) : (framesN num blk D nonce n).length = n := by simp [framesN]
theorem framesN_succ (num blk : Nat) (D : ByteArray) (nonce : Int) (n : Nat) : framesN num blk D nonce n ++ [frameOf num blk ⟨D, nonce, 0, n⟩] = framesN num blk D nonce (n + 1) := by simp [framesN, List.range_succ]
theorem framesN_get (num blk : Nat) (D : ByteArray) (nonce : Int) {n k : Nat} (h : k < n) : (framesN num blk D nonce n)[k]? = some (frameOf num blk ⟨D, nonce, 0, k⟩) := by simp [framesN, h]

/-- One frame, and what becomes of the receiver. -/
theorem InObj.step2 {S : SV} {V : RV} {num k : Nat} {data : ByteArray} {nonce : Int} {L : List Thing} {st : Int} (h : InObj S V num data nonce k L) (hv : RVOk V) (ho : S.l[S.en]? = some ⟨data, nonce, st, k⟩) :
    (∃ V1, V.handle (bytesOf (frameOf (S.en + 1) S.blk ⟨data, nonce, st, k⟩)) = (V1, none) ∧ InObj (S.sentOne ⟨data, nonce, st, k⟩) V1 num data nonce (k + 1) L ∧ V1.dlv = V.dlv) ∨
    (∃ V1, V.handle (bytesOf (frameOf (S.en + 1) S.blk ⟨data, nonce, st, k⟩)) = (V1, some (doneB num V.blk)) ∧ AftObj ((S.sentOne ⟨data, nonce, st, k⟩).handle (doneB num V.blk)) V1 num data (k + 1) L ∧ V1.num = num ∧ V1.dlv num = true ∧ (∀ j, j ≠ num → V1.dlv j = V.dlv j) ∧ V1.blk = V.blk) := by
  have hK1 := blocksOf_pos data.size V.blk
  obtain ⟨V2, hst, hh⟩ := frame_step (row := Dz.rowOf nonce (blocksOf data.size V.blk) k) hv h.prog.track h.pos h.n5 h.fit (rowOf_ne _ _ _ hK1) (Dz.rowOf_lt _ _ _ hK1)
  have htx : bytesOf (frameOf (S.en + 1) S.blk ⟨data, nonce, st, k⟩) = fText num V.blk (Dz.rowOf nonce (blocksOf data.size V.blk) k) data := by
    rw [fText_frame, h.en, h.blk]
  rcases h.step hv ho with ⟨V1, e1, q⟩ | ⟨V1, e1, q⟩
  · left
    refine ⟨V1, e1, q, ?_⟩
    rw [htx, hh] at e1
    split at e1
    · cases (Prod.ext_iff.1 e1).2
    · have e2 : V2 = V1 := (Prod.ext_iff.1 e1).1
      rw [← e2]
      exact hst.dlv
  · right
    refine ⟨V1, e1, q, ?_⟩
    rw [htx, hh] at e1
    split at e1
    · rename_i hf
      have e2 : V2.deliver = V1 := (Prod.ext_iff.1 e1).1
      rw [← e2]
      refine ⟨hst.snum, ?_, fun j hj => ?_, hst.blk⟩
      · show (if num = V2.num then true else V2.dlv num) = true
        rw [hst.snum, if_pos rfl]
      · show (if j = V2.num then true else V2.dlv j) = V.dlv j
        rw [hst.snum, if_neg hj, hst.dlv]
    · cases (Prod.ext_iff.1 e1).2

/-- A frame of an object that is past and was not delivered. -/
theorem frame_past {V : RV} {num row : Nat} {data : ByteArray} (hv : RVOk V) (hdl : V.dlv num = false) (hlt : num < V.num) (h1 : 1 ≤ num) (h5 : num ≤ 500) (hd : data.size ≤ 32 * V.blk) (hr0 : row ≠ 0) (hr : row < 2 ^ blocksOf data.size V.blk) :
    V.handle (fText num V.blk row data) = (V, none) := by
  have hb1 := hv.b1
  have hb2 := hv.b2
  have hK := blocksOf_le data.size V.blk hb1 hd
  have hr32 := Rx.lt32 hK hr
  have hrd : readS (fText num V.blk row data) V.blk = some (num, data.size, row, sumRow data V.blk row) := by
    have := readS_text (x1 := num) (x2 := data.size) (x3 := row) (ns := sumRow data V.blk row) (by omega) (by omega) hr32
    rw [sumRow_len] at this
    exact this
  have hc : canB num data.size row V.blk = true := canB_iff.2 ⟨h1, h5, hK, hr0, hr⟩
  have hf : V.first num data.size = V := by unfold RV.first; rw [if_neg (by omega)]
  have hgo : V.gone num data.size row (sumRow data V.blk row) = V := by
    unfold RV.gone RV.gather
    rw [if_neg (by rw [hdl]; exact Bool.false_ne_true), hf, if_pos (.inl hlt)]
  unfold RV.handle
  rw [hrd]
  simp only
  rw [if_pos hc, hgo, if_neg (by rw [hdl]; exact Bool.false_ne_true)]

end Go.Proofs.YtfbbidaoljfloaaDoor
