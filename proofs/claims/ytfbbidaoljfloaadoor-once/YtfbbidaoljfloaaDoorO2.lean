import Derived.Test.YtfbbidaoljfloaaDoorO1
import Derived.Deep.OwnRows
import Derived.Deep.CutBlock
namespace Go.Proofs.YtfbbidaoljfloaaDoor
open Go.RowKit Go.MuLone

/-- Which of n things a raw number speaks of. -/
def pickO (c : Int) (n : Nat) : Nat := ((if c < 0 then -(c + 1) else c) % (n : Int)).toNat
theorem pickO_lt (c : Int) {n : Nat} (hn : 0 < n) : pickO c n < n := by
  unfold pickO
  have h1 := Int.emod_nonneg (if c < 0 then -(c + 1) else c) (show (n : Int) ≠ 0 by omega)
  have h2 := Int.emod_lt_of_pos (if c < 0 then -(c + 1) else c) (show (0 : Int) < n by omega)
  omega
theorem pickNet_o (c : Int) (n : Nat) (w : World) (h1 : -9223372036854775808 ≤ c) (h2 : c ≤ 9223372036854775807) (hn : 0 < n) (hn2 : n ≤ 4611686018427387904) :
    Calls Tryd.prog 51 #[.int .i64 c, .int .i64 n] w fun e w' => e = .returned (.int .i64 (pickO c n)) ∧ w' = w := by
  have hn' : (0 : Int) < (n : Int) := by omega
  by_cases hc : c < 0
  · have e0 : 0 ≤ (-(c + 1)) % (n : Int) := Int.emod_nonneg _ (by omega)
    have e1 : (-(c + 1)) % (n : Int) < n := Int.emod_lt_of_pos _ (by omega)
    have e2 : 0 ≤ -(c + 1) := by omega
    have e4 : pickO c n = (-(c + 1) % (n : Int)).toNat := by unfold pickO; rw [if_pos hc]
    have E4 : Hid _ := e4
    clear e4
    have hneg : ∀ w : World, (Op.unary .neg (.int .i64 (c + 1))).run Tryd.prog w = .ok (.int .i64 (-(c + 1))) w := fun w => by
      have e : IntKind.i64.wrap (-(c + 1)) = -(c + 1) := by simp [IntKind.wrap, IntKind.signed, IntKind.bits]; omega
      simp [go_sem, e]
    go_enter Tryd.func51, Tryd.ntmps51
    go_wp2
    go_ret
    have e3 : -((c + 1).tmod (n : Int)) = -(c + 1) % (n : Int) := by rw [← Int.neg_tmod, Int.tmod_eq_emod_of_nonneg (by omega)]
    rw [E4.out]
    exact ⟨ret_int (by omega), rfl⟩
  · have e0 : 0 ≤ c % (n : Int) := Int.emod_nonneg _ (by omega)
    have e1 : c % (n : Int) < n := Int.emod_lt_of_pos _ (by omega)
    have e2 : 0 ≤ c := by omega
    have e4 : pickO c n = (c % (n : Int)).toNat := by unfold pickO; rw [if_neg hc]
    have E4 : Hid _ := e4
    clear e4
    go_enter Tryd.func51, Tryd.ntmps51
    go_wp2
    go_ret
    rw [E4.out]
    exact ⟨ret_int (by omega), rfl⟩
theorem pick_o (c num : Int) (n : Nat) (w : World) (he : num = n) (h1 : -9223372036854775808 ≤ c) (h2 : c ≤ 9223372036854775807) (hn : 0 < n) (hn2 : n ≤ 4611686018427387904) :
    Calls Tryd.prog 26 #[.int .i64 c, .int .i64 num] w fun e w' => e = .returned (.int .i64 (pickO c n)) ∧ w' = w := by
  subst he
  go_enter Tryd.func26, Tryd.ntmps26
  go_wp2_with fail
  refine (pickNet_o c n _ h1 h2 hn hn2).mono ?_
  rintro e w1 ⟨rfl, rfl⟩
  go_wp2
  go_ret
  exact ⟨rfl, rfl⟩

theorem Send.same {w w' : World} {bs : Nat} {sl : Option Addr} {cap : Nat} {S : SV} (h : Send w bs sl cap S) (ht : Turn [bs] w w') (hs : SenderAt w' bs S.blk S.bud (.slice sl S.l.length cap) S.en) : SAft w w' bs sl sl cap S :=
  ⟨⟨hs, h.things.turn ht (fun k hk => by simp; intro e; exact h.ne (by rw [hk, e])), h.ne⟩, ht.mono (by simp [sfoot]), fun g hg => .inl hg⟩
theorem nSubmit_end {w : World} {bs br : Nat} {F : List Nat} {S : SV} {V : RV} (data : ByteArray) (nonce : Int) (h : Net w bs br F S V) (hd : data.size ≤ 32 * S.blk) (hl : S.l.length = 500) :
    Calls Tryd.prog 17 #[.pointer (some ⟨bs, 0, none⟩), .string data, .int .u64 nonce] w fun e w' => e = .returned (.tuple #[.int .i64 0, .int .i64 4]) ∧ ∃ F', NAft w w' bs br F F' S V := by
  obtain ⟨sl, cap, R, hn, rfl⟩ := h
  have h1 := hn.sok.b1
  have h2 := hn.sok.b2
  have ha := hn.send.at_
  rw [hl] at ha
  refine (submit_end bs S.blk S.bud data nonce sl cap S.en w ha (by omega) (by omega) (by omega)).mono ?_
  rintro e w' ⟨rfl, ht, hs⟩
  exact ⟨rfl, _, hn.sender (hn.send.same ht (by rw [hl]; exact hs)) hn.sok⟩
theorem nSubmit_full {w : World} {bs br : Nat} {F : List Nat} {S : SV} {V : RV} (data : ByteArray) (nonce : Int) (h : Net w bs br F S V) (hd : data.size ≤ 32 * S.blk) (hl : S.l.length < 500) (hc : cntSt (S.l.drop S.en) 1 = 8) :
    Calls Tryd.prog 17 #[.pointer (some ⟨bs, 0, none⟩), .string data, .int .u64 nonce] w fun e w' => e = .returned (.tuple #[.int .i64 0, .int .i64 3]) ∧ ∃ F', NAft w w' bs br F F' S V := by
  obtain ⟨sl, cap, R, hn, rfl⟩ := h
  have h1 := hn.sok.b1
  have h2 := hn.sok.b2
  refine (submit_full bs S.blk S.bud data nonce sl S.l.length cap S.en S.l w hn.send.at_ hn.send.things hn.send.ne (by omega) (by omega) (by omega) hl hn.sok.le hc).mono ?_
  rintro e w' ⟨rfl, ht, hs⟩
  exact ⟨rfl, _, hn.sender (hn.send.same ht hs) hn.sok⟩

section
variable {ops : Array Oper} {o : Oper} {a : Act} {K : Act → World → Prop} {Q : Exit → Act → World → Prop} {E : Prop}
theorem step_strs (w : World) (hgd : o.guard = none) (s x : Operand) (ho : o.op = .call { callee := .builtin .append, args := #[s, x], argTypes := #[38, 38] })
    {F : List Nat} {B : Nat} (v : Value) (l : List ByteArray) (h : Strs w F B v l) (hs : a.eval s = v) (G c : Nat) (hx : a.eval x = .slice (some ⟨G, 0, none⟩) 1 c) (t : ByteArray) (hG : w.cell? ⟨G, 0, none⟩ = some (.string t)) (hl : l.length ≤ 8796093022208) (hF : ∀ g ∈ F, g < w.heap.size) (hB : B ≤ w.heap.size)
    (k : ∀ g cap w', Strs w' F B (.slice (some ⟨g, 0, none⟩) (l.length + 1) cap) (l ++ [t]) → Turn v.ownBlock.toList w w' → (v.ownBlock = some g ∨ g = w.heap.size) → K (a.put o.dst (.slice (some ⟨g, 0, none⟩) (l.length + 1) cap)) w') :
    if Region.wanted o (yielded ops a.tmps) = true then Oper.wp Tryd.prog o a w K Q else E := by
  obtain ⟨i0, hi, hz0, hz1, hz2⟩ := info_parts infoSt
  refine step_append_far w hgd s x 38 ho 9 i0 _ 1 16 Tryd.underlying38 hi hz0 hz1 hz2 rfl (by decide) v l.length _ hs h.owns ⟨G, 0, none⟩ 1 c [.string t] hx rfl ?_ (by simp [Value.oneCell']) (by decide) (by unfold maxLen; omega) (by omega) ?_
  · intro j u hu
    match j, hu with
    | 0, hu =>
      cases hu
      exact hG
    | j + 1, hu => simp at hu
  · intro g cap w' h2 h3 h4 h5
    refine k g cap w' ⟨by simpa using h2, fun q hq => ?_⟩ ⟨h3.os, h3.tape, h3.output, h3.size, fun q hq hn => h3.block q hq (fun e => hn (by simp [← e]))⟩ h4
    obtain rfl : g = q := by simpa [Value.ownBlock] using hq
    rcases h4 with q | q
    · exact h.out g q
    · subst q
      exact ⟨fun hm => by have := hF _ hm; omega, hB⟩
theorem step_strs_none (w : World) (hgd : o.guard = none) (s x : Operand) (ho : o.op = .call { callee := .builtin .append, args := #[s, x], argTypes := #[38, 38] })
    {F : List Nat} {B : Nat} (v : Value) (l : List ByteArray) (h : Strs w F B v l) (hs : a.eval s = v) (hx : a.eval x = .slice none 0 0) (k : K (a.put o.dst v) w) :
    if Region.wanted o (yielded ops a.tmps) = true then Oper.wp Tryd.prog o a w K Q else E := by
  obtain ⟨i0, hi, hz0, hz1, hz2⟩ := info_parts infoSt
  obtain ⟨sl, cap, rfl, hcap⟩ := h.shape
  exact step_append_run hgd s x 38 ho _ _ _ w hs hx (fun ty => run_append_nothing (P := Tryd.prog) w 38 38 ty 9 i0 Tryd.underlying38 hi sl l.length cap hcap (.slice none 0 0) (Src.ofNil w Tryd.underlying38 0)) k
end

/-- What Once holds in memory. -/
structure OnW (w wr : World) (bp bs br : Nat) (F : List Nat) (S : SV) (V : RV) (sv dv uv : Value) (ds dn up : List ByteArray) (gg N : Nat) (got : Nat → Bool) : Prop where
  ctx : Ctx w wr bp bs br F S V
  s : Strs wr F w.heap.size sv ds
  d : Strs wr F w.heap.size dv dn
  u : Strs wr F w.heap.size uv up
  g : wr.rowIs gg 4 N (fun i => .bool (got i))
  gF : gg ∉ F
  gn : w.heap.size ≤ gg
  gb : gg ≠ bp
  sb : sv.ownBlock ≠ some bp
  db : dv.ownBlock ≠ some bp
  ub : uv.ownBlock ≠ some bp
  sg : sv.ownBlock ≠ some gg
  dg : dv.ownBlock ≠ some gg
  ug : uv.ownBlock ≠ some gg
  sd : ∀ k, sv.ownBlock = some k → dv.ownBlock ≠ some k
  su : ∀ k, sv.ownBlock = some k → uv.ownBlock ≠ some k
  du : ∀ k, dv.ownBlock = some k → uv.ownBlock ≠ some k

section
variable {w wr w' : World} {bp bs br : Nat} {F F' : List Nat} {S S' : SV} {V V' : RV} {sv dv uv : Value} {ds dn up ds' : List ByteArray} {gg N : Nat} {got : Nat → Bool}
theorem OnW.aft (h : OnW w wr bp bs br F S V sv dv uv ds dn up gg N got) (ha : NAft wr w' bs br F F' S' V') : OnW w w' bp bs br F' S' V' sv dv uv ds dn up gg N got :=
  ⟨h.ctx.aft ha, h.s.aft ha, h.d.aft ha, h.u.aft ha, h.g.of_block (ha.turn.block gg h.g.lt h.gF), fun hm => by
    rcases ha.foot gg hm with q | q
    · exact h.gF q
    · have := h.g.lt; omega, h.gn, h.gb, h.sb, h.db, h.ub, h.sg, h.dg, h.ug, h.sd, h.su, h.du⟩
theorem OnW.turn (h : OnW w wr bp bs br F S V sv dv uv ds dn up gg N got) (ht : Turn [] wr w') : OnW w w' bp bs br F S V sv dv uv ds dn up gg N got :=
  ⟨h.ctx.turn ht, h.s.turn ht (by simp), h.d.turn ht (by simp), h.u.turn ht (by simp), h.g.of_block (ht.block gg h.g.lt (by simp)), h.gF, h.gn, h.gb, h.sb, h.db, h.ub, h.sg, h.dg, h.ug, h.sd, h.su, h.du⟩
theorem own_new {v : Value} {g n cap k : Nat} (hat : v.ownBlock = some g ∨ g = wr.heap.size) (hv : v.ownBlock ≠ some k) (hk : k < wr.heap.size) : (Value.slice (some ⟨g, 0, none⟩) n cap).ownBlock ≠ some k := by
  intro e
  obtain rfl : g = k := by simpa [Value.ownBlock] using e
  rcases hat with q | q
  · exact hv q
  · omega
theorem OnW.moreS {g n cap : Nat} (h : OnW w wr bp bs br F S V sv dv uv ds dn up gg N got) (hs : Strs w' F w.heap.size (.slice (some ⟨g, 0, none⟩) n cap) ds') (ht : Turn sv.ownBlock.toList wr w') (hat : sv.ownBlock = some g ∨ g = wr.heap.size) :
    OnW w w' bp bs br F S V (.slice (some ⟨g, 0, none⟩) n cap) dv uv ds' dn up gg N got :=
  ⟨h.ctx.grown h.s ht h.sb, hs, h.d.grown ht (fun k hk e => h.sd k e hk), h.u.grown ht (fun k hk e => h.su k e hk), h.g.of_block (ht.block gg h.g.lt (by simpa using h.sg)), h.gF, h.gn, h.gb, own_new hat h.sb (lt_of_heap h.ctx.pair.obj), h.db, h.ub, own_new hat h.sg h.g.lt, h.dg, h.ug, fun k hk hk2 => own_new hat (fun e => h.sd k e hk2) (owns_lt h.d.owns hk2) hk, fun k hk hk2 => own_new hat (fun e => h.su k e hk2) (owns_lt h.u.owns hk2) hk, h.du⟩
theorem OnW.moreD {g n cap : Nat} (h : OnW w wr bp bs br F S V sv dv uv ds dn up gg N got) (hs : Strs w' F w.heap.size (.slice (some ⟨g, 0, none⟩) n cap) ds') (ht : Turn dv.ownBlock.toList wr w') (hat : dv.ownBlock = some g ∨ g = wr.heap.size) :
    OnW w w' bp bs br F S V sv (.slice (some ⟨g, 0, none⟩) n cap) uv ds ds' up gg N got :=
  ⟨h.ctx.grown h.d ht h.db, h.s.grown ht (fun k hk e => h.sd k hk e), hs, h.u.grown ht (fun k hk e => h.du k e hk), h.g.of_block (ht.block gg h.g.lt (by simpa using h.dg)), h.gF, h.gn, h.gb, h.sb, own_new hat h.db (lt_of_heap h.ctx.pair.obj), h.ub, h.sg, own_new hat h.dg h.g.lt, h.ug, fun k hk => own_new hat (h.sd k hk) (owns_lt h.s.owns hk), h.su, fun k hk hk2 => own_new hat (fun e => h.du k e hk2) (owns_lt h.u.owns hk2) hk⟩
theorem OnW.moreU {g n cap : Nat} (h : OnW w wr bp bs br F S V sv dv uv ds dn up gg N got) (hs : Strs w' F w.heap.size (.slice (some ⟨g, 0, none⟩) n cap) ds') (ht : Turn uv.ownBlock.toList wr w') (hat : uv.ownBlock = some g ∨ g = wr.heap.size) :
    OnW w w' bp bs br F S V sv dv (.slice (some ⟨g, 0, none⟩) n cap) ds dn ds' gg N got :=
  ⟨h.ctx.grown h.u ht h.ub, h.s.grown ht (fun k hk e => h.su k hk e), h.d.grown ht (fun k hk e => h.du k hk e), hs, h.g.of_block (ht.block gg h.g.lt (by simpa using h.ug)), h.gF, h.gn, h.gb, h.sb, h.db, own_new hat h.ub (lt_of_heap h.ctx.pair.obj), h.sg, h.dg, own_new hat h.ug h.g.lt, h.sd, fun k hk => own_new hat (h.su k hk) (owns_lt h.s.owns hk), fun k hk => own_new hat (h.du k hk) (owns_lt h.d.owns hk)⟩
/-- A mark in the row. -/
theorem OnW.mark (h : OnW w wr bp bs br F S V sv dv uv ds dn up gg N got) (n : Nat) : OnW w (wr.setCell ⟨gg, n, none⟩ (.bool true)) bp bs br F S V sv dv uv ds dn up gg N (fun m => if m = n then true else got m) := by
  have T : Turn [gg] wr (wr.setCell ⟨gg, n, none⟩ (.bool true)) := (Turn.refl [gg] wr).setCell (.inl (by simp)) _
  have hp := h.ctx.pos
  have hgn := h.gn
  refine ⟨⟨h.ctx.net.turn T (fun g hg hm => ?_) (by simp; omega), h.ctx.pair.turn T (by simp; exact Ne.symm h.gb), h.ctx.bpF, h.ctx.bel.trans (T.toBelow h.ctx.bel.size (by simpa using hgn)), h.ctx.new, hp⟩, h.s.turn T (fun k hk hm => ?_), h.d.turn T (fun k hk hm => ?_), h.u.turn T (fun k hk hm => ?_), ?_, h.gF, hgn, h.gb, h.sb, h.db, h.ub, h.sg, h.dg, h.ug, h.sd, h.su, h.du⟩
  · simp at hm; subst hm; exact h.gF hg
  · simp at hm; subst hm; exact h.sg hk
  · simp at hm; subst hm; exact h.dg hk
  · simp at hm; subst hm; exact h.ug hk
  · refine (h.g.set n (.bool true)).congr (fun i _ => ?_)
    by_cases e : i = n <;> simp [e]
end

/-- A script's items. -/
structure Itm where
  kind : Int
  a : Int
  nonce : Int
  data : ByteArray
structure ItemsIn (w : World) (sl : Option Addr) (xs : List Itm) : Prop where
  at_ : ∀ (i : Nat) (x : Itm), xs[i]? = some x → ∃ a, sl = some a ∧ a.block < w.heap.size ∧ w.cell? (a.add (i * 4)) = some (.int .i64 x.kind) ∧ w.cell? (a.add (i * 4 + 1)) = some (.int .i64 x.a) ∧ w.cell? (a.add (i * 4 + 2)) = some (.int .u64 x.nonce) ∧ w.cell? (a.add (i * 4 + 3)) = some (.string x.data)
  lo : ∀ x ∈ xs, -9223372036854775808 ≤ x.kind ∧ x.kind ≤ 9223372036854775807 ∧ -9223372036854775808 ≤ x.a ∧ x.a ≤ 9223372036854775807
  len : xs.length ≤ 4398046511104

end Go.Proofs.YtfbbidaoljfloaaDoor
