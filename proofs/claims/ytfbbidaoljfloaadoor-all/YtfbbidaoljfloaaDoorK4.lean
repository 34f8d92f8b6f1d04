import Derived.Test.YtfbbidaoljfloaaDoorK3
import Derived.Deep.Upon
namespace Go.Proofs.YtfbbidaoljfloaaDoor
open Go.RowKit Go.MuLone

theorem infoSt : (Tryd.prog.info? 9).map (fun i => (i.zero, i.size, i.bytes)) = some (some (.string .empty), 1, 16) := by kernel_rfl

/-- A list of strings of the law's own, beside the network. -/
structure Strs (w : World) (F : List Nat) (B : Nat) (v : Value) (l : List ByteArray) : Prop where
  owns : w.ownsRow 0 9 1 v l.length (l.map Value.string)
  out : ∀ k, v.ownBlock = some k → k ∉ F ∧ B ≤ k

theorem Strs.nil (w : World) (F : List Nat) (B : Nat) : Strs w F B (.slice none 0 0) [] := ⟨World.ownsRow_nil _ _ _ _, fun k hk => by simp [Value.ownBlock] at hk⟩
theorem Strs.shape {w : World} {F : List Nat} {B : Nat} {v : Value} {l : List ByteArray} (h : Strs w F B v l) : ∃ sl cap, v = .slice sl l.length cap ∧ l.length ≤ cap := by
  rcases h.owns.2 with ⟨rfl, e⟩ | ⟨g, cap, cur, rfl, _, _, hn, _⟩
  · exact ⟨none, 0, by rw [e], by omega⟩
  · exact ⟨_, cap, rfl, hn⟩
theorem Strs.aft {w w' : World} {bs br : Nat} {F F' : List Nat} {S : SV} {V : RV} {B : Nat} {v : Value} {l : List ByteArray} (h : Strs w F B v l) (ha : NAft w w' bs br F F' S V) : Strs w' F' B v l :=
  ⟨ha.turn.owns h.owns (fun k hk => (h.out k hk).1), fun k hk => ⟨fun hm => by
    rcases ha.foot k hm with q | q
    · exact (h.out k hk).1 q
    · have := owns_lt h.owns hk; omega, (h.out k hk).2⟩⟩
theorem Strs.turn {Z : List Nat} {w w' : World} {F : List Nat} {B : Nat} {v : Value} {l : List ByteArray} (h : Strs w F B v l) (ht : Turn Z w w') (hz : ∀ k, v.ownBlock = some k → k ∉ Z) : Strs w' F B v l :=
  ⟨ht.owns h.owns hz, h.out⟩
theorem Strs.get {w : World} {F : List Nat} {B : Nat} {v : Value} {l : List ByteArray} (h : Strs w F B v l) {k : Nat} {t : ByteArray} (hk : l[k]? = some t) : ∃ g cap, v = .slice (some ⟨g, 0, none⟩) l.length cap ∧ g < w.heap.size ∧ g ∉ F ∧ w.cell? ⟨g, k, none⟩ = some (.string t) := by
  have hlt := (List.getElem?_eq_some_iff.1 hk).1
  rcases h.owns.2 with ⟨_, e⟩ | ⟨g, cap, cur, rfl, _, _, hn, _⟩
  · omega
  · exact ⟨g, cap, rfl, owns_lt h.owns rfl, (h.out g rfl).1, owns_cell h.owns rfl (by simp [hk])⟩

/-- What stays when such a list has grown. -/
theorem Blk.grown {w w' : World} {F : List Nat} {v : Value} {g : Nat} {o : Obj} (h : Blk w F g o) (ht : Turn v.ownBlock.toList w w') (hv : v.ownBlock ≠ some g) : Blk w' F g o := h.turn ht (by simpa using hv)
theorem Strs.grown {w w' : World} {F : List Nat} {B : Nat} {v u : Value} {l : List ByteArray} (h : Strs w F B u l) (ht : Turn v.ownBlock.toList w w') (hv : ∀ k, u.ownBlock = some k → v.ownBlock ≠ some k) : Strs w' F B u l := h.turn ht (fun k hk => by simpa using hv k hk)
theorem Net.grown {w w' : World} {bs br : Nat} {F : List Nat} {S : SV} {V : RV} {B : Nat} {v : Value} {l : List ByteArray} (h : Net w bs br F S V) (hs : Strs w F B v l) (hB : 0 < B) (ht : Turn v.ownBlock.toList w w') : Net w' bs br F S V :=
  h.turn ht (fun g hg hm => (hs.out g (by simpa using hm)).1 hg) (fun hm => by have := (hs.out 0 (by simpa using hm)).2; omega)
theorem Ctx.grown {w wr w' : World} {bp bs br : Nat} {F : List Nat} {S : SV} {V : RV} {v : Value} {l : List ByteArray} (h : Ctx w wr bp bs br F S V) (hs : Strs wr F w.heap.size v l) (ht : Turn v.ownBlock.toList wr w') (hv : v.ownBlock ≠ some bp) : Ctx w w' bp bs br F S V :=
  ⟨h.net.grown hs h.pos ht, h.pair.turn ht (by simpa using hv), h.bpF, h.bel.trans (ht.toBelow h.bel.size (fun x hx => (hs.out x (by simpa using hx)).2)), h.new, h.pos⟩

section
variable {ops : Array Oper} {rest : List Oper} {o : Oper} {a : Act} {Q : Exit → Act → World → Prop}
theorem wpList_strs (w : World) (hgd : o.guard = none) (s x : Operand) (ho : o.op = .call { callee := .builtin .append, args := #[s, x], argTypes := #[38, 38] })
    {F : List Nat} {B : Nat} (v : Value) (l : List ByteArray) (h : Strs w F B v l) (hs : a.eval s = v) (G c : Nat) (hx : a.eval x = .slice (some ⟨G, 0, none⟩) 1 c) (t : ByteArray) (hG : w.cell? ⟨G, 0, none⟩ = some (.string t)) (hl : l.length ≤ 8796093022208) (hF : ∀ g ∈ F, g < w.heap.size) (hB : B ≤ w.heap.size)
    (k : ∀ g cap w', Strs w' F B (.slice (some ⟨g, 0, none⟩) (l.length + 1) cap) (l ++ [t]) → Turn v.ownBlock.toList w w' → (v.ownBlock = some g ∨ g = w.heap.size) → wpList Tryd.prog ops Q rest (a.put o.dst (.slice (some ⟨g, 0, none⟩) (l.length + 1) cap)) w') :
    wpList Tryd.prog ops Q (o :: rest) a w := by
  obtain ⟨i0, hi, hz0, hz1, hz2⟩ := info_parts infoSt
  refine wpList_append_far w hgd s x 38 ho 9 i0 _ 1 16 Tryd.underlying38 hi hz0 hz1 hz2 rfl (by decide) v l.length _ hs h.owns ⟨G, 0, none⟩ 1 c [.string t] hx rfl ?_ (by simp [Value.oneCell']) (by decide) (by unfold maxLen; omega) (by omega) ?_
  · intro j u hu
    match j, hu with
    | 0, hu =>
      cases hu
      exact hG
    | j + 1, hu => simp at hu
  · intro g cap w' h2 h3 h4 h5
    refine k g cap w' ⟨by simpa using h2, fun q hq => ?_⟩ ⟨h3.os, h3.tape, h3.output, h3.size, fun q hq hn => h3.block q hq (fun e => hn (by simp [← e]))⟩ h4
    obtain rfl : g = q := by simpa [Value.ownBlock] using hq
    rcases h4 with q | q
    · exact h.out g q
    · subst q
      exact ⟨fun hm => by have := hF _ hm; omega, hB⟩
theorem wpList_strs_none (w : World) (hgd : o.guard = none) (s x : Operand) (ho : o.op = .call { callee := .builtin .append, args := #[s, x], argTypes := #[38, 38] })
    {F : List Nat} {B : Nat} (v : Value) (l : List ByteArray) (h : Strs w F B v l) (hs : a.eval s = v) (hx : a.eval x = .slice none 0 0)
    (k : wpList Tryd.prog ops Q rest (a.put o.dst v) w) :
    wpList Tryd.prog ops Q (o :: rest) a w := by
  obtain ⟨i0, hi, hz0, hz1, hz2⟩ := info_parts infoSt
  obtain ⟨sl, cap, rfl, hcap⟩ := h.shape
  refine wpList_plain hgd fun _ hK => ?_
  unfold Oper.wp execOp
  simp only [ho, resolve, invoke, builtin, Sem.run_bind, Sem.run_pure, Result.andThen_ok, List.map_toArray, List.map_cons, List.map_nil, hs, hx, run_append_nothing (P := Tryd.prog) w 38 38 o.type 9 i0 Tryd.underlying38 hi sl l.length cap hcap (.slice none 0 0) (Src.ofNil w Tryd.underlying38 0)]
  exact hK _ _ k
end

end Go.Proofs.YtfbbidaoljfloaaDoor
