import Derived.Test.YtfbbidaoljfloaaDoorP4
import Derived.Test.YtfbbidaoljfloaaDoorS1
import Derived.Deep.Cut
namespace Go.Proofs.YtfbbidaoljfloaaDoor
open Go.RowKit

section
variable {P : Program} (w : World)
/-- append onto an owned row that has no room: a new row, and nothing else is turned. -/
theorem run_append_new (t ty : TypeId) (e : TypeId) (i : TypeInfo) (z : Value) (size bytes : Nat) (ht : P.underlying t = some (.slice e)) (hi : P.info? e = some i) (hz : i.zero = some z)
    (hsize : i.size = size) (hby : i.bytes = bytes) (hzs : z.cells.size = size) (hsz : 0 < size)
    (sl : Option Addr) (n : Nat) (xs : List Value) (hown : w.ownsRow 0 e size (.slice sl n n) n xs)
    (ad : Addr) (m c : Nat) (news : List Value) (hl : news.length = m * size) (hnews : ∀ j u, news[j]? = some u → w.cell? (ad.add j) = some u) (h1 : ∀ u ∈ news, u.oneCell' = true)
    (hm : 0 < m) (h63 : n + m ≤ maxLen) (hbytes : ((n + m) + (n + m) / 4 + 192) * bytes ≤ 281474976710656) :
    ∃ cap w', (Builtin.append_ #[t, t] ty #[.slice sl n n, .slice (some ad) m c]).run P w = .ok (.slice (some ⟨w.heap.size, 0, none⟩) (n + m) cap) w' ∧
      w'.ownsRow 0 e size (.slice (some ⟨w.heap.size, 0, none⟩) (n + m) cap) (n + m) (xs ++ news) ∧ Below w.heap.size w w' := by
  obtain ⟨v', w', h2, h3, h4, _⟩ := run_append_own_wide (P := P) w 0 t ty e i z size bytes ht hi hz hsize hby hzs hsz _ n xs hown ad m c news hl hnews h1 h63 hbytes (Nat.zero_le _)
  obtain ⟨g, cap, rfl, _, hlt⟩ := h3.form (by omega)
  subst hsize
  subst hby
  have hsmall : n + m ≤ 9223372036854775807 := by simp only [maxLen] at h63; omega
  rcases hown.2 with ⟨h0, rfl⟩ | ⟨g', cap', cur, hv, hbg, hg, hnc, hcm, hcs, htake⟩
  · obtain rfl : sl = none := by injection h0
    have hq := run_append_nil (P := P) w t ty e i z ht hi hz ad m c news hl hnews (by omega) (by omega) (by have hb := hbytes; simp only [Nat.zero_add] at hb; exact Nat.le_trans (Nat.mul_le_mul_right _ (by omega)) hb)
    have h2' := h2
    rw [hq] at h2
    simp only [Result.ok.injEq, Value.slice.injEq, Option.some.injEq, Addr.mk.injEq] at h2
    obtain ⟨⟨⟨hgg, _⟩, _⟩, rfl⟩ := h2
    subst hgg
    exact ⟨cap, _, h2', h3, ((Below.refl _ _).drew).alloc (Nat.le_refl _) _⟩
  · obtain ⟨rfl, rfl⟩ : sl = some ⟨g', 0, none⟩ ∧ n = cap' := by injection hv with a b c; exact ⟨a, c⟩
    have hq := run_append_grow (P := P) w t ty e i z ht hi hz ⟨g', 0, none⟩ n n xs hown.1 (hown.cells (g := g') rfl) ad m c news hl hnews (by omega) (by omega) (growslice_fits_wide (by omega) hbytes)
    have h2' := h2
    rw [hq] at h2
    simp only [Result.ok.injEq, Value.slice.injEq, Option.some.injEq, Addr.mk.injEq] at h2
    obtain ⟨⟨⟨hgg, _⟩, _⟩, rfl⟩ := h2
    subst hgg
    exact ⟨cap, _, h2', h3, ((Below.refl _ _).drew).alloc (Nat.le_refl _) _⟩

theorem wpList_append_new {ops : Array Oper} {rest : List Oper} {o : Oper} {a : Act} {Q : Exit → Act → World → Prop} (hgd : o.guard = none) (s x : Operand) (t : TypeId)
    (ho : o.op = .call { callee := .builtin .append, args := #[s, x], argTypes := #[t, t] })
    (e : TypeId) (i : TypeInfo) (z : Value) (size bytes : Nat) (ht : P.underlying t = some (.slice e)) (hi : P.info? e = some i) (hz : i.zero = some z)
    (hsize : i.size = size) (hby : i.bytes = bytes) (hzs : z.cells.size = size) (hsz : 0 < size)
    (sl : Option Addr) (n : Nat) (xs : List Value) (hs : a.eval s = .slice sl n n) (hown : w.ownsRow 0 e size (.slice sl n n) n xs)
    (ad : Addr) (m c : Nat) (news : List Value) (hx : a.eval x = .slice (some ad) m c) (hl : news.length = m * size) (hnews : ∀ j u, news[j]? = some u → w.cell? (ad.add j) = some u) (h1 : ∀ u ∈ news, u.oneCell' = true)
    (hm : 0 < m) (h63 : n + m ≤ maxLen) (hbytes : ((n + m) + (n + m) / 4 + 192) * bytes ≤ 281474976710656) (H : Nat) (hH : w.heap.size = H)
    (h : ∀ cap w', w'.ownsRow 0 e size (.slice (some ⟨H, 0, none⟩) (n + m) cap) (n + m) (xs ++ news) → Below w.heap.size w w' → wpList P ops Q rest (a.put o.dst (.slice (some ⟨H, 0, none⟩) (n + m) cap)) w') : wpList P ops Q (o :: rest) a w := by
  subst hH
  refine wpList_plain hgd fun _ hK => ?_
  obtain ⟨cap, w', hr, h2, h3⟩ := run_append_new (P := P) w t o.type e i z size bytes ht hi hz hsize hby hzs hsz sl n xs hown ad m c news hl hnews h1 hm h63 hbytes
  unfold Oper.wp execOp
  simp only [ho, resolve, invoke, builtin, Sem.run_bind, Sem.run_pure, Result.andThen_ok, List.map_toArray, List.map_cons, List.map_nil, hs, hx, hr]
  exact hK _ _ (h cap w' h2 h3)
end

/-- A list that came out, written full with a mark. -/
def HeldList (w : World) (m : ByteArray) (v : Value) : Prop :=
  ∃ sl n cap, v = .slice sl n cap ∧ n ≤ 4 ∧ w.ownsRow 0 9 1 v n (List.replicate n (.string m))

theorem HeldList.turn {S : List Nat} {w w' : World} {m : ByteArray} {v : Value} (h : HeldList w m v) (ht : Turn S w w') (hn : ∀ k, v.ownBlock = some k → k ∉ S) : HeldList w' m v := by
  obtain ⟨sl, n, cap, rfl, h4, ho⟩ := h
  exact ⟨sl, n, cap, rfl, h4, ht.owns ho hn⟩

/-- What a network's block holds, of lists. -/
structure HoldAt (w : World) (bn bs : Nat) (blk bud : Int) (rv wv : Value) (hsl : Option Addr) (hm hcap : Nat) (hs : List Value) : Prop where
  net : w.heap[bn]? = some (.cells (netCells bs blk bud rv wv (.slice hsl hm hcap)) 151 (0, 0))
  owns : w.ownsRow 0 38 1 (.slice hsl hm hcap) hm hs
  apart : (Value.slice hsl hm hcap).ownBlock ≠ some bn
  len : hs.length = hm

section
variable {w : World} {bn bs : Nat} {blk bud : Int} {rv wv : Value} {hsl : Option Addr} {hm hcap : Nat} {hs : List Value}
theorem HoldAt.at (h : HoldAt w bn bs blk bud rv wv hsl hm hcap hs) {k : Nat} (hk : k < hs.length) :
    ∃ g, hsl = some ⟨g, 0, none⟩ ∧ w.cell? ⟨g, k, none⟩ = some hs[k] := by
  have hl := h.len
  rcases h.owns.2 with ⟨_, h0⟩ | ⟨g, cap', cur, hv, _⟩
  · omega
  · refine ⟨g, by injection hv, owns_cell h.owns (by rw [hv]; rfl) (List.getElem?_eq_getElem hk)⟩

theorem HoldAt.cell (h : HoldAt w bn bs blk bud rv wv hsl hm hcap hs) : w.cell? ⟨bn, 11, none⟩ = some (.slice hsl hm hcap) := by
  rw [cell_of_row _ _ _ _ _ _ h.net]; rfl
theorem HoldAt.froz (h : HoldAt w bn bs blk bud rv wv hsl hm hcap hs) (j : Nat) : w.frozen? ⟨bn, j, none⟩ = false := frozen_of_row _ _ _ _ _ h.net
theorem HoldAt.turn {S : List Nat} {w' : World} (h : HoldAt w bn bs blk bud rv wv hsl hm hcap hs) (ht : Turn S w w') (h1 : bn ∉ S) (h2 : ∀ k, (Value.slice hsl hm hcap).ownBlock = some k → k ∉ S) : HoldAt w' bn bs blk bud rv wv hsl hm hcap hs :=
  ⟨ht.cells h.net h1, ht.owns h.owns h2, h.apart, h.len⟩

/-- One list more in the book. -/
theorem HoldAt.push {w' : World} {o : Obj} {x : Value} {g cap' : Nat} (h : HoldAt w bn bs blk bud rv wv hsl hm hcap hs) (hown : w'.ownsRow 0 38 1 (.slice (some ⟨g, 0, none⟩) (hm + 1) cap') (hm + 1) (hs ++ [x])) (hgrow : (w.alloc o).grownBy w' (Value.slice hsl hm hcap).ownBlock)
    (hat : (Value.slice hsl hm hcap).ownBlock = some g ∨ g = (w.alloc o).heap.size) :
    HoldAt (w'.setCell ⟨bn, 11, none⟩ (.slice (some ⟨g, 0, none⟩) (hm + 1) cap')) bn bs blk bud rv wv (some ⟨g, 0, none⟩) (hm + 1) cap' (hs ++ [x]) ∧
      Turn (bn :: (Value.slice hsl hm hcap).ownBlock.toList) w (w'.setCell ⟨bn, 11, none⟩ (.slice (some ⟨g, 0, none⟩) (hm + 1) cap')) ∧ ((Value.slice hsl hm hcap).ownBlock = some g ∨ w.heap.size < g) := by
  have hblt := lt_of_heap h.net
  have hgb : g ≠ bn := by
    rcases hat with q | q
    · intro e; exact h.apart (by rw [q, e])
    · simp at q; omega
  have t : Turn (Value.slice hsl hm hcap).ownBlock.toList w w' := ((Turn.refl _ w).alloc o).grown hgrow (fun k hk => .inl (by simp [hk]))
  have hnet := t.cells h.net (fun q => h.apart (by simpa using q))
  refine ⟨⟨heap_setCell_same _ _ _ _ _ _ hnet, ?_, ?_, by simp [h.len]⟩, (t.mono (fun x hx => List.mem_cons_of_mem _ hx)).setCell (.inl (by simp)) _, ?_⟩
  · exact ((Turn.refl [bn] w').setCell (.inl (by simp)) _).owns hown (fun k hk => by simp [Value.ownBlock] at hk; subst hk; simpa using hgb)
  · intro e; simp [Value.ownBlock] at e; exact hgb e
  · rcases hat with q | q
    · exact .inl q
    · right; simp at q; omega
end

set_option maxHeartbeats 800000 in
theorem still_any (bn bs : Nat) (blk bud : Int) (rv wv : Value) (hsl : Option Addr) (hm hcap : Nat) (hs : List Value) (w : World) (h : HoldAt w bn bs blk bud rv wv hsl hm hcap hs) (hl : ∀ i (hi : i < hs.length), HeldList w (markOf (i / 4)) hs[i]) (hn : hs.length ≤ 4611686018427387904) :
    Calls Tryd.prog 37 #[.pointer (some ⟨bn, 0, none⟩)] w fun e w' => e = .returned (.bool true) ∧ Below w.heap.size w w' := by
  have hlen := h.len
  subst hlen
  have hc := h.cell
  have hblt : bn < w.heap.size := lt_of_heap h.net
  go_enter Tryd.func37, Tryd.ntmps37
  go_wp2
  go_loopw [3] (fun i wr => ∃ k : Nat, k ≤ hs.length ∧ i = .int .i64 k ∧ Below w.heap.size w wr) (fun i _ => hs.length - (intOf i).toNat)
  case atStart => exact ⟨0, Nat.zero_le _, rfl, Below.refl _ _⟩
  case round =>
    obtain ⟨k, hk, rfl, hb⟩ := hrel
    have hcr : wr.cell? ⟨bn, 11, none⟩ = some (.slice hsl hs.length hcap) := (hb.cell (p := ⟨bn, 11, none⟩) hblt).trans hc
    by_cases hlt : k < hs.length
    · obtain ⟨g, hsg, hcg⟩ := h.at hlt
      obtain ⟨sl, n, cap, hv, hn4, ho⟩ := hl k hlt
      rw [hv] at hcg ho
      subst hsg
      have hglt : g < w.heap.size := World.block_lt_of_cell? w _ hcg
      have hlt' : (k : Int) < (hs.length : Int) := by omega
      have hk0 : (0 : Int) ≤ (k : Int) := by omega
      have HV : Hid (hs[k] = .slice sl n cap) := hv
      clear hv
      have e4 : ((k : Int) / 4) = ((k / 4 : Nat) : Int) := by omega
      have E4 : Hid (((k : Int) / 4) = ((k / 4 : Nat) : Int)) := e4
      clear e4
      go_wp2_with fail
      rw [E4.out]
      refine (mark_any (k / 4) _ (by omega)).mono ?_
      rintro e w1 ⟨rfl, hb1⟩
      have hb2 : Below w.heap.size w w1 := hb.trans (hb1.mono hb.size)
      go_wp2
      go_loopw [5] (fun i wr => ∃ j : Nat, j ≤ n ∧ i = .int .i64 j ∧ Below w.heap.size w wr) (fun i _ => n - (intOf i).toNat)
      case atStart => exact ⟨0, Nat.zero_le _, rfl, hb2⟩
      case round =>
        obtain ⟨j, hj, rfl, hb3⟩ := hrel
        have hcr3 : wr.cell? ⟨bn, 11, none⟩ = some (.slice (some ⟨g, 0, none⟩) hs.length hcap) := (hb3.cell (p := ⟨bn, 11, none⟩) hblt).trans hc
        have hcg3 : wr.cell? ⟨g, k, none⟩ = some (.slice sl n cap) := (hb3.cell (p := ⟨g, k, none⟩) hglt).trans hcg
        by_cases hjn : j < n
        · have hjn' : (j : Int) < (n : Int) := by omega
          have hj0 : (0 : Int) ≤ (j : Int) := by omega
          obtain ⟨gl, hgl⟩ : ∃ gl, sl = some ⟨gl, 0, none⟩ := by
            rcases ho.2 with ⟨_, h0⟩ | ⟨gl, _, _, hv, _⟩
            · omega
            · exact ⟨gl, by injection hv⟩
          subst hgl
          have hcl := owns_cell ho (g := gl) rfl (j := j) (u := .string (markOf (k / 4))) (by simp [hjn])
          have hcl3 : wr.cell? ⟨gl, j, none⟩ = some (.string (markOf (k / 4))) := (hb3.cell (p := ⟨gl, j, none⟩) (World.block_lt_of_cell? w _ hcl)).trans hcl
          go_wp2
          refine ⟨⟨j + 1, by omega, by go_num, hb3⟩, by simp [intOf]; omega⟩
        · have hjn' : ¬ (j : Int) < (n : Int) := by omega
          go_wp2
          go_roundw
          case rel => exact ⟨k + 1, by omega, by go_num, hb3⟩
          case measure => simp [intOf]; omega
    · have hlt' : ¬ (k : Int) < (hs.length : Int) := by omega
      go_wp2
      go_ret
      exact ⟨rfl, hb⟩

end Go.Proofs.YtfbbidaoljfloaaDoor
