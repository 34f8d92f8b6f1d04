import Derived.Test.YtfbbidaoljfloaaDoorP4
import Derived.Test.YtfbbidaoljfloaaDoorS1
import Derived.Deep.Cut
namespace Go.Proofs.YtfbbidaoljfloaaDoor
open Go.RowKit

section
variable {P : Program} (w : World)
/-- append onto an owned row that has no room: a new row, and nothing else is turned. -/
theorem run_append_new (t ty : TypeId) (e : TypeId) (i : TypeInfo) (z : Value) (size bytes : Nat) (ht : P.underlying t = some (.slice e)) (hi : P.info? e = some i) (hz : i.zero = some z)
    (hsize : i.size = size) (hby : i.bytes = bytes) (hzs : z.cells.size = size) (hsz : 0 < size)
    (sl : Option Addr) (n : Nat) (xs : List Value) (hown : w.ownsRow 0 e size (.slice sl n n) n xs)
    (ad : Addr) (m c : Nat) (news : List Value) (hl : news.length = m * size) (hnews : ∀ j u, news[j]? = some u → w.cell? (ad.add j) = some u) (h1 : ∀ u ∈ news, u.oneCell' = true)
    (hm : 0 < m) (h63 : n + m ≤ maxLen) (hbytes : ((n + m) + (n + m) / 4 + 192) * bytes ≤ 281474976710656) :
    ∃ cap w', (Builtin.append_ #[t, t] ty #[.slice sl n n, .slice (some ad) m c]).run P w = .ok (.slice (some ⟨w.heap.size, 0, none⟩) (n + m) cap) w' ∧
      w'.ownsRow 0 e size (.slice (some ⟨w.heap.size, 0, none⟩) (n + m) cap) (n + m) (xs ++ news) ∧ Below w.heap.size w w' := by
  obtain ⟨v', w', h2, h3, h4, _⟩ := run_append_own_wide (P := P) w 0 t ty e i z size bytes ht hi hz hsize hby hzs hsz _ n xs hown ad m c news hl hnews h1 h63 hbytes (Nat.zero_le _)
  obtain ⟨g, cap, rfl, _, hlt⟩ := h3.form (by omega)
  subst hsize
  subst hby
  have hsmall : n + m ≤ 9223372036854775807 := by simp only [maxLen] at h63; omega
  rcases hown.2 with ⟨h0, rfl⟩ | ⟨g', cap', cur, hv, hbg, hg, hnc, hcm, hcs, htake⟩
  · obtain rfl : sl = none := by injection h0
    have hq := run_append_nil (P := P) w t ty e i z ht hi hz ad m c news hl hnews (by omega) (by omega) (by have hb := hbytes; simp only [Nat.zero_add] at hb; exact Nat.le_trans (Nat.mul_le_mul_right _ (by omega)) hb)
    have h2' := h2
    rw [hq] at h2
    simp only [Result.ok.injEq, Value.slice.injEq, Option.some.injEq, Addr.mk.injEq] at h2
    obtain ⟨⟨⟨hgg, _⟩, _⟩, rfl⟩ := h2
    subst hgg
    exact ⟨cap, _, h2', h3, ((Below.refl _ _).drew).alloc (Nat.le_refl _) _⟩
  · obtain ⟨rfl, rfl⟩ : sl = some ⟨g', 0, none⟩ ∧ n = cap' := by injection hv with a b c; exact ⟨a, c⟩
    have hq := run_append_grow (P := P) w t ty e i z ht hi hz ⟨g', 0, none⟩ n n xs hown.1 (hown.cells (g := g') rfl) ad m c news hl hnews (by omega) (by omega) (growslice_fits_wide (by omega) hbytes)
    have h2' := h2
    rw [hq] at h2
    simp only [Result.ok.injEq, Value.slice.injEq, Option.some.injEq, Addr.mk.injEq] at h2
    obtain ⟨⟨⟨hgg, _⟩, _⟩, rfl⟩ := h2
    subst hgg
    exact ⟨cap, _, h2', h3, ((Below.refl _ _).drew).alloc (Nat.le_refl _) _⟩

theorem wpList_append_new {ops : Array Oper} {rest : List Oper} {o : Oper} {a : Act} {Q : Exit → Act → World → Prop} (hgd : o.guard = none) (s x : Operand) (t : TypeId)
    (ho : o.op = .call { callee := .builtin .append, args := #[s, x], argTypes := #[t, t] })
    (e : TypeId) (i : TypeInfo) (z : Value) (size bytes : Nat) (ht : P.underlying t = some (.slice e)) (hi : P.info? e = some i) (hz : i.zero = some z)
    (hsize : i.size = size) (hby : i.bytes = bytes) (hzs : z.cells.size = size) (hsz : 0 < size)
    (sl : Option Addr) (n : Nat) (xs : List Value) (hs : a.eval s = .slice sl n n) (hown : w.ownsRow 0 e size (.slice sl n n) n xs)
    (ad : Addr) (m c : Nat) (news : List Value) (hx : a.eval x = .slice (some ad) m c) (hl : news.length = m * size) (hnews : ∀ j u, news[j]? = some u → w.cell? (ad.add j) = some u) (h1 : ∀ u ∈ news, u.oneCell' = true)
    (hm : 0 < m) (h63 : n + m ≤ maxLen) (hbytes : ((n + m) + (n + m) / 4 + 192) * bytes ≤ 281474976710656) (H : Nat) (hH : w.heap.size = H)
    (h : ∀ cap w', w'.ownsRow 0 e size (.slice (some ⟨H, 0, none⟩) (n + m) cap) (n + m) (xs ++ news) → Below w.heap.size w w' → wpList P ops Q rest (a.put o.dst (.slice (some ⟨H, 0, none⟩) (n + m) cap)) w') : wpList P ops Q (o :: rest) a w := by
  subst hH
  refine wpList_plain hgd fun _ hK => ?_
  obtain ⟨cap, w', hr, h2, h3⟩ := run_append_new (P := P) w t o.type e i z size bytes ht hi hz hsize hby hzs hsz sl n xs hown ad m c news hl hnews h1 hm h63 hbytes
  unfold Oper.wp execOp
  simp only [ho, resolve, invoke, builtin, Sem.run_bind, Sem.run_pure, Result.andThen_ok, List.map_toArray, List.map_cons, List.map_nil, hs, hx, hr]
  exact hK _ _ (h cap w' h2 h3)
end

/-- A list that came out, written full with a mark. -/
def HeldList (w : World) (m : ByteArray) (v : Value) : Prop :=
  ∃ sl n cap, v = .slice sl n cap ∧ n ≤ 4 ∧ w.ownsRow 0 9 1 v n (List.replicate n (.string m))

theorem HeldList.turn {S : List Nat} {w w' : World} {m : ByteArray} {v : Value} (h : HeldList w m v) (ht : Turn S w w') (hn : ∀ k, v.ownBlock = some k → k ∉ S) : HeldList w' m v := by
  obtain ⟨sl, n, cap, rfl, h4, ho⟩ := h
  exact ⟨sl, n, cap, rfl, h4, ht.owns ho hn⟩

/-- What lies in the midst of a network's block: the receiver, and what the document says of it. -/
structure Mid where
  r : Value
  g5 : Value
  g6 : Value
  g7 : Value
  g8 : Value
  g9 : Value
def netX (bs : Nat) (X : Mid) (blk bud : Int) (rv wv hv : Value) : Array Value :=
  #[.pointer (some ⟨bs, 0, none⟩), X.r, .int .i64 blk, .int .i64 bud, rv, X.g5, X.g6, X.g7, X.g8, X.g9, wv, hv]
/-- What a network's block holds, of lists. -/
structure HoldAt (w : World) (bn bs : Nat) (X : Mid) (blk bud : Int) (rv wv : Value) (hsl : Option Addr) (hm hcap : Nat) (hs : List Value) : Prop where
  net : w.heap[bn]? = some (.cells (netX bs X blk bud rv wv (.slice hsl hm hcap)) 151 (0, 0))
  owns : w.ownsRow 0 38 1 (.slice hsl hm hcap) hm hs
  apart : (Value.slice hsl hm hcap).ownBlock ≠ some bn
  len : hs.length = hm

section
variable {w : World} {bn bs : Nat} {X : Mid} {blk bud : Int} {rv wv : Value} {hsl : Option Addr} {hm hcap : Nat} {hs : List Value}
theorem HoldAt.at (h : HoldAt w bn bs X blk bud rv wv hsl hm hcap hs) {k : Nat} (hk : k < hs.length) :
    ∃ g, hsl = some ⟨g, 0, none⟩ ∧ w.cell? ⟨g, k, none⟩ = some hs[k] := by
  have hl := h.len
  rcases h.owns.2 with ⟨_, h0⟩ | ⟨g, cap', cur, hv, _⟩
  · omega
  · refine ⟨g, by injection hv, owns_cell h.owns (by rw [hv]; rfl) (List.getElem?_eq_getElem hk)⟩

theorem HoldAt.cell (h : HoldAt w bn bs X blk bud rv wv hsl hm hcap hs) : w.cell? ⟨bn, 11, none⟩ = some (.slice hsl hm hcap) := by
  rw [cell_of_row _ _ _ _ _ _ h.net]; rfl
theorem HoldAt.froz (h : HoldAt w bn bs X blk bud rv wv hsl hm hcap hs) (j : Nat) : w.frozen? ⟨bn, j, none⟩ = false := frozen_of_row _ _ _ _ _ h.net
theorem HoldAt.turn {S : List Nat} {w' : World} (h : HoldAt w bn bs X blk bud rv wv hsl hm hcap hs) (ht : Turn S w w') (h1 : bn ∉ S) (h2 : ∀ k, (Value.slice hsl hm hcap).ownBlock = some k → k ∉ S) : HoldAt w' bn bs X blk bud rv wv hsl hm hcap hs :=
  ⟨ht.cells h.net h1, ht.owns h.owns h2, h.apart, h.len⟩

/-- One list more in the book. -/
theorem HoldAt.push {w' : World} {o : Obj} {x : Value} {g cap' : Nat} (h : HoldAt w bn bs X blk bud rv wv hsl hm hcap hs) (hown : w'.ownsRow 0 38 1 (.slice (some ⟨g, 0, none⟩) (hm + 1) cap') (hm + 1) (hs ++ [x])) (hgrow : (w.alloc o).grownBy w' (Value.slice hsl hm hcap).ownBlock)
    (hat : (Value.slice hsl hm hcap).ownBlock = some g ∨ g = (w.alloc o).heap.size) :
    HoldAt (w'.setCell ⟨bn, 11, none⟩ (.slice (some ⟨g, 0, none⟩) (hm + 1) cap')) bn bs X blk bud rv wv (some ⟨g, 0, none⟩) (hm + 1) cap' (hs ++ [x]) ∧
      Turn (bn :: (Value.slice hsl hm hcap).ownBlock.toList) w (w'.setCell ⟨bn, 11, none⟩ (.slice (some ⟨g, 0, none⟩) (hm + 1) cap')) ∧ ((Value.slice hsl hm hcap).ownBlock = some g ∨ w.heap.size < g) := by
  have hblt := lt_of_heap h.net
  have hgb : g ≠ bn := by
    rcases hat with q | q
    · intro e; exact h.apart (by rw [q, e])
    · simp at q; omega
  have t : Turn (Value.slice hsl hm hcap).ownBlock.toList w w' := ((Turn.refl _ w).alloc o).grown hgrow (fun k hk => .inl (by simp [hk]))
  have hnet := t.cells h.net (fun q => h.apart (by simpa using q))
  refine ⟨⟨heap_setCell_same _ _ _ _ _ _ hnet, ?_, ?_, by simp [h.len]⟩, (t.mono (fun x hx => List.mem_cons_of_mem _ hx)).setCell (.inl (by simp)) _, ?_⟩
  · exact ((Turn.refl [bn] w').setCell (.inl (by simp)) _).owns hown (fun k hk => by simp [Value.ownBlock] at hk; subst hk; simpa using hgb)
  · intro e; simp [Value.ownBlock] at e; exact hgb e
  · rcases hat with q | q
    · exact .inl q
    · right; simp at q; omega
end

set_option maxHeartbeats 800000 in
theorem still_any (bn bs : Nat) (X : Mid) (blk bud : Int) (rv wv : Value) (hsl : Option Addr) (hm hcap : Nat) (hs : List Value) (w : World) (h : HoldAt w bn bs X blk bud rv wv hsl hm hcap hs) (hl : ∀ i (hi : i < hs.length), HeldList w (markOf (i / 4)) hs[i]) (hn : hs.length ≤ 4611686018427387904) :
    Calls Tryd.prog 37 #[.pointer (some ⟨bn, 0, none⟩)] w fun e w' => e = .returned (.bool true) ∧ Below w.heap.size w w' := by
  have hlen := h.len
  subst hlen
  have hc := h.cell
  have hblt : bn < w.heap.size := lt_of_heap h.net
  go_enter Tryd.func37, Tryd.ntmps37
  go_wp2
  go_loopw [3] (fun i wr => ∃ k : Nat, k ≤ hs.length ∧ i = .int .i64 k ∧ Below w.heap.size w wr) (fun i _ => hs.length - (intOf i).toNat)
  case atStart => exact ⟨0, Nat.zero_le _, rfl, Below.refl _ _⟩
  case round =>
    obtain ⟨k, hk, rfl, hb⟩ := hrel
    have hcr : wr.cell? ⟨bn, 11, none⟩ = some (.slice hsl hs.length hcap) := (hb.cell (p := ⟨bn, 11, none⟩) hblt).trans hc
    by_cases hlt : k < hs.length
    · obtain ⟨g, hsg, hcg⟩ := h.at hlt
      obtain ⟨sl, n, cap, hv, hn4, ho⟩ := hl k hlt
      rw [hv] at hcg ho
      subst hsg
      have hglt : g < w.heap.size := World.block_lt_of_cell? w _ hcg
      have hlt' : (k : Int) < (hs.length : Int) := by omega
      have hk0 : (0 : Int) ≤ (k : Int) := by omega
      have HV : Hid (hs[k] = .slice sl n cap) := hv
      clear hv
      have e4 : ((k : Int) / 4) = ((k / 4 : Nat) : Int) := by omega
      have E4 : Hid (((k : Int) / 4) = ((k / 4 : Nat) : Int)) := e4
      clear e4
      go_wp2_with fail
      rw [E4.out]
      refine (mark_any (k / 4) _ (by omega)).mono ?_
      rintro e w1 ⟨rfl, hb1⟩
      have hb2 : Below w.heap.size w w1 := hb.trans (hb1.mono hb.size)
      go_wp2
      go_loopw [5] (fun i wr => ∃ j : Nat, j ≤ n ∧ i = .int .i64 j ∧ Below w.heap.size w wr) (fun i _ => n - (intOf i).toNat)
      case atStart => exact ⟨0, Nat.zero_le _, rfl, hb2⟩
      case round =>
        obtain ⟨j, hj, rfl, hb3⟩ := hrel
        have hcr3 : wr.cell? ⟨bn, 11, none⟩ = some (.slice (some ⟨g, 0, none⟩) hs.length hcap) := (hb3.cell (p := ⟨bn, 11, none⟩) hblt).trans hc
        have hcg3 : wr.cell? ⟨g, k, none⟩ = some (.slice sl n cap) := (hb3.cell (p := ⟨g, k, none⟩) hglt).trans hcg
        by_cases hjn : j < n
        · have hjn' : (j : Int) < (n : Int) := by omega
          have hj0 : (0 : Int) ≤ (j : Int) := by omega
          obtain ⟨gl, hgl⟩ : ∃ gl, sl = some ⟨gl, 0, none⟩ := by
            rcases ho.2 with ⟨_, h0⟩ | ⟨gl, _, _, hv, _⟩
            · omega
            · exact ⟨gl, by injection hv⟩
          subst hgl
          have hcl := owns_cell ho (g := gl) rfl (j := j) (u := .string (markOf (k / 4))) (by simp [hjn])
          have hcl3 : wr.cell? ⟨gl, j, none⟩ = some (.string (markOf (k / 4))) := (hb3.cell (p := ⟨gl, j, none⟩) (World.block_lt_of_cell? w _ hcl)).trans hcl
          go_wp2
          refine ⟨⟨j + 1, by omega, by go_num, hb3⟩, by simp [intOf]; omega⟩
        · have hjn' : ¬ (j : Int) < (n : Int) := by omega
          go_wp2
          go_roundw
          case rel => exact ⟨k + 1, by omega, by go_num, hb3⟩
          case measure => simp [intOf]; omega
    · have hlt' : ¬ (k : Int) < (hs.length : Int) := by omega
      go_wp2
      go_ret
      exact ⟨rfl, hb⟩

end Go.Proofs.YtfbbidaoljfloaaDoor


namespace Go.Proofs.YtfbbidaoljfloaaDoor
open Go.RowKit

theorem infoStr : (Tryd.prog.info? 9).map (fun i => (i.zero, i.size, i.bytes)) = some (some (.string .empty), 1, 16) := by kernel_rfl
theorem infoStrs : (Tryd.prog.info? 38).map (fun i => (i.zero, i.size, i.bytes)) = some (some (.slice none 0 0), 1, 24) := by kernel_rfl

theorem fill_step (xs : List Value) (m : Value) (k : Nat) (hk : k < xs.length) : (List.replicate k m ++ xs.drop k).set k m = List.replicate (k + 1) m ++ xs.drop (k + 1) := by
  rw [List.set_append_right _ _ (by simp), List.length_replicate, Nat.sub_self, List.drop_eq_getElem_cons hk, List.set_cons_zero, List.replicate_succ', List.append_assoc]
  rfl

set_option maxHeartbeats 1000000 in
theorem keep_any (bn bs : Nat) (X : Mid) (blk bud : Int) (rv wv : Value) (hsl : Option Addr) (hm hcap q : Nat) (hs xs : List Value) (ls : Option Addr) (n : Nat) (w : World) (h : HoldAt w bn bs X blk bud rv wv hsl hm hcap hs) (hq : hm = 4 * q) (hbig : hm + 4 ≤ 8796093022208)
    (hl : w.ownsRow 0 9 1 (.slice ls n n) n xs) (hn : n ≤ 1) (hlb : (Value.slice ls n n).ownBlock ≠ some bn) (hlh : ∀ k, (Value.slice ls n n).ownBlock = some k → (Value.slice hsl hm hcap).ownBlock ≠ some k) :
    Calls Tryd.prog 89 #[.pointer (some ⟨bn, 0, none⟩), .slice ls n n] w fun e w' => e = .returned (.tuple #[]) ∧ ∃ hsl' hcap' a b c, Turn (bn :: ((Value.slice hsl hm hcap).ownBlock.toList ++ (Value.slice ls n n).ownBlock.toList)) w w' ∧
      HoldAt w' bn bs X blk bud rv wv hsl' (hm + 4) hcap' (hs ++ [.slice ls n n, a, b, c]) ∧ HeldList w' (markOf q) (.slice ls n n) ∧ HeldList w' (markOf q) a ∧ HeldList w' (markOf q) b ∧ HeldList w' (markOf q) c ∧
      (∀ k, a.ownBlock = some k ∨ b.ownBlock = some k ∨ c.ownBlock = some k → w.heap.size ≤ k ∧ (Value.slice hsl' (hm + 4) hcap').ownBlock ≠ some k) ∧
      ((Value.slice hsl' (hm + 4) hcap').ownBlock = (Value.slice hsl hm hcap).ownBlock ∨ ∃ k, (Value.slice hsl' (hm + 4) hcap').ownBlock = some k ∧ w.heap.size ≤ k) := by
  obtain ⟨i0, hi, hz0, hz1, hz2⟩ := info_parts infoStr
  obtain ⟨j0, hj, hy0, hy1, hy2⟩ := info_parts infoStrs
  have hc := h.cell
  have hblt : bn < w.heap.size := lt_of_heap h.net
  have hlen := hl.1
  have e4 : ((hm : Int) / 4) = (q : Int) := by omega
  have E4 : Hid (((hm : Int) / 4) = (q : Int)) := e4
  have HQ : Hid (hm = 4 * q) := hq
  clear e4 hq
  go_enter Tryd.func89, Tryd.ntmps89
  go_wp2_with fail
  rw [E4.out]
  refine (mark_any q _ (by have := HQ.out; omega)).mono ?_
  rintro e w1 ⟨rfl, hb1⟩
  have t1 : Turn (Value.slice ls n n).ownBlock.toList w w1 := Turn.below hb1 (Nat.le_refl _)
  have hl1 : w1.ownsRow 0 9 1 (.slice ls n n) n xs := (Turn.below (S := []) hb1 (Nat.le_refl _)).owns hl (by simp)
  go_wp2
  go_loopw [5] (fun i wr => ∃ k : Nat, k ≤ n ∧ i = .int .i64 k ∧ wr.ownsRow 0 9 1 (.slice ls n n) n (List.replicate k (.string (markOf q)) ++ xs.drop k) ∧ Turn (Value.slice ls n n).ownBlock.toList w wr) (fun i _ => n - (intOf i).toNat)
  case atStart => exact ⟨0, Nat.zero_le _, rfl, by simpa using hl1, t1⟩
  case round =>
    obtain ⟨k, hk, rfl, hrow, ht⟩ := hrel
    by_cases hlt : k < n
    · obtain ⟨gl, hgl⟩ : ∃ gl, ls = some ⟨gl, 0, none⟩ := by
        rcases hrow.2 with ⟨_, h0⟩ | ⟨gl, _, _, hv, _⟩
        · omega
        · exact ⟨gl, by injection hv⟩
      subst hgl
      have hlt' : (k : Int) < (n : Int) := by omega
      have hk0 : (0 : Int) ≤ (k : Int) := by omega
      obtain ⟨x, hx⟩ : ∃ x, (List.replicate k (Value.string (markOf q)) ++ xs.drop k)[k]? = some x := ⟨_, List.getElem?_eq_getElem (by simp; omega)⟩
      have hck := owns_cell hrow (g := gl) rfl hx
      have hfk := owns_frozen hrow (g := gl) rfl k
      have hset := owns_setCell hrow (g := gl) rfl k (.string (markOf q))
      have HSET : Hid (World.ownsRow _ 0 9 1 (.slice (some ⟨gl, 0, none⟩) n n) n ((List.replicate k (Value.string (markOf q)) ++ xs.drop k).set k (.string (markOf q)))) := hset
      clear hset hx
      go_wp2
      refine ⟨⟨k + 1, by omega, by go_num, ?_, ht.setCell (.inl (by simp [Value.ownBlock])) _⟩, by simp [intOf]; omega⟩
      have e := fill_step xs (.string (markOf q)) k (by omega)
      rw [← e]
      exact HSET.out
    · have hlt' : ¬ (k : Int) < (n : Int) := by omega
      obtain rfl : k = n := by omega
      rw [List.drop_of_length_le (by omega), List.append_nil] at hrow
      have hwr := ht.size
      go_upto_region 6 with (at_builtin; refine wpList_append_new _ rfl _ _ 38 rfl 9 i0 _ 1 16 Tryd.underlying38 hi hz0 hz1 hz2 rfl (by decide) ls k _ rfl (hrow.alloc _) ⟨wr.heap.size, 0, none⟩ 1 1 [.string (markOf q)] rfl rfl (World.news_of_block (heap_alloc_new wr _)) (by intro u hu; simp at hu; subst hu; rfl) (by decide) (by unfold maxLen; omega) (by omega) (wr.heap.size + 1) (by simp) ?_; intro ca w3 hoa hb3)
      have t3 : Turn [] wr w3 := ((Turn.refl _ _).alloc _).trans (Turn.below (S := []) hb3 (Nat.le_refl _)) (by simp)
      have hrow3 := t3.owns hrow (by simp)
      have a3 := hb3.size
      simp only [World.size_alloc] at a3
      go_upto_region 7 with (at_builtin; refine wpList_append_new _ rfl _ _ 38 rfl 9 i0 _ 1 16 Tryd.underlying38 hi hz0 hz1 hz2 rfl (by decide) ls k _ rfl (hrow3.alloc _) ⟨w3.heap.size, 0, none⟩ 2 2 [.string (markOf q), .string (markOf q)] rfl rfl (World.news_of_block (heap_alloc_new w3 _)) (by intro u hu; simp at hu; subst hu; rfl) (by decide) (by unfold maxLen; omega) (by omega) (w3.heap.size + 1) (by simp) ?_; intro cb w4 hob hb4)
      have t4 : Turn [] w3 w4 := ((Turn.refl _ _).alloc _).trans (Turn.below (S := []) hb4 (Nat.le_refl _)) (by simp)
      have hrow4 := t4.owns hrow3 (by simp)
      have a4 := hb4.size
      simp only [World.size_alloc] at a4
      go_upto_region 8 with (at_builtin; refine wpList_append_new _ rfl _ _ 38 rfl 9 i0 _ 1 16 Tryd.underlying38 hi hz0 hz1 hz2 rfl (by decide) ls k _ rfl (hrow4.alloc _) ⟨w4.heap.size, 0, none⟩ 3 3 [.string (markOf q), .string (markOf q), .string (markOf q)] rfl rfl (World.news_of_block (heap_alloc_new w4 _)) (by intro u hu; simp at hu; subst hu; rfl) (by decide) (by unfold maxLen; omega) (by omega) (w4.heap.size + 1) (by simp) ?_; intro cc w5 hoc hb5)
      have t5 : Turn [] w4 w5 := ((Turn.refl _ _).alloc _).trans (Turn.below (S := []) hb5 (Nat.le_refl _)) (by simp)
      have a5 := hb5.size
      simp only [World.size_alloc] at a5
      have T5 : Turn (Value.slice ls k k).ownBlock.toList w w5 := ((ht.trans t3 (by simp)).trans t4 (by simp)).trans t5 (by simp)
      have H5 : HoldAt w5 bn bs X blk bud rv wv hsl hm hcap hs := h.turn T5 (fun q => hlb (by simpa using q)) (fun x hx q => hlh x (by simpa using q) hx)
      have hc6 := H5.cell
      have hf6 := H5.froz 11
      have hl6 : bn < w5.heap.size := lt_of_heap H5.net
      go_upto_region 9 with (at_builtin; refine wpList_append_far _ rfl _ _ 73 rfl 38 j0 _ 1 24 Tryd.underlying73 hj hy0 hy1 hy2 rfl (by decide) (.slice hsl (hm) hcap) (hm) _ rfl (H5.owns.alloc _) ⟨w5.heap.size, 0, none⟩ 1 1 [.slice ls k k] rfl rfl (World.news_of_block (heap_alloc_new w5 _)) (by intro u hu; simp at hu; subst hu; rfl) (by decide) (by unfold maxLen; omega) (by omega) ?_; intro g6 c6 w6 ho6 hg6 hat6 hlt6; have hk6 := (hg6.cell_far ⟨bn, 11, none⟩ (by simp; omega) (Ne.symm H5.apart)).trans (cellNew hc6 _); have hz6 := (hg6.frozen_far ⟨bn, 11, none⟩ (by simp; omega) (Ne.symm H5.apart)).trans (frozenNew hf6 hl6 _))
      obtain ⟨H6, T6, P6⟩ := H5.push ho6 hg6 hat6
      clear hk6 hz6 hc6 hf6 hl6 ho6 hg6 hat6 hlt6
      try simp only [Nat.add_assoc, Nat.reduceAdd, List.append_assoc, List.cons_append, List.nil_append] at H6 T6
      generalize w6.setCell ⟨bn, 11, none⟩ (.slice (some ⟨g6, 0, none⟩) (hm + 1) c6) = v6 at *
      have hc7 := H6.cell
      have hf7 := H6.froz 11
      have hl7 : bn < v6.heap.size := lt_of_heap H6.net
      go_upto_region 10 with (at_builtin; refine wpList_append_far _ rfl _ _ 73 rfl 38 j0 _ 1 24 Tryd.underlying73 hj hy0 hy1 hy2 rfl (by decide) (.slice (some ⟨g6, 0, none⟩) (hm + 1) c6) (hm + 1) _ rfl (H6.owns.alloc _) ⟨v6.heap.size, 0, none⟩ 1 1 [.slice (some ⟨wr.heap.size + 1, 0, none⟩) (k + 1) ca] rfl rfl (World.news_of_block (heap_alloc_new v6 _)) (by intro u hu; simp at hu; subst hu; rfl) (by decide) (by unfold maxLen; omega) (by omega) ?_; intro g7 c7 w7 ho7 hg7 hat7 hlt7; have hk7 := (hg7.cell_far ⟨bn, 11, none⟩ (by simp; omega) (Ne.symm H6.apart)).trans (cellNew hc7 _); have hz7 := (hg7.frozen_far ⟨bn, 11, none⟩ (by simp; omega) (Ne.symm H6.apart)).trans (frozenNew hf7 hl7 _))
      obtain ⟨H7, T7, P7⟩ := H6.push ho7 hg7 hat7
      clear hk7 hz7 hc7 hf7 hl7 ho7 hg7 hat7 hlt7
      try simp only [Nat.add_assoc, Nat.reduceAdd, List.append_assoc, List.cons_append, List.nil_append] at H7 T7
      generalize w7.setCell ⟨bn, 11, none⟩ (.slice (some ⟨g7, 0, none⟩) (hm + 2) c7) = v7 at *
      have hc8 := H7.cell
      have hf8 := H7.froz 11
      have hl8 : bn < v7.heap.size := lt_of_heap H7.net
      go_upto_region 11 with (at_builtin; refine wpList_append_far _ rfl _ _ 73 rfl 38 j0 _ 1 24 Tryd.underlying73 hj hy0 hy1 hy2 rfl (by decide) (.slice (some ⟨g7, 0, none⟩) (hm + 2) c7) (hm + 2) _ rfl (H7.owns.alloc _) ⟨v7.heap.size, 0, none⟩ 1 1 [.slice (some ⟨w3.heap.size + 1, 0, none⟩) (k + 2) cb] rfl rfl (World.news_of_block (heap_alloc_new v7 _)) (by intro u hu; simp at hu; subst hu; rfl) (by decide) (by unfold maxLen; omega) (by omega) ?_; intro g8 c8 w8 ho8 hg8 hat8 hlt8; have hk8 := (hg8.cell_far ⟨bn, 11, none⟩ (by simp; omega) (Ne.symm H7.apart)).trans (cellNew hc8 _); have hz8 := (hg8.frozen_far ⟨bn, 11, none⟩ (by simp; omega) (Ne.symm H7.apart)).trans (frozenNew hf8 hl8 _))
      obtain ⟨H8, T8, P8⟩ := H7.push ho8 hg8 hat8
      clear hk8 hz8 hc8 hf8 hl8 ho8 hg8 hat8 hlt8
      try simp only [Nat.add_assoc, Nat.reduceAdd, List.append_assoc, List.cons_append, List.nil_append] at H8 T8
      generalize w8.setCell ⟨bn, 11, none⟩ (.slice (some ⟨g8, 0, none⟩) (hm + 3) c8) = v8 at *
      have hc9 := H8.cell
      have hf9 := H8.froz 11
      have hl9 : bn < v8.heap.size := lt_of_heap H8.net
      go_wp2_with (at_builtin; refine wpList_append_far _ rfl _ _ 73 rfl 38 j0 _ 1 24 Tryd.underlying73 hj hy0 hy1 hy2 rfl (by decide) (.slice (some ⟨g8, 0, none⟩) (hm + 3) c8) (hm + 3) _ rfl (H8.owns.alloc _) ⟨v8.heap.size, 0, none⟩ 1 1 [.slice (some ⟨w4.heap.size + 1, 0, none⟩) (k + 3) cc] rfl rfl (World.news_of_block (heap_alloc_new v8 _)) (by intro u hu; simp at hu; subst hu; rfl) (by decide) (by unfold maxLen; omega) (by omega) ?_; intro g9 c9 w9 ho9 hg9 hat9 hlt9; have hk9 := (hg9.cell_far ⟨bn, 11, none⟩ (by simp; omega) (Ne.symm H8.apart)).trans (cellNew hc9 _); have hz9 := (hg9.frozen_far ⟨bn, 11, none⟩ (by simp; omega) (Ne.symm H8.apart)).trans (frozenNew hf9 hl9 _))
      obtain ⟨H9, T9, P9⟩ := H8.push ho9 hg9 hat9
      clear hk9 hz9 hc9 hf9 hl9 ho9 hg9 hat9 hlt9
      try simp only [Nat.add_assoc, Nat.reduceAdd, List.append_assoc, List.cons_append, List.nil_append] at H9 T9
      generalize w9.setCell ⟨bn, 11, none⟩ (.slice (some ⟨g9, 0, none⟩) (hm + 4) c9) = v9 at *
      simp only [Value.ownBlock, Option.toList_some, Option.some.injEq] at T7 T8 T9 P7 P8 P9
      have hO : ∀ x, (Value.slice hsl hm hcap).ownBlock = some x → x < w.heap.size := fun x hx => owns_lt h.owns hx
      have z5 := T5.size
      have z6 := T6.size
      have z7 := T7.size
      have z8 := T8.size
      have b3 := owns_lt hoa (g := wr.heap.size + 1) rfl
      have b4 := owns_lt hob (g := w3.heap.size + 1) rfl
      have b5 := owns_lt hoc (g := w4.heap.size + 1) rfl
      have Q7 : (Value.slice hsl hm hcap).ownBlock = some g7 ∨ w5.heap.size < g7 := by
        rcases P7 with rfl | q
        · exact P6
        · right; omega
      have Q8 : (Value.slice hsl hm hcap).ownBlock = some g8 ∨ w5.heap.size < g8 := by
        rcases P8 with rfl | q
        · exact Q7
        · right; omega
      have Q9 : (Value.slice hsl hm hcap).ownBlock = some g9 ∨ w5.heap.size < g9 := by
        rcases P9 with rfl | q
        · exact Q8
        · right; omega
      have hmem : ∀ g, ((Value.slice hsl hm hcap).ownBlock = some g ∨ w5.heap.size < g) → ∀ x ∈ [bn, g], x ∈ bn :: (Value.slice hsl hm hcap).ownBlock.toList ∨ w5.heap.size ≤ x := by
        intro g hg x hx
        simp only [List.mem_cons, List.not_mem_nil, or_false] at hx
        rcases hx with rfl | rfl
        · exact .inl (by simp)
        · rcases hg with q | q
          · exact .inl (by simp [q])
          · right; omega
      have T59 : Turn (bn :: (Value.slice hsl hm hcap).ownBlock.toList) w5 v9 := ((T6.trans T7 (hmem _ P6)).trans T8 (hmem _ Q7)).trans T9 (hmem _ Q8)
      have far : ∀ x, w.heap.size ≤ x → x ∉ bn :: (Value.slice hsl hm hcap).ownBlock.toList := by
        intro x hx hm
        simp only [List.mem_cons, Option.mem_toList] at hm
        rcases hm with q | q
        · omega
        · have := hO x q; omega
      have lists : ∀ (j : Nat), List.replicate k (Value.string (markOf q)) ++ List.replicate j (Value.string (markOf q)) = List.replicate (k + j) (.string (markOf q)) := fun j => List.replicate_append_replicate
      refine bodyPost_end (results_none rfl _ _ _) rfl ⟨rfl, ?_, some ⟨g9, 0, none⟩, c9, _, _, _, H9, ?_, ?_, ?_, ?_, ?_, ?_⟩
      · exact (T5.mono (fun x hx => by simp at hx ⊢; exact .inr (.inr hx))).trans T59 (fun x hx => .inl (by simp at hx ⊢; rcases hx with r | r; exact .inl r; exact .inr (.inl r)))
      · exact ⟨ls, k, k, rfl, by omega, T59.owns (t5.owns hrow4 (by simp)) (fun x hx hm => by
          simp only [List.mem_cons, Option.mem_toList] at hm
          rcases hm with r | r
          · exact hlb (by rw [hx, r])
          · exact hlh x hx r)⟩
      · exact ⟨_, _, _, rfl, by omega, by rw [← lists 1]; exact T59.owns (t5.owns (t4.owns hoa (by simp)) (by simp)) (fun x hx => by simp [Value.ownBlock] at hx; exact far x (by omega))⟩
      · exact ⟨_, _, _, rfl, by omega, by rw [← lists 2]; exact T59.owns (t5.owns hob (by simp)) (fun x hx => by simp [Value.ownBlock] at hx; exact far x (by omega))⟩
      · exact ⟨_, _, _, rfl, by omega, by rw [← lists 3]; exact T59.owns hoc (fun x hx => by simp [Value.ownBlock] at hx; exact far x (by omega))⟩
      · intro x hx
        simp only [Value.ownBlock, Option.some.injEq] at hx ⊢
        refine ⟨by omega, fun e => ?_⟩
        rcases Q9 with r | r
        · have := hO g9 r; omega
        · omega
      · simp only [Value.ownBlock]
        rcases Q9 with r | r
        · left; simpa [Value.ownBlock] using r.symm
        · right; exact ⟨g9, rfl, by omega⟩

end Go.Proofs.YtfbbidaoljfloaaDoor
