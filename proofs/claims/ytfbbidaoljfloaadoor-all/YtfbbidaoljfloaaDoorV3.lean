import Derived.Test.YtfbbidaoljfloaaDoorJ20
import Derived.Deep.RegionLaw
namespace Go.Proofs.YtfbbidaoljfloaaDoor
open Go.RowKit

theorem infoPost : (Tryd.prog.info? 156).map (fun i => (i.zero, i.size, i.bytes)) = some (some (.agg #[.bool false, .string .empty, .int .i64 0, .int .i64 0]), 4, 40) := by kernel_rfl

/-- A network's frames on their way. -/
structure WayAt (w : World) (bn : Nat) (wsl : Option Addr) (wn wcap : Nat) (wx : List Value) : Prop where
  owns : w.ownsRow 0 156 4 (.slice wsl wn wcap) wn wx
  one : ∀ u ∈ wx, u.oneCell' = true
  apart : (Value.slice wsl wn wcap).ownBlock ≠ some bn
  typed : ∀ i, i < wn → ∃ b s n d, wx[i * 4]? = some (.bool b) ∧ wx[i * 4 + 1]? = some (.string s) ∧ wx[i * 4 + 2]? = some (.int .i64 n) ∧ wx[i * 4 + 3]? = some (.int .i64 d)
theorem WayAt.turn {S : List Nat} {w w' : World} {bn : Nat} {wsl : Option Addr} {wn wcap : Nat} {wx : List Value} (h : WayAt w bn wsl wn wcap wx) (ht : Turn S w w') (hn : ∀ k, (Value.slice wsl wn wcap).ownBlock = some k → k ∉ S) : WayAt w' bn wsl wn wcap wx :=
  ⟨ht.owns h.owns hn, h.one, h.apart, h.typed⟩

theorem typed_push {wx : List Value} {wn : Nat} (hl : wx.length = wn * 4) (h : ∀ i, i < wn → ∃ b s n d, wx[i * 4]? = some (.bool b) ∧ wx[i * 4 + 1]? = some (.string s) ∧ wx[i * 4 + 2]? = some (.int .i64 n) ∧ wx[i * 4 + 3]? = some (.int .i64 d)) (b : Bool) (s : ByteArray) (n d : Int) :
    ∀ i, i < wn + 1 → ∃ b' s' n' d', (wx ++ [.bool b, .string s, .int .i64 n, .int .i64 d])[i * 4]? = some (.bool b') ∧ (wx ++ [.bool b, .string s, .int .i64 n, .int .i64 d])[i * 4 + 1]? = some (.string s') ∧
      (wx ++ [.bool b, .string s, .int .i64 n, .int .i64 d])[i * 4 + 2]? = some (.int .i64 n') ∧ (wx ++ [.bool b, .string s, .int .i64 n, .int .i64 d])[i * 4 + 3]? = some (.int .i64 d') := by
  intro i hi
  by_cases hlt : i < wn
  · obtain ⟨b', s', n', d', h0, h1, h2, h3⟩ := h i hlt
    exact ⟨b', s', n', d', by rw [List.getElem?_append_left (by omega)]; exact h0, by rw [List.getElem?_append_left (by omega)]; exact h1, by rw [List.getElem?_append_left (by omega)]; exact h2, by rw [List.getElem?_append_left (by omega)]; exact h3⟩
  · obtain rfl : i = wn := by omega
    refine ⟨b, s, n, d, ?_, ?_, ?_, ?_⟩
    · rw [List.getElem?_append_right (by omega), show i * 4 - wx.length = 0 by omega]; rfl
    · rw [List.getElem?_append_right (by omega), show i * 4 + 1 - wx.length = 1 by omega]; rfl
    · rw [List.getElem?_append_right (by omega), show i * 4 + 2 - wx.length = 2 by omega]; rfl
    · rw [List.getElem?_append_right (by omega), show i * 4 + 3 - wx.length = 3 by omega]; rfl

set_option maxHeartbeats 800000 in
theorem sent_none (ub : Bool) (bn bs : Nat) (X : Mid) (blk bud : Int) (rv wv : Value) (hsl : Option Addr) (hm hcap q : Nat) (hs : List Value) (num id : Int) (w : World) (h : HoldAt w bn bs X blk bud rv wv hsl hm hcap hs) (hq : hm = 4 * q) (hbig : hm + 4 ≤ 8796093022208) :
    Calls Tryd.prog 62 #[.pointer (some ⟨bn, 0, none⟩), .slice none 0 0, .int .i64 0, .agg #[.bool ub, .string .empty, .int .i64 num, .int .i64 id]] w fun e w' => e = .returned (.bool true) ∧ ∃ hsl' hcap' a b c, Turn (bn :: (Value.slice hsl hm hcap).ownBlock.toList) w w' ∧
      HoldAt w' bn bs X blk bud rv wv hsl' (hm + 4) hcap' (hs ++ [.slice none 0 0, a, b, c]) ∧ HeldList w' (markOf q) (.slice none 0 0) ∧ HeldList w' (markOf q) a ∧ HeldList w' (markOf q) b ∧ HeldList w' (markOf q) c ∧
      (∀ k, a.ownBlock = some k ∨ b.ownBlock = some k ∨ c.ownBlock = some k → w.heap.size ≤ k ∧ (Value.slice hsl' (hm + 4) hcap').ownBlock ≠ some k) ∧
      ((Value.slice hsl' (hm + 4) hcap').ownBlock = (Value.slice hsl hm hcap).ownBlock ∨ ∃ k, (Value.slice hsl' (hm + 4) hcap').ownBlock = some k ∧ w.heap.size ≤ k) := by
  go_enter Tryd.func62, Tryd.ntmps62
  go_wp2
  go_loopw [9, 10] (fun o i wr => o = .bool true ∧ i = .int .i64 0 ∧ wr = w.alloc (.cells #[.bool ub, .string .empty, .int .i64 num, .int .i64 id] 156)) (fun _ _ _ => 0)
  case atStart => exact ⟨rfl, rfl, rfl⟩
  case round =>
    obtain ⟨rfl, rfl, rfl⟩ := hrel
    go_wp2_with fail
    have t0 : Turn [] w (w.alloc (.cells #[.bool ub, .string .empty, .int .i64 num, .int .i64 id] 156)) := (Turn.refl _ _).alloc _
    have h0 := h.turn t0 (by simp) (by simp)
    refine (keep_any bn bs X blk bud rv wv hsl hm hcap q hs [] none 0 _ h0 hq hbig (World.ownsRow_nil _ _ _ _) (by omega) (by simp [Value.ownBlock]) (by simp [Value.ownBlock])).mono ?_
    rintro e w2 ⟨rfl, hsl', hcap', a, b, c, T, H, l0, la, lb, lc, hblk, hown⟩
    go_wp2
    go_ret
    refine ⟨rfl, hsl', hcap', a, b, c, ?_, H, l0, la, lb, lc, ?_, ?_⟩
    · exact (t0.mono (by simp)).trans T (fun x hx => .inl (by simpa [Value.ownBlock] using hx))
    · intro k hk
      have := hblk k hk
      simp at this
      exact ⟨by omega, this.2⟩
    · rcases hown with r | ⟨k, r1, r2⟩
      · exact .inl r
      · exact .inr ⟨k, r1, by simp at r2; omega⟩

set_option maxHeartbeats 1000000 in
theorem sent_one (ub : Bool) (bn bs : Nat) (X : Mid) (blk bud : Int) (rv : Value) (wsl : Option Addr) (wn wcap : Nat) (wx : List Value) (hsl : Option Addr) (hm hcap q : Nat) (hs : List Value) (num id : Int) (G : Nat) (t : ByteArray) (w : World)
    (h : HoldAt w bn bs X blk bud rv (.slice wsl wn wcap) hsl hm hcap hs) (hw : WayAt w bn wsl wn wcap wx) (hwh : ∀ k, (Value.slice wsl wn wcap).ownBlock = some k → (Value.slice hsl hm hcap).ownBlock ≠ some k) (hq : hm = 4 * q) (hbig : hm + 4 ≤ 8796093022208) (hwn : wn ≤ 2199023255552)
    (hG : w.heap[G]? = some (.cells #[.string t] 9 (0, 0))) (ht1 : 5 ≤ t.size) (ht2 : t.size ≤ 80) (hGb : G ≠ bn) (hGh : (Value.slice hsl hm hcap).ownBlock ≠ some G) (hGw : (Value.slice wsl wn wcap).ownBlock ≠ some G) :
    Calls Tryd.prog 62 #[.pointer (some ⟨bn, 0, none⟩), .slice (some ⟨G, 0, none⟩) 1 1, .int .i64 1, .agg #[.bool ub, .string .empty, .int .i64 num, .int .i64 id]] w fun e w' => e = .returned (.bool true) ∧ ∃ wsl' wcap' hsl' hcap' a b c, 
      Turn (bn :: G :: ((Value.slice hsl hm hcap).ownBlock.toList ++ (Value.slice wsl wn wcap).ownBlock.toList)) w w' ∧
      HoldAt w' bn bs X blk bud rv (.slice wsl' (wn + 1) wcap') hsl' (hm + 4) hcap' (hs ++ [.slice (some ⟨G, 0, none⟩) 1 1, a, b, c]) ∧ WayAt w' bn wsl' (wn + 1) wcap' (wx ++ [.bool ub, .string t, .int .i64 num, .int .i64 id]) ∧
      HeldList w' (markOf q) (.slice (some ⟨G, 0, none⟩) 1 1) ∧ HeldList w' (markOf q) a ∧ HeldList w' (markOf q) b ∧ HeldList w' (markOf q) c ∧
      (∀ k, a.ownBlock = some k ∨ b.ownBlock = some k ∨ c.ownBlock = some k → w.heap.size ≤ k ∧ (Value.slice hsl' (hm + 4) hcap').ownBlock ≠ some k ∧ (Value.slice wsl' (wn + 1) wcap').ownBlock ≠ some k) ∧
      ((Value.slice hsl' (hm + 4) hcap').ownBlock = (Value.slice hsl hm hcap).ownBlock ∨ ∃ k, (Value.slice hsl' (hm + 4) hcap').ownBlock = some k ∧ w.heap.size ≤ k) ∧
      ((Value.slice wsl' (wn + 1) wcap').ownBlock = (Value.slice wsl wn wcap).ownBlock ∨ ∃ k, (Value.slice wsl' (wn + 1) wcap').ownBlock = some k ∧ w.heap.size ≤ k) ∧
      (∀ k, (Value.slice wsl' (wn + 1) wcap').ownBlock = some k → (Value.slice hsl' (hm + 4) hcap').ownBlock ≠ some k) := by
  obtain ⟨i0, hi, hz0, hz1, hz2⟩ := info_parts infoPost
  have hGlt := lt_of_heap hG
  have hblt := lt_of_heap h.net
  have cG : w.cell? ⟨G, 0, none⟩ = some (.string t) := by rw [cell_of_row _ _ _ _ _ _ hG]; rfl
  have c10 : w.cell? ⟨bn, 10, none⟩ = some (.slice wsl wn wcap) := by rw [cell_of_row _ _ _ _ _ _ h.net]; rfl
  have f10 : w.frozen? ⟨bn, 10, none⟩ = false := h.froz 10
  have p1 : decide ((5 : Int) ≤ (t.size : Int)) = true := by simp; omega
  have p2 : decide ((t.size : Int) ≤ 80) = true := by simp; omega
  go_enter Tryd.func62, Tryd.ntmps62
  go_wp2
  go_loopw [9, 10] (fun o i wr => o = .bool true ∧ ((i = .int .i64 0 ∧ wr = w.alloc (.cells #[.bool ub, .string .empty, .int .i64 num, .int .i64 id] 156)) ∨
      (i = .int .i64 1 ∧ ∃ g' cap', Turn (bn :: (Value.slice wsl wn wcap).ownBlock.toList) w wr ∧ wr.heap[bn]? = some (.cells (netX bs X blk bud rv (.slice (some ⟨g', 0, none⟩) (wn + 1) cap') (.slice hsl hm hcap)) 151 (0, 0)) ∧
        wr.ownsRow 0 156 4 (.slice (some ⟨g', 0, none⟩) (wn + 1) cap') (wn + 1) (wx ++ [.bool ub, .string t, .int .i64 num, .int .i64 id]) ∧ ((Value.slice wsl wn wcap).ownBlock = some g' ∨ w.heap.size < g') ∧ g' < wr.heap.size))) (fun _ i _ => 1 - (intOf i).toNat)
  case atStart => exact ⟨rfl, .inl ⟨rfl, rfl⟩⟩
  case round =>
    obtain ⟨rfl, ⟨rfl, rfl⟩ | ⟨rfl, g', cap', T, hnet, hown, hat, hg'lt⟩⟩ := hrel
    · go_wp2
      go_region_law (refine step_append_far _ (by rfl) _ _ 149 (by rfl) 156 i0 _ 4 40 Tryd.underlying149 hi hz0 hz1 hz2 rfl (by decide) (.slice wsl wn wcap) wn wx (by simp [Act.eval]) (by exact (hw.owns.alloc _).alloc _) ⟨w.heap.size + 1, 0, none⟩ 1 1 [.bool ub, .string t, .int .i64 num, .int .i64 id] (by simp [Act.eval]) rfl (by exact World.news_of_block (heap_alloc2_new w _ _)) (by intro u hu; simp at hu; rcases hu with rfl | rfl | rfl | rfl <;> rfl) (by decide) (by unfold maxLen; omega) (by omega) ?_; intro g2 cap2 w2 hown hgrow hat hlt2; have hca := (hgrow.cell_far ⟨bn, 10, none⟩ (by simp; omega) (Ne.symm hw.apart)).trans (cellNew (cellNew c10 _) _); have hfa := (hgrow.frozen_far ⟨bn, 10, none⟩ (by simp; omega) (Ne.symm hw.apart)).trans (frozenNew (frozenNew f10 hblt _) (by simp; omega) _))
      all_goals
        have hgb : g2 ≠ bn := by
          rcases hat with r | r
          · intro e; exact hw.apart (by rw [r, e])
          · simp at r; omega
        have TT : Turn (Value.slice wsl wn wcap).ownBlock.toList w w2 := ((((Turn.refl _ w).alloc _).alloc _).drew).grown hgrow (fun k hk => .inl (by simp [hk]))
        have hn2 := TT.cells h.net (fun r => hw.apart (by simpa using r))
        have HN2 : Hid (w2.heap[bn]? = some (.cells (netX bs X blk bud rv (.slice wsl wn wcap) (.slice hsl hm hcap)) 151 (0, 0))) := hn2
        clear hn2
        go_wp2
        refine ⟨⟨rfl, .inr ⟨rfl, g2, cap2, (TT.mono (fun x hx => List.mem_cons_of_mem _ hx)).setCell (.inl (by simp)) _, heap_setCell_same _ _ _ _ _ _ HN2.out, ((Turn.refl [bn] w2).setCell (.inl (by simp)) _).owns hown (fun k hk => by simp [Value.ownBlock] at hk; subst hk; simpa using hgb), ?_, by simpa using hlt2⟩⟩, by simp [intOf]⟩
        rcases hat with r | r
        · exact .inl r
        · right; simp at r; omega
    · have hO : ∀ x, (Value.slice hsl hm hcap).ownBlock = some x → x < w.heap.size := fun x hx => owns_lt h.owns hx
      have hg1 : g' ≠ bn := by
        rcases hat with r | r
        · intro e; exact hw.apart (by rw [r, e])
        · omega
      have hg2 : (Value.slice hsl hm hcap).ownBlock ≠ some g' := by
        rcases hat with r | r
        · exact hwh g' r
        · intro e; have := hO g' e; omega
      have hg3 : g' ≠ G := by
        rcases hat with r | r
        · intro e; exact hGw (by rw [r, e])
        · omega
      have H1 : HoldAt wr bn bs X blk bud rv (.slice (some ⟨g', 0, none⟩) (wn + 1) cap') hsl hm hcap hs := ⟨hnet, T.owns h.owns (fun x hx r => by
        simp only [List.mem_cons, Option.mem_toList] at r
        rcases r with r | r
        · exact h.apart (by rw [hx, r])
        · exact hwh x r hx), h.apart, h.len⟩
      have hGr := T.cells hG (fun r => by
        simp only [List.mem_cons, Option.mem_toList] at r
        rcases r with r | r
        · exact hGb r
        · exact hGw r)
      have hGl : wr.ownsRow 0 9 1 (.slice (some ⟨G, 0, none⟩) 1 1) 1 [.string t] := ⟨rfl, .inr ⟨G, 1, _, rfl, Nat.zero_le _, hGr, Nat.le_refl _, by decide, rfl, rfl⟩⟩
      have zr := T.size
      go_wp2_with fail
      refine (keep_any bn bs X blk bud rv _ hsl hm hcap q hs [.string t] (some ⟨G, 0, none⟩) 1 _ H1 hq hbig hGl (by omega) (by simpa [Value.ownBlock] using hGb) (fun k hk => by simp [Value.ownBlock] at hk; subst hk; exact hGh)).mono ?_
      rintro e w2 ⟨rfl, hsl', hcap', a, b, c, T2, H2, l0, la, lb, lc, hblk, hown2⟩
      go_wp2
      go_ret
      refine ⟨rfl, some ⟨g', 0, none⟩, cap', hsl', hcap', a, b, c, ?_, H2, ⟨?_, ?_, ?_, ?_⟩, l0, la, lb, lc, ?_, ?_, ?_, ?_⟩
      · refine (T.mono (fun x hx => ?_)).trans T2 (fun x hx => .inl ?_)
        · simp only [List.mem_cons, List.mem_append] at hx ⊢
          rcases hx with r | r
          · exact .inl r
          · exact .inr (.inr (.inr r))
        · simp only [List.mem_cons, List.mem_append, Value.ownBlock, Option.toList_some, List.not_mem_nil, or_false] at hx ⊢
          rcases hx with r | r | r
          · exact .inl r
          · exact .inr (.inr (.inl r))
          · exact .inr (.inl r)
      · refine T2.owns hown (fun k hk r => ?_)
        simp only [Value.ownBlock, Option.some.injEq] at hk
        subst hk
        simp only [List.mem_cons, List.mem_append, Option.mem_toList] at r
        rcases r with r | r | r
        · exact hg1 r
        · exact hg2 r
        · simp [Value.ownBlock] at r; omega
      · intro u hu
        rcases List.mem_append.1 hu with r | r
        · exact hw.one u r
        · simp at r; rcases r with rfl | rfl | rfl | rfl <;> rfl
      · simpa [Value.ownBlock] using hg1
      · exact typed_push hw.owns.1 hw.typed _ _ _ _
      · intro k hk
        have r := hblk k hk
        exact ⟨by omega, r.2, by simp [Value.ownBlock]; omega⟩
      · rcases hown2 with r | ⟨k, r1, r2⟩
        · exact .inl r
        · exact .inr ⟨k, r1, by omega⟩
      · rcases hat with r | r
        · exact .inl (by rw [r]; rfl)
        · exact .inr ⟨g', rfl, by omega⟩
      · intro k hk
        simp only [Value.ownBlock, Option.some.injEq] at hk
        subst hk
        rcases hown2 with r | ⟨k, r1, r2⟩
        · rw [r]; exact hg2
        · rw [r1]; simp; omega

end Go.Proofs.YtfbbidaoljfloaaDoor
