import Derived.Test.YtafipndlfkklfaaDoorJ31
namespace Go.Proofs.YtafipndlfkklfaaDoor
open Go.RowKit Go.MuLone

/-- What has become of a network, in memory. -/
structure StpM (w : World) (N : NetA) (w' : World) (N' : NetA) : Prop where
  m : InvM w' N'
  turn : Turn N.blocks w w'
  bn : N'.bn = N.bn
  blocks : ∀ k ∈ N'.blocks, k ∈ N.blocks ∨ w.heap.size ≤ k
  ros : ∀ k ∈ N'.ros, k ∈ N.ros ∨ w.heap.size ≤ k
theorem InvM.stp {w : World} {N : NetA} (h : InvM w N) : StpM w N w N := ⟨h, Turn.refl _ _, rfl, fun _ hk => .inl hk, fun _ hk => .inl hk⟩
theorem StpM.trans {w w1 w2 : World} {N N1 N2 : NetA} (s : StpM w N w1 N1) (t : StpM w1 N1 w2 N2) : StpM w N w2 N2 := by
  have z := s.turn.size
  refine ⟨t.m, s.turn.trans t.turn s.blocks, t.bn.trans s.bn, fun k hk => ?_, fun k hk => ?_⟩
  · rcases t.blocks k hk with q | q
    · exact s.blocks k q
    · right; omega
  · rcases t.ros k hk with q | q
    · exact s.ros k q
    · right; omega
theorem StpM.of_turn {w w' : World} {N : NetA} (h : InvM w N) (T : Turn [] w w') : StpM w N w' N := ⟨h.turn T, T.mono (by simp), rfl, fun _ hk => .inl hk, fun _ hk => .inl hk⟩
theorem StpM.then {w w1 w2 : World} {N N1 : NetA} (s : StpM w N w1 N1) (T : Turn [] w1 w2) : StpM w N w2 N1 := s.trans (StpM.of_turn s.m T)
theorem StpM.ends {w w1 w' : World} {N0 N : NetA} {F' : List Nat} {S' : SV} {V' : RV} (s : StpM w N0 w1 N) (ha : NAft w1 w' N.bs N.br N.F F' S' V') : StpM w N0 w' { N with F := F', S := S', V := V' } :=
  s.trans ⟨s.m.ends ha, ha.turn.mono (fun _ hx => List.mem_append_right _ hx), rfl, foot_blocks ha, fun _ hk => .inl hk⟩
theorem StpM.objs {w w1 w' : World} {N0 N : NetA} {os' : List Thing} (s : StpM w N0 w1 N) (T : Turn N.rv.ownBlock.toList w1 w') (ht : Things w' 158 N.rsl N.os.length N.rcap os') (hl : os'.length = N.os.length) : StpM w N0 w' { N with os := os' } := by
  have e : ({ N with os := os' } : NetA).rv = N.rv := by simp [NetA.rv, hl]
  have el : ({ N with os := os' } : NetA).lows = N.lows := by unfold NetA.lows; rw [e]; rfl
  refine s.trans ⟨s.m.objs T ht hl, T.mono (fun x hx => List.mem_append_left _ ?_), rfl, fun k hk => .inl ?_, fun k hk => .inl hk⟩
  · simp only [NetA.lows, List.mem_cons, List.mem_append]
    exact .inr (.inl (.inl (.inl (.inl hx))))
  · unfold NetA.blocks at hk ⊢
    rw [el] at hk
    exact hk
theorem StpM.to {w w' : World} {N N' : NetA} (s : StpM w N w' N') (l : InvL N') (h1 : N'.hm ≤ N.hm + 4) (h2 : N'.wn ≤ N.wn + 1) : StpA w N w' N' := ⟨⟨s.m, l⟩, s.turn, s.bn, s.blocks, s.ros, h1, h2⟩
theorem StpM.lt {w w' : World} {N N' : NetA} (s : StpM w N w' N') : w.heap.size ≤ w'.heap.size := s.turn.size

theorem mem_lows {N : NetA} {x : Nat} (h : x = N.bn ∨ N.rv.ownBlock = some x ∨ N.wv.ownBlock = some x ∨ N.hv.ownBlock = some x ∨ N.gv.ownBlock = some x ∨ N.dv.ownBlock = some x) : x ∈ N.lows := by
  simp only [NetA.lows, List.mem_cons, List.mem_append, Option.mem_toList]
  rcases h with q | q | q | q | q | q
  · exact .inl q
  · exact .inr (.inl (.inl (.inl (.inl q))))
  · exact .inr (.inl (.inl (.inl (.inr q))))
  · exact .inr (.inl (.inl (.inr q)))
  · exact .inr (.inl (.inr q))
  · exact .inr (.inr q)

/-- Nothing is sent. -/
theorem sentA_none {w0 w : World} {N0 N : NetA} (ub : Bool) (num id : Int) (s : StpM w0 N0 w N) (h4 : ∃ q, N.hm = 4 * q) (hbig : N.hm + 4 ≤ 8796093022208) :
    Calls Tryd.prog 62 #[.pointer (some ⟨N.bn, 0, none⟩), .slice none 0 0, .int .i64 0, .agg #[.bool ub, .string .empty, .int .i64 num, .int .i64 id]] w fun e w' => e = .returned (.bool true) ∧ ∃ hsl hcap a b c, StpM w0 N0 w' { N with hsl := hsl, hm := N.hm + 4, hcap := hcap, hs := N.hs ++ [.slice none 0 0, a, b, c] } := by
  obtain ⟨q, hq⟩ := h4
  have h := s.m
  refine (sent_none ub N.bn N.bs N.X N.blk N.bud N.rv N.wv N.hsl N.hm N.hcap q N.hs num id w h.hold hq hbig).mono ?_
  rintro e w' ⟨rfl, hsl', hcap', a, b, c, T, H, l0, la, lb, lc, hblk, hown⟩
  refine ⟨rfl, hsl', hcap', a, b, c, ?_⟩
  have hY : WayAt w' N.bn N.wsl N.wn N.wcap N.wx := h.way.turn T (fun k hk hm => by
    simp only [List.mem_cons, Option.mem_toList] at hm
    rcases hm with r | r
    · subst r; exact cells_ne (by decide) h.hold.net h.way.owns hk
    · exact own_ne (by decide) h.way.owns h.hold.owns k hk r)
  obtain ⟨k1, k2⟩ := h.kept hq T (fun x hx => by
    simp only [List.mem_cons, Option.mem_toList] at hx
    rcases hx with r | r
    · exact .inl r
    · exact .inr (.inr (.inl r))) H hY l0 la lb lc (fun k hk => by simp [Value.ownBlock] at hk) (fun k hk => (hblk k hk).1) hown (.inl rfl)
  refine s.trans ⟨k1, T.mono (fun x hx => List.mem_append_left _ ?_), rfl, fun k hk => ?_, fun k hk => ?_⟩
  · simp only [List.mem_cons, Option.mem_toList] at hx
    rcases hx with r | r
    · exact mem_lows (.inl r)
    · exact mem_lows (.inr (.inr (.inr (.inl r))))
  · rcases List.mem_append.1 hk with r | r
    · rcases k2 k r with r | r
      · exact .inl (List.mem_append_left _ r)
      · exact .inr r
    · exact .inl (List.mem_append_right _ r)
  · have hk : k ∈ (N.hs ++ [.slice none 0 0, a, b, c]).filterMap Value.ownBlock ++ N.gs := hk
    rw [List.filterMap_append] at hk
    rcases List.mem_append.1 hk with m | m
    · rcases List.mem_append.1 m with m | m
      · exact .inl (List.mem_append_left _ m)
      · obtain ⟨v, hv, hvk⟩ := List.mem_filterMap.1 m
        simp at hv
        rcases hv with rfl | rfl | rfl | rfl
        · simp [Value.ownBlock] at hvk
        · exact .inr (hblk k (.inl hvk)).1
        · exact .inr (hblk k (.inr (.inl hvk))).1
        · exact .inr (hblk k (.inr (.inr hvk))).1
    · exact .inl (List.mem_append_right _ m)

/-- A frame is sent: G holds it. -/
theorem sentA_one {w0 w : World} {N0 N : NetA} (ub : Bool) (num id : Int) (G : Nat) (t : ByteArray) (s : StpM w0 N0 w N) (h4 : ∃ q, N.hm = 4 * q) (hbig : N.hm + 4 ≤ 8796093022208) (hwn : N.wn ≤ 2199023255552)
    (hG : w.heap[G]? = some (.cells #[.string t] 9 (0, 0))) (ht1 : 5 ≤ t.size) (ht2 : t.size ≤ 80) (hGn : w0.heap.size ≤ G) (hGF : G ∉ N.F) (hGh : G ∉ N.hs.filterMap Value.ownBlock) (hw0 : 0 < w0.heap.size) :
    Calls Tryd.prog 62 #[.pointer (some ⟨N.bn, 0, none⟩), .slice (some ⟨G, 0, none⟩) 1 1, .int .i64 1, .agg #[.bool ub, .string .empty, .int .i64 num, .int .i64 id]] w fun e w' => e = .returned (.bool true) ∧
      ∃ wsl wcap hsl hcap a b c, StpM w0 N0 w' { N with wsl := wsl, wn := N.wn + 1, wcap := wcap, wx := N.wx ++ [.bool ub, .string t, .int .i64 num, .int .i64 id], hsl := hsl, hm := N.hm + 4, hcap := hcap, hs := N.hs ++ [.slice (some ⟨G, 0, none⟩) 1 1, a, b, c] } := by
  obtain ⟨q, hq⟩ := h4
  have h := s.m
  have g1 : G ≠ N.bn := fun e => by
    have := h.hold.net
    rw [← e, hG] at this
    simp at this
  have g2 : N.hv.ownBlock ≠ some G := cells_ne (by decide) hG h.hold.owns
  have g3 : N.wv.ownBlock ≠ some G := cells_ne (by decide) hG h.way.owns
  refine (sent_one ub N.bn N.bs N.X N.blk N.bud N.rv N.wsl N.wn N.wcap N.wx N.hsl N.hm N.hcap q N.hs num id G t w h.hold h.way (own_ne (by decide) h.way.owns h.hold.owns) hq hbig hwn hG ht1 ht2 g1 g2 g3).mono ?_
  rintro e w' ⟨rfl, wsl', wcap', hsl', hcap', a, b, c, T, H, Y, l0, la, lb, lc, hblk, hown, howy, hyh⟩
  refine ⟨rfl, wsl', wcap', hsl', hcap', a, b, c, ?_⟩
  obtain ⟨k1, k2⟩ := h.kept hq T (fun x hx => by
    simp only [List.mem_cons, List.mem_append, Option.mem_toList] at hx
    rcases hx with r | r | r | r
    · exact .inl r
    · exact .inr (.inr (.inr ⟨_, _, by rw [r]; exact hG, by rw [r]; exact hGF, by rw [r]; exact hGh, by omega⟩))
    · exact .inr (.inr (.inl r))
    · exact .inr (.inl r)) H Y l0 la lb lc (fun k hk => by
      simp only [Value.ownBlock, Option.some.injEq] at hk
      rw [← hk]; exact hGF) (fun k hk => (hblk k hk).1) hown howy
  have z := s.turn.size
  refine ⟨k1, s.turn.trans T (fun x hx => ?_), s.bn, fun k hk => ?_, fun k hk => ?_⟩
  · simp only [List.mem_cons, List.mem_append, Option.mem_toList] at hx
    rcases hx with r | r | r | r
    · exact s.blocks x (List.mem_append_left _ (mem_lows (.inl r)))
    · right; omega
    · exact s.blocks x (List.mem_append_left _ (mem_lows (.inr (.inr (.inr (.inl r))))))
    · exact s.blocks x (List.mem_append_left _ (mem_lows (.inr (.inr (.inl r)))))
  · rcases List.mem_append.1 hk with r | r
    · rcases k2 k r with r | r
      · exact s.blocks k (List.mem_append_left _ r)
      · right; omega
    · exact s.blocks k (List.mem_append_right _ r)
  · have hk : k ∈ (N.hs ++ [.slice (some ⟨G, 0, none⟩) 1 1, a, b, c]).filterMap Value.ownBlock ++ N.gs := hk
    rw [List.filterMap_append] at hk
    rcases List.mem_append.1 hk with m | m
    · rcases List.mem_append.1 m with m | m
      · exact s.ros k (List.mem_append_left _ m)
      · obtain ⟨v, hv, hvk⟩ := List.mem_filterMap.1 m
        simp at hv
        rcases hv with rfl | rfl | rfl | rfl
        · simp [Value.ownBlock] at hvk
          right; omega
        · have := (hblk k (.inl hvk)).1; right; omega
        · have := (hblk k (.inr (.inl hvk))).1; right; omega
        · have := (hblk k (.inr (.inr hvk))).1; right; omega
    · exact s.ros k (List.mem_append_right _ m)
end Go.Proofs.YtafipndlfkklfaaDoor


namespace Go.Proofs.YtafipndlfkklfaaDoor
open Go.RowKit Go.MuLone

theorem PostOk.more {N : NetA} {b : Bool} {s : ByteArray} {n d : Int} (h : PostOk N b s n d) {dl : List Nat} (hd : ∀ x ∈ N.dl, x ∈ dl) : PostOk { N with dl := dl } b s n d := by
  obtain ⟨k, h1, h2, h3⟩ := h
  exact ⟨k, h1, fun hb => ⟨(h2 hb).1, hd _ (h2 hb).2.1, (h2 hb).2.2⟩, h3⟩
theorem CameIs.grows {num K2 r last K last' K' : Nat} {rs dl rs' dl' : List Nat} {b : Bool} (h : CameIs num K2 r last K rs dl b last' K' rs' dl') : (∀ x ∈ dl, x ∈ dl') ∧ rs'.length ≤ rs.length + 1 ∧ (b = true → num ∈ dl') := by
  have e : ∀ l : List Nat, ((if last < num then [] else l) ++ [r]).length ≤ l.length + 1 := fun l => by
    by_cases q : last < num
    · rw [if_pos q]; simp
    · rw [if_neg q]; simp
  cases h with
  | had hm => exact ⟨fun x hx => hx, by omega, fun _ => hm⟩
  | past => exact ⟨fun x hx => hx, by omega, by simp⟩
  | some_ => exact ⟨fun x hx => hx, e _, by simp⟩
  | all => exact ⟨fun x hx => List.mem_append_left _ hx, e _, fun _ => by simp⟩

theorem InvL.came {N : NetA} (h : InvL N) {n : Nat} {o : Thing} (ho : N.os[n]? = some o) {b : Bool} {K2 r last' K' : Nat} {rs' dl' : List Nat} (hc : CameIs (n + 1) K2 r N.last N.K N.rs N.dl b last' K' rs' dl') {V2 : RV} (hg : GetIs V2 N.blk N.ds last' K' rs' dl')
    (hr : (dl' = N.dl ∧ V2.ready = N.V.ready) ∨ (dl' = N.dl ++ [n + 1] ∧ V2.ready = N.V.ready ++ [(o.data, n + 1)])) (F : List Nat) (gv : Value) (gs : List Nat) (dv : Value) (wsl : Option Addr) (wn wcap : Nat) (wx : List Value) (hsl : Option Addr) (hcap : Nat) (hs : List Value)
    (hp : ∀ i, i < wn → ∃ b s n d, wx[i * 4]? = some (.bool b) ∧ wx[i * 4 + 1]? = some (.string s) ∧ wx[i * 4 + 2]? = some (.int .i64 n) ∧ wx[i * 4 + 3]? = some (.int .i64 d) ∧ PostOk { N with dl := dl' } b s n d) :
    InvL { N with F := F, V := V2, last := last', K := K', gv := gv, gs := gs, rs := rs', dv := dv, dl := dl', wsl := wsl, wn := wn, wcap := wcap, wx := wx, hsl := hsl, hm := N.hm + 4, hcap := hcap, hs := hs } := by
  obtain ⟨g1, g2, _⟩ := hc.grows
  have htk := h.tk
  obtain ⟨r1, r2⟩ := h.ready
  refine ⟨h.sblk, h.sbud, h.shape, hg, h.odat, ?_, ?_, hp, h.blk1, h.blk2, h.bud1, h.bud2, ?_, ?_⟩
  · show N.taken ≤ dl'.length
    rcases hr with ⟨e, _⟩ | ⟨e, _⟩ <;> rw [e]
    · exact htk
    · simp; omega
  · show V2.ready.length + N.taken = dl'.length ∧ ∀ (i m : Nat) (o' : Thing), dl'[N.taken + i]? = some (m + 1) → N.os[m]? = some o' → V2.ready[i]? = some (o'.data, m + 1)
    rcases hr with ⟨e1, e2⟩ | ⟨e1, e2⟩ <;> rw [e1, e2]
    · exact ⟨r1, r2⟩
    · refine ⟨by simp; omega, fun i m o' hd hm => ?_⟩
      by_cases hi : N.taken + i < N.dl.length
      · rw [List.getElem?_append_left hi] at hd
        rw [List.getElem?_append_left (by omega)]
        exact r2 i m o' hd hm
      · have hle : N.taken + i = N.dl.length := by
          have := (List.getElem?_eq_some_iff.1 hd).1
          simp at this
          omega
        rw [hle, List.getElem?_append_right (Nat.le_refl _)] at hd
        simp at hd
        obtain rfl : n = m := by omega
        rw [ho] at hm
        obtain rfl : o = o' := by simpa using hm
        rw [show i = N.V.ready.length by omega, List.getElem?_append_right (Nat.le_refl _)]
        simp
  · obtain ⟨q, hq⟩ := h.four
    exact ⟨q + 1, by show N.hm + 4 = _; omega⟩
  · have := h.nrs
    show 4 * rs'.length ≤ N.hm + 4
    omega
theorem posts_more {N : NetA} (h : InvL N) {dl : List Nat} (hd : ∀ x ∈ N.dl, x ∈ dl) : ∀ i, i < N.wn → ∃ b s n d, N.wx[i * 4]? = some (.bool b) ∧ N.wx[i * 4 + 1]? = some (.string s) ∧ N.wx[i * 4 + 2]? = some (.int .i64 n) ∧ N.wx[i * 4 + 3]? = some (.int .i64 d) ∧ PostOk { N with dl := dl } b s n d := fun i hi => by
  obtain ⟨b, s, n, d, p1, p2, p3, p4, p5⟩ := h.posts i hi
  exact ⟨b, s, n, d, p1, p2, p3, p4, p5.more hd⟩
theorem posts_push {wx : List Value} {wn : Nat} {P : Bool → ByteArray → Int → Int → Prop} (hl : wx.length = wn * 4) (h : ∀ i, i < wn → ∃ b s n d, wx[i * 4]? = some (.bool b) ∧ wx[i * 4 + 1]? = some (.string s) ∧ wx[i * 4 + 2]? = some (.int .i64 n) ∧ wx[i * 4 + 3]? = some (.int .i64 d) ∧ P b s n d) (b : Bool) (s : ByteArray) (n d : Int) (hp : P b s n d) :
    ∀ i, i < wn + 1 → ∃ b' s' n' d', (wx ++ [.bool b, .string s, .int .i64 n, .int .i64 d])[i * 4]? = some (.bool b') ∧ (wx ++ [.bool b, .string s, .int .i64 n, .int .i64 d])[i * 4 + 1]? = some (.string s') ∧
      (wx ++ [.bool b, .string s, .int .i64 n, .int .i64 d])[i * 4 + 2]? = some (.int .i64 n') ∧ (wx ++ [.bool b, .string s, .int .i64 n, .int .i64 d])[i * 4 + 3]? = some (.int .i64 d') ∧ P b' s' n' d' := by
  intro i hi
  by_cases hlt : i < wn
  · obtain ⟨b', s', n', d', h0, h1, h2, h3, h4⟩ := h i hlt
    exact ⟨b', s', n', d', by rw [List.getElem?_append_left (by omega)]; exact h0, by rw [List.getElem?_append_left (by omega)]; exact h1, by rw [List.getElem?_append_left (by omega)]; exact h2, by rw [List.getElem?_append_left (by omega)]; exact h3, h4⟩
  · obtain rfl : i = wn := by omega
    refine ⟨b, s, n, d, ?_, ?_, ?_, ?_, hp⟩
    · rw [List.getElem?_append_right (by omega), show i * 4 - wx.length = 0 by omega]; rfl
    · rw [List.getElem?_append_right (by omega), show i * 4 + 1 - wx.length = 1 by omega]; rfl
    · rw [List.getElem?_append_right (by omega), show i * 4 + 2 - wx.length = 2 by omega]; rfl
    · rw [List.getElem?_append_right (by omega), show i * 4 + 3 - wx.length = 3 by omega]; rfl

theorem StpM.came {w0 w w' : World} {N0 N : NetA} {num K2 r : Nat} {b : Bool} (s : StpM w0 N0 w N) (hc : CameW w w' N.bn (netF N) 0 num K2 r N.last N.K N.gv N.gs N.rs N.dv N.dl b) :
    ∃ (K' last' : Nat) (gv' : Value) (gs' rs' : List Nat) (dv' : Value) (dl' : List Nat), CameIs num K2 r N.last N.K N.rs N.dl b last' K' rs' dl' ∧ StpM w0 N0 w' { N with last := last', K := K', gv := gv', gs := gs', rs := rs', dv := dv', dl := dl' } := by
  obtain ⟨K', last', gv', gs', rs', dv', dl', c1, c2, c3, c4, c5⟩ := s.m.came hc
  refine ⟨K', last', gv', gs', rs', dv', dl', c1, s.trans ⟨c2, c3, rfl, fun k hk => ?_, fun k hk => ?_⟩⟩
  · rcases List.mem_append.1 hk with q | q
    · rcases c4 k q with q | q
      · exact .inl (List.mem_append_left _ q)
      · exact .inr q
    · exact .inl (List.mem_append_right _ q)
  · rcases List.mem_append.1 hk with q | q
    · exact .inl (List.mem_append_left _ q)
    · rcases c5 k q with q | q
      · exact .inl (List.mem_append_right _ q)
      · exact .inr q
end Go.Proofs.YtafipndlfkklfaaDoor
