import Derived.Test.YtfbbidaoljfloaaDoorX4
namespace Go.Proofs.YtfbbidaoljfloaaDoor
open Go.RowKit Go.MuLone

theorem HeldAt.drewN {w : World} {bs : Nat} {blk bud : Int} {pv : Value} {en : Int} (h : HeldAt w bs blk bud pv en) (m : Nat) : HeldAt (w.drewN m) bs blk bud pv en := h

set_option maxHeartbeats 400000 in
theorem tick_none (bs : Nat) (blk bud : Int) (sl : Option Addr) (n cap : Nat) (w : World) (hs : SenderAt w bs blk bud (.slice sl n cap) n) :
    Calls Tryd.prog 18 #[.pointer (some ⟨bs, 0, none⟩)] w fun e w' => e = .returned (.slice none 0 0) ∧ Turn [bs] w w' ∧ SenderAt w' bs blk bud (.slice sl n cap) n := by
  obtain ⟨s0, s2, s3, s4, s5, sf, slt⟩ := hs.cellsAt
  have HS : Hid (SenderAt w bs blk bud (.slice sl n cap) n) := hs
  clear hs
  go_enter_defers Tryd.func18, Tryd.ntmps18
  go_wp2_with fail
  refine (lock_free muLib ⟨bs, 0, none⟩ _ s0 (sf _)).mono ?_
  rintro e w1 ⟨rfl, rfl⟩
  go_wp2_with fail
  go_quiet (fail)
  go_wp2
  refine leaves_cons (f := 40) (args := #[.pointer (some ⟨bs, 0, none⟩)]) (by simp) (by simp [go_sem]) ?_
  refine (unlock_deferred muLib ⟨bs, 0, none⟩ .returning _ ?_ ?_).mono ?_
  · exact cellSame (v := .int .i32 1) s0
  · simp [sf]
  rintro e u' w'' ⟨rfl, rfl, rfl⟩
  refine ⟨_, results_tmp rfl _ _ _, rfl, ?_, ?_⟩
  · exact (((Turn.refl [bs] w).setCell (.inl (by simp)) _).drewN _).setCell (.inl (by simp)) _
  · exact HeldAt.free (w := World.drewN _ _) HS.out.held

set_option maxHeartbeats 800000 in
theorem tick_fail (bs : Nat) (blk bud : Int) (sl : Option Addr) (n cap k : Nat) (l : List Thing) (o : Thing) (w : World) (hs : SenderAt w bs blk bud (.slice sl n cap) k) (h : Things w 110 sl n cap l) (hne : (Value.slice sl n cap).ownBlock ≠ some bs)
    (hn : n ≤ 500) (hk : k < n) (ho : l[k]? = some o) (hb : o.sent = bud) :
    Calls Tryd.prog 18 #[.pointer (some ⟨bs, 0, none⟩)] w fun e w' => e = .returned (.slice none 0 0) ∧ Turn (bs :: (Value.slice sl n cap).ownBlock.toList) w w' ∧ SenderAt w' bs blk bud (.slice sl n cap) ((k : Int) + 1) ∧
      Things w' 110 sl n cap (l.set k ⟨.empty, 0, 4, o.sent⟩) := by
  obtain ⟨s0, s2, s3, s4, s5, sf, slt⟩ := hs.cellsAt
  obtain ⟨g, o', hsl, ho', c0, c1, c2, c3, hfz⟩ := h.at hk
  obtain rfl : o' = o := by rw [ho] at ho'; simpa using ho'.symm
  have glt : g < w.heap.size := World.block_lt_of_cell? w _ c0
  subst hsl
  have hgb : g ≠ bs := fun e => hne (by rw [e]; rfl)
  have hgb' : bs ≠ g := fun e => hgb e.symm
  have HS : Hid (SenderAt w bs blk bud (.slice (some ⟨g, 0, none⟩) n cap) k) := hs
  have HO : Hid (l[k]? = some o') := ho
  have hq : ((k : Int) == (n : Int)) = false := by simp; omega
  have hq2 : (o'.sent == bud) = true := by simpa using hb
  have hk0 : (0 : Int) ≤ (k : Int) := by omega
  have hk1 : (k : Int) < (n : Int) := by omega
  have hff := hfz (k * 4 + 2)
  clear hs ho ho' hb hfz
  go_enter_defers Tryd.func18, Tryd.ntmps18
  go_wp2_with fail
  refine (lock_free muLib ⟨bs, 0, none⟩ _ s0 (sf _)).mono ?_
  rintro e w1 ⟨rfl, rfl⟩
  go_wp2_with fail
  go_quiet (fail)
  go_wp2_with fail
  go_quiet (fail)
  go_wp2_with fail
  go_quiet (fail)
  go_wp2_with fail
  have hth0 : Things (w.setCell ⟨bs, 0, none⟩ (.int .i32 1)) 110 (some ⟨g, 0, none⟩) n cap l := h.turn ((Turn.refl [bs] w).setCell (.inl (by simp)) _) (fun x hx => by simp [Value.ownBlock] at hx; simp; omega)
  refine (end_any bs blk bud (some ⟨g, 0, none⟩) n cap k (l.set k { o' with st := 2 }) { o' with st := 2 } 4 _ ?_ ?_ hne hn hk (set_get HO.out)).mono ?_
  · exact (HS.out.held.drewN _).turn (((Turn.refl [g] _).setCell (.inl (by simp)) _).drewN _) (by simpa using hgb')
  · exact (Things.set (o' := { o' with st := 2 }) (u := .int .i64 2) (hth0.drewN _) rfl HO.out 2 (by omega) rfl).drewN _
  rintro e w2 ⟨rfl, ht2, hA2, hth2⟩
  rw [List.set_set] at hth2
  obtain ⟨z0, _, _, _, _, zf, _⟩ := hA2.cellsAt
  have HA2 : Hid (HeldAt w2 bs blk bud (.slice (some ⟨g, 0, none⟩) n cap) ((k : Int) + 1)) := hA2
  clear hA2
  go_wp2
  refine leaves_cons (f := 40) (args := #[.pointer (some ⟨bs, 0, none⟩)]) (by simp) (by simp [go_sem]) ?_
  refine (unlock_deferred muLib ⟨bs, 0, none⟩ .returning _ z0 (zf _)).mono ?_
  rintro e u' w'' ⟨rfl, rfl, rfl⟩
  refine ⟨_, results_tmp rfl _ _ _, rfl, ?_, HA2.out.free, ?_⟩
  · exact (((((Turn.refl _ w).setCell (.inl (by simp)) _).drewN _).setCell (.inl (by simp [Value.ownBlock])) _).drewN _ |>.trans ht2 (fun x hx => .inl hx)).setCell (.inl (by simp)) _
  · exact hth2.turn ((Turn.refl [bs] _).setCell (.inl (by simp)) _) (fun x hx => by simp [Value.ownBlock] at hx; simp; omega)

set_option maxHeartbeats 800000 in
theorem tick_send (bs : Nat) (blk : Nat) (bud : Int) (sl : Option Addr) (n cap k : Nat) (l : List Thing) (o : Thing) (w : World) (hs : SenderAt w bs blk bud (.slice sl n cap) k) (h : Things w 110 sl n cap l) (hne : (Value.slice sl n cap).ownBlock ≠ some bs)
    (hn : n ≤ 500) (hk : k < n) (ho : l[k]? = some o) (hs0 : 0 ≤ o.sent) (hb : o.sent < bud) (hb2 : bud ≤ 1000) (h1 : 1 ≤ blk) (h2 : blk ≤ 32) (hd : o.data.size ≤ 32 * blk) :
    Calls Tryd.prog 18 #[.pointer (some ⟨bs, 0, none⟩)] w fun e w' => ∃ G, e = .returned (.slice (some ⟨G, 0, none⟩) 1 1) ∧ w.heap.size ≤ G ∧ w'.heap[G]? = some (.cells #[.string (frameOf (k + 1) blk o)] 9 (0, 0)) ∧
      Turn (bs :: (Value.slice sl n cap).ownBlock.toList) w w' ∧ SenderAt w' bs blk bud (.slice sl n cap) k ∧
      Things w' 110 sl n cap (l.set k { o with st := 2, sent := o.sent + 1 }) := by
  obtain ⟨s0, s2, s3, s4, s5, sf, slt⟩ := hs.cellsAt
  obtain ⟨g, o', hsl, ho', c0, c1, c2, c3, hfz⟩ := h.at hk
  obtain rfl : o' = o := by rw [ho] at ho'; simpa using ho'.symm
  have glt : g < w.heap.size := World.block_lt_of_cell? w _ c0
  subst hsl
  have hgb : g ≠ bs := fun e => hne (by rw [e]; rfl)
  have hgb' : bs ≠ g := fun e => hgb e.symm
  have HS : Hid (SenderAt w bs blk bud (.slice (some ⟨g, 0, none⟩) n cap) k) := hs
  have HO : Hid (l[k]? = some o') := ho
  have hq : ((k : Int) == (n : Int)) = false := by simp; omega
  have hq2 : (o'.sent == bud) = false := by simp; omega
  have hk0 : (0 : Int) ≤ (k : Int) := by omega
  have hk1 : (k : Int) < (n : Int) := by omega
  have hff := hfz (k * 4 + 2)
  clear hs ho ho' hfz
  go_enter_defers Tryd.func18, Tryd.ntmps18
  go_wp2_with fail
  refine (lock_free muLib ⟨bs, 0, none⟩ _ s0 (sf _)).mono ?_
  rintro e w1 ⟨rfl, rfl⟩
  go_wp2_with fail
  go_quiet (fail)
  go_wp2_with fail
  go_quiet (fail)
  go_wp2_with fail
  go_quiet (fail)
  go_wp2_with fail
  have hth0 : Things (w.setCell ⟨bs, 0, none⟩ (.int .i32 1)) 110 (some ⟨g, 0, none⟩) n cap l := h.turn ((Turn.refl [bs] w).setCell (.inl (by simp)) _) (fun x hx => by simp [Value.ownBlock] at hx; simp; omega)
  have hthA := Things.set (o' := { o' with st := 2 }) (u := .int .i64 2) hth0 rfl HO.out 2 (by omega) rfl
  have hAA := HeldAt.turn HS.out.held ((Turn.refl [g] _).setCell (p := ⟨g, k * 4 + 2, none⟩) (.inl (by simp)) (.int .i64 2)) (by simpa using hgb')
  obtain ⟨y0, y2, y3, y4, y5, yf, ylt⟩ := hAA.cellsAt
  obtain ⟨g', o2, hg', ho2, b0, b1, b2, b3, bf⟩ := hthA.at hk
  obtain rfl : g' = g := by simpa using hg'.symm
  obtain rfl : o2 = { o' with st := 2 } := by rw [set_get HO.out] at ho2; simpa using ho2.symm
  refine (nextFrame_any bs g' (k * 4) blk k o' _ ?_ h1 h2 hd hs0 (by omega) (by omega)).mono ?_
  · exact ⟨b0, b1, b3, y2, y5⟩
  rintro e w2 ⟨rfl, hbf⟩
  have hTf := Turn.below (S := []) hbf (Nat.le_refl _)
  have hA2 : HeldAt w2 bs blk bud (.slice (some ⟨g', 0, none⟩) n cap) k := hTf.cells hAA (by simp)
  have hth2 : Things w2 110 (some ⟨g', 0, none⟩) n cap (l.set k { o' with st := 2 }) := ⟨hTf.owns hthA.owns (by simp), hthA.len⟩
  obtain ⟨z0, z2, z3, z4, z5, zf, zlt⟩ := hA2.cellsAt
  obtain ⟨g2, o3, hg2, ho3, d0, d1, d2, d3, df⟩ := hth2.at hk
  obtain rfl : g2 = g' := by simpa using hg2.symm
  obtain rfl : o3 = { o' with st := 2 } := by rw [set_get HO.out] at ho3; simpa using ho3.symm
  have df3 := df (k * 4 + 3)
  have hth3 := Things.set (o' := { o' with st := 2, sent := o'.sent + 1 }) (u := .int .i64 (o'.sent + 1)) hth2 rfl (set_get HO.out) 3 (by omega) rfl
  rw [List.set_set] at hth3
  have hA3 : HeldAt (w2.setCell ⟨g2, k * 4 + 3, none⟩ (.int .i64 (o'.sent + 1))) bs blk bud (.slice (some ⟨g2, 0, none⟩) n cap) k := hA2.turn ((Turn.refl [g2] _).setCell (.inl (by simp)) _) (by simpa using hgb')
  have HA3 : Hid (HeldAt (w2.setCell ⟨g2, k * 4 + 3, none⟩ (.int .i64 (o'.sent + 1))) bs blk bud (.slice (some ⟨g2, 0, none⟩) n cap) k) := hA3
  have HT3 : Hid (Things (w2.setCell ⟨g2, k * 4 + 3, none⟩ (.int .i64 (o'.sent + 1))) 110 (some ⟨g2, 0, none⟩) n cap (l.set k { o' with st := 2, sent := o'.sent + 1 })) := hth3
  have hsz : w.heap.size ≤ w2.heap.size := by have := hTf.size; simpa using this
  have TT : Turn (bs :: (Value.slice (some ⟨g2, 0, none⟩) n cap).ownBlock.toList) w w2 := (((((Turn.refl _ w).setCell (.inl (by simp)) _).drewN _).setCell (.inl (by simp [Value.ownBlock])) _).drewN _).trans hTf (by simp)
  have g2lt : g2 < w2.heap.size := by omega
  clear hA2 hth2 hA3 hth3 hTf ho3 ho2 hg2 hg' df hAA hthA hth0
  go_wp2
  have hA4 := HA3.out.alloc (.cells #[.string (frameOf (k + 1) blk o')] 9)
  obtain ⟨v0, _, _, _, _, vf, _⟩ := hA4.cellsAt
  refine leaves_cons (f := 40) (args := #[.pointer (some ⟨bs, 0, none⟩)]) (by simp) (by simp [go_sem]) ?_
  refine (unlock_deferred muLib ⟨bs, 0, none⟩ .returning _ v0 (vf _)).mono ?_
  rintro e u' w'' ⟨rfl, rfl, rfl⟩
  refine ⟨_, results_tmp rfl _ _ _, w2.heap.size, rfl, hsz, ?_, ?_, hA4.free, ?_⟩
  · rw [heap_setCell_other _ _ _ _ (by simp; omega)]
    have := heap_alloc_new (w2.setCell ⟨g2, k * 4 + 3, none⟩ (.int .i64 (o'.sent + 1))) (.cells #[.string (frameOf (k + 1) blk o')] 9)
    simpa using this
  · exact ((TT.setCell (.inl (by simp [Value.ownBlock])) _).alloc _).setCell (.inl (by simp)) _
  · exact HT3.out.turn (((Turn.refl [bs] _).alloc _).setCell (.inl (by simp)) _) (fun x hx => by simp [Value.ownBlock] at hx; simp; omega)

end Go.Proofs.YtfbbidaoljfloaaDoor
