import Derived.Test.YtfbbidaoljfloaaDoorJ37
namespace Go.Proofs.YtfbbidaoljfloaaDoor
open Go.RowKit Go.MuLone

theorem PostOk.more {N : NetA} {b : Bool} {s : ByteArray} {n d : Int} (h : PostOk N b s n d) {dl : List Nat} (hd : ∀ x ∈ N.dl, x ∈ dl) : PostOk { N with dl := dl } b s n d := by
  obtain ⟨k, h1, h2, h3⟩ := h
  exact ⟨k, h1, fun hb => ⟨(h2 hb).1, hd _ (h2 hb).2.1, (h2 hb).2.2⟩, h3⟩
theorem CameIs.grows {num K2 r last K last' K' : Nat} {rs dl rs' dl' : List Nat} {b : Bool} (h : CameIs num K2 r last K rs dl b last' K' rs' dl') : (∀ x ∈ dl, x ∈ dl') ∧ rs'.length ≤ rs.length + 1 ∧ (b = true → num ∈ dl') := by
  have e : ∀ l : List Nat, ((if last < num then [] else l) ++ [r]).length ≤ l.length + 1 := fun l => by
    by_cases q : last < num
    · rw [if_pos q]; simp
    · rw [if_neg q]; simp
  cases h with
  | had hm => exact ⟨fun x hx => hx, by omega, fun _ => hm⟩
  | past => exact ⟨fun x hx => hx, by omega, by simp⟩
  | some_ => exact ⟨fun x hx => hx, e _, by simp⟩
  | all => exact ⟨fun x hx => List.mem_append_left _ hx, e _, fun _ => by simp⟩

theorem InvL.came {N : NetA} (h : InvL N) {n : Nat} {o : Thing} (ho : N.os[n]? = some o) {b : Bool} {K2 r last' K' : Nat} {rs' dl' : List Nat} (hc : CameIs (n + 1) K2 r N.last N.K N.rs N.dl b last' K' rs' dl') {V2 : RV} (hg : GetIs V2 N.blk N.ds last' K' rs' dl')
    (hr : (dl' = N.dl ∧ V2.ready = N.V.ready) ∨ (dl' = N.dl ++ [n + 1] ∧ V2.ready = N.V.ready ++ [(o.data, n + 1)])) (F : List Nat) (gv : Value) (gs : List Nat) (dv : Value) (wsl : Option Addr) (wn wcap : Nat) (wx : List Value) (hsl : Option Addr) (hcap : Nat) (hs : List Value)
    (hp : ∀ i, i < wn → ∃ b s n d, wx[i * 4]? = some (.bool b) ∧ wx[i * 4 + 1]? = some (.string s) ∧ wx[i * 4 + 2]? = some (.int .i64 n) ∧ wx[i * 4 + 3]? = some (.int .i64 d) ∧ PostOk { N with dl := dl' } b s n d) :
    InvL { N with F := F, V := V2, last := last', K := K', gv := gv, gs := gs, rs := rs', dv := dv, dl := dl', wsl := wsl, wn := wn, wcap := wcap, wx := wx, hsl := hsl, hm := N.hm + 4, hcap := hcap, hs := hs } := by
  obtain ⟨g1, g2, _⟩ := hc.grows
  have htk := h.tk
  obtain ⟨r1, r2⟩ := h.ready
  refine ⟨h.sblk, h.sbud, h.shape, hg, h.odat, ?_, ?_, hp, h.blk1, h.blk2, h.bud1, h.bud2, ?_, ?_⟩
  · show N.taken ≤ dl'.length
    rcases hr with ⟨e, _⟩ | ⟨e, _⟩ <;> rw [e]
    · exact htk
    · simp; omega
  · show V2.ready.length + N.taken = dl'.length ∧ ∀ (i m : Nat) (o' : Thing), dl'[N.taken + i]? = some (m + 1) → N.os[m]? = some o' → V2.ready[i]? = some (o'.data, m + 1)
    rcases hr with ⟨e1, e2⟩ | ⟨e1, e2⟩ <;> rw [e1, e2]
    · exact ⟨r1, r2⟩
    · refine ⟨by simp; omega, fun i m o' hd hm => ?_⟩
      by_cases hi : N.taken + i < N.dl.length
      · rw [List.getElem?_append_left hi] at hd
        rw [List.getElem?_append_left (by omega)]
        exact r2 i m o' hd hm
      · have hle : N.taken + i = N.dl.length := by
          have := (List.getElem?_eq_some_iff.1 hd).1
          simp at this
          omega
        rw [hle, List.getElem?_append_right (Nat.le_refl _)] at hd
        simp at hd
        obtain rfl : n = m := by omega
        rw [ho] at hm
        obtain rfl : o = o' := by simpa using hm
        rw [show i = N.V.ready.length by omega, List.getElem?_append_right (Nat.le_refl _)]
        simp
  · obtain ⟨q, hq⟩ := h.four
    exact ⟨q + 1, by show N.hm + 4 = _; omega⟩
  · have := h.nrs
    show 4 * rs'.length ≤ N.hm + 4
    omega
theorem posts_more {N : NetA} (h : InvL N) {dl : List Nat} (hd : ∀ x ∈ N.dl, x ∈ dl) : ∀ i, i < N.wn → ∃ b s n d, N.wx[i * 4]? = some (.bool b) ∧ N.wx[i * 4 + 1]? = some (.string s) ∧ N.wx[i * 4 + 2]? = some (.int .i64 n) ∧ N.wx[i * 4 + 3]? = some (.int .i64 d) ∧ PostOk { N with dl := dl } b s n d := fun i hi => by
  obtain ⟨b, s, n, d, p1, p2, p3, p4, p5⟩ := h.posts i hi
  exact ⟨b, s, n, d, p1, p2, p3, p4, p5.more hd⟩
theorem posts_push {wx : List Value} {wn : Nat} {P : Bool → ByteArray → Int → Int → Prop} (hl : wx.length = wn * 4) (h : ∀ i, i < wn → ∃ b s n d, wx[i * 4]? = some (.bool b) ∧ wx[i * 4 + 1]? = some (.string s) ∧ wx[i * 4 + 2]? = some (.int .i64 n) ∧ wx[i * 4 + 3]? = some (.int .i64 d) ∧ P b s n d) (b : Bool) (s : ByteArray) (n d : Int) (hp : P b s n d) :
    ∀ i, i < wn + 1 → ∃ b' s' n' d', (wx ++ [.bool b, .string s, .int .i64 n, .int .i64 d])[i * 4]? = some (.bool b') ∧ (wx ++ [.bool b, .string s, .int .i64 n, .int .i64 d])[i * 4 + 1]? = some (.string s') ∧
      (wx ++ [.bool b, .string s, .int .i64 n, .int .i64 d])[i * 4 + 2]? = some (.int .i64 n') ∧ (wx ++ [.bool b, .string s, .int .i64 n, .int .i64 d])[i * 4 + 3]? = some (.int .i64 d') ∧ P b' s' n' d' := by
  intro i hi
  by_cases hlt : i < wn
  · obtain ⟨b', s', n', d', h0, h1, h2, h3, h4⟩ := h i hlt
    exact ⟨b', s', n', d', by rw [List.getElem?_append_left (by omega)]; exact h0, by rw [List.getElem?_append_left (by omega)]; exact h1, by rw [List.getElem?_append_left (by omega)]; exact h2, by rw [List.getElem?_append_left (by omega)]; exact h3, h4⟩
  · obtain rfl : i = wn := by omega
    refine ⟨b, s, n, d, ?_, ?_, ?_, ?_, hp⟩
    · rw [List.getElem?_append_right (by omega), show i * 4 - wx.length = 0 by omega]; rfl
    · rw [List.getElem?_append_right (by omega), show i * 4 + 1 - wx.length = 1 by omega]; rfl
    · rw [List.getElem?_append_right (by omega), show i * 4 + 2 - wx.length = 2 by omega]; rfl
    · rw [List.getElem?_append_right (by omega), show i * 4 + 3 - wx.length = 3 by omega]; rfl

theorem StpM.came {w0 w w' : World} {N0 N : NetA} {num K2 r : Nat} {b : Bool} (s : StpM w0 N0 w N) (hc : CameW w w' N.bn (netF N) 0 num K2 r N.last N.K N.gv N.gs N.rs N.dv N.dl b) :
    ∃ (K' last' : Nat) (gv' : Value) (gs' rs' : List Nat) (dv' : Value) (dl' : List Nat), CameIs num K2 r N.last N.K N.rs N.dl b last' K' rs' dl' ∧ StpM w0 N0 w' { N with last := last', K := K', gv := gv', gs := gs', rs := rs', dv := dv', dl := dl' } := by
  obtain ⟨K', last', gv', gs', rs', dv', dl', c1, c2, c3, c4, c5⟩ := s.m.came hc
  refine ⟨K', last', gv', gs', rs', dv', dl', c1, s.trans ⟨c2, c3, rfl, fun k hk => ?_, fun k hk => ?_⟩⟩
  · rcases List.mem_append.1 hk with q | q
    · rcases c4 k q with q | q
      · exact .inl (List.mem_append_left _ q)
      · exact .inr q
    · exact .inl (List.mem_append_right _ q)
  · rcases List.mem_append.1 hk with q | q
    · exact .inl (List.mem_append_left _ q)
    · rcases c5 k q with q | q
      · exact .inl (List.mem_append_right _ q)
      · exact .inr q
end Go.Proofs.YtfbbidaoljfloaaDoor


namespace Go.Proofs.YtfbbidaoljfloaaDoor
open Go.RowKit Go.MuLone

set_option maxRecDepth 100000 in
set_option maxHeartbeats 2000000 in
theorem arrive_down (N : NetA) (s : ByteArray) (n d : Int) (w : World) (h : InvA w N) (hp : PostOk N false s n d) (hbig : N.hm + 4 ≤ 8796093022208) (hwn : N.wn ≤ 2199023255552) :
    Calls Tryd.prog 92 #[.pointer (some ⟨N.bn, 0, none⟩), .agg #[.bool false, .string s, .int .i64 n, .int .i64 d]] w fun e w' => e = .returned (.bool true) ∧ ∃ N', StpA w N w' N' := by
  obtain ⟨k, rfl, _, hp2⟩ := hp
  obtain ⟨i, o, rfl, hi, ho, hs⟩ := hp2 rfl
  have HI : Hid _ := h
  have hkl := (List.getElem?_eq_some_iff.1 ho).1
  have hl5 := h.l.shape.n500
  have T0 : Turn [] w (w.alloc (.cells #[.bool false, .string s, .int .i64 ((k : Int) + 1), .int .i64 (i : Int)] 156)) := (Turn.refl [] w).alloc _
  have hq0 := heap_alloc_new w (.cells #[.bool false, .string s, .int .i64 ((k : Int) + 1), .int .i64 (i : Int)] 156)
  have hqF : w.heap.size ∉ N.F := fun hm => by have := h.m.net.lt _ hm; omega
  have hql : ∀ x ∈ N.lows, x ≠ w.heap.size := fun x hx => by have := h.m.lt x hx; omega
  have HT0 : Hid _ := T0
  have HS0 : Hid _ := StpM.of_turn h.m T0
  have HQ0 : Hid _ := Blk.mk hq0 hqF
  have HO : Hid _ := ho
  have HSS : Hid _ := hs
  have e5 : (k : Int) + 1 - 1 = (k : Int) := by omega
  have e0 : IntKind.i64.wrap (k : Int) = (k : Int) := by simp [IntKind.wrap, IntKind.signed, IntKind.bits]; omega
  have e1 : IntKind.i64.wrap ((k : Int) + 1 - 1) = (k : Int) := by rw [e5]; exact e0
  have e2 : (0 : Int) ≤ (k : Int) := by omega
  have e3 : (k : Int) < (N.os.length : Int) := by omega
  clear h T0 hq0 ho hs hp2
  go_enter Tryd.func92, Tryd.ntmps92
  go_wp2_with fail
  generalize hQ : w.heap.size = Q at *
  generalize w.alloc (.cells #[.bool false, .string s, .int .i64 ((k : Int) + 1), .int .i64 (i : Int)] 156) = w0 at *
  obtain ⟨gr, o', hrs, ho', g0, g1, g2, g3, _⟩ := HS0.out.m.rth.at hkl
  obtain rfl : o = o' := by rw [HO.out] at ho'; simpa using ho'
  have c4 : w0.cell? ⟨N.bn, 4, none⟩ = some (.slice (some ⟨gr, 0, none⟩) N.os.length N.rcap) := by rw [cell_of_row _ _ _ _ _ _ HS0.out.m.hold.net, ← hrs]; rfl
  have y2 : w0.cell? ⟨Q, 2, none⟩ = some (.int .i64 ((k : Int) + 1)) := (HQ0.out.cell 2).trans rfl
  have hglt : gr < w0.heap.size := World.block_lt_of_cell? _ _ g0
  have hnlt : N.bn < w0.heap.size := World.block_lt_of_cell? _ _ c4
  have hxlt : Q < w0.heap.size := World.block_lt_of_cell? _ _ y2
  go_region_held3 (fun u => u.cell? ⟨N.bn, 4, none⟩ = some (.slice (some ⟨gr, 0, none⟩) N.os.length N.rcap) ∧ u.cell? ⟨Q, 2, none⟩ = some (.int .i64 ((k : Int) + 1)) ∧
      u.cell? ⟨gr, k * 4, none⟩ = some (.string o.data) ∧ u.cell? ⟨gr, k * 4 + 1, none⟩ = some (.int .u64 o.nonce) ∧ u.cell? ⟨gr, k * 4 + 2, none⟩ = some (.int .i64 o.st) ∧ u.cell? ⟨gr, k * 4 + 3, none⟩ = some (.int .i64 o.sent))
      (first | exact ⟨c4, y2, g0, g1, g2, g3⟩ | exact ⟨cellNew c4 _, cellNew y2 _, cellNew g0 _, cellNew g1 _, cellNew g2 _, cellNew g3 _⟩)
      (fail)
  · have X1 : Turn [] w (w0.alloc (.cells #[.string o.data, .int .u64 o.nonce, .int .i64 o.st, .int .i64 o.sent] 158)).drew := (HT0.out.alloc _).drew
    have X2 := HQ0.out.turn (((Turn.refl [] w0).alloc (.cells #[.string o.data, .int .u64 o.nonce, .int .i64 o.st, .int .i64 o.sent] 158)).drew) (by simp)
    have X3 : Blk (w0.alloc (.cells #[.string o.data, .int .u64 o.nonce, .int .i64 o.st, .int .i64 o.sent] 158)).drew N.F w0.heap.size (.cells #[.string o.data, .int .u64 o.nonce, .int .i64 o.st, .int .i64 o.sent] 158 (0, 0)) := ⟨heap_alloc_new w0 _, fun hm => by have := HS0.out.m.net.lt _ hm; omega⟩
    have hPl : ∀ x ∈ N.lows, x ≠ w0.heap.size := fun x hx => by have := HS0.out.m.lt x hx; omega
    rename_i hHeld
    clear hHeld c4 y2 g0 g1 g2 g3 hglt hnlt hxlt HS0 HQ0 HT0
    generalize (w0.alloc (.cells #[.string o.data, .int .u64 o.nonce, .int .i64 o.st, .int .i64 o.sent] 158)).drew = w1 at *
    generalize w0.heap.size = P at *
    have hm1 : InvM w1 N := HI.out.m.turn X1
    have HT1 : Hid _ := X1
    have OK : ∀ (v : World) (M : NetA), StpM w1 N v M → M.br = N.br → v.cell? ⟨N.bn, 1, none⟩ = some (.pointer (some ⟨N.br, 0, none⟩)) ∧ v.cell? ⟨Q, 1, none⟩ = some (.string s) ∧ v.cell? ⟨Q, 2, none⟩ = some (.int .i64 ((k : Int) + 1)) ∧ v.cell? ⟨Q, 3, none⟩ = some (.int .i64 (i : Int)) ∧ v.cell? ⟨P, 1, none⟩ = some (.int .u64 o.nonce) := fun v M st hbr => by
      have q1 := st.m.cells.2
      rw [st.bn, hbr] at q1
      have zq := X2.turn st.turn (fun hm => by
        rcases List.mem_append.1 hm with q | q
        · exact hql Q q rfl
        · exact X2.out q)
      have zp := X3.turn st.turn (fun hm => by
        rcases List.mem_append.1 hm with q | q
        · exact hPl P q rfl
        · exact X3.out q)
      exact ⟨q1, (zq.cell 1).trans rfl, (zq.cell 2).trans rfl, (zq.cell 3).trans rfl, (zp.cell 1).trans rfl⟩
    have HOK : Hid _ := OK
    have x0 : w1.cell? ⟨P, 0, none⟩ = some (.string o.data) := (X3.cell 0).trans rfl
    have c2 : w1.cell? ⟨N.bn, 2, none⟩ = some (.int .i64 N.blk) := by rw [cell_of_row _ _ _ _ _ _ hm1.hold.net]; rfl
    have HM1 : Hid _ := hm1
    clear X1 X2 X3 OK hm1
    have HB1 := HI.out.l.blk1
    have HB2 := HI.out.l.blk2
    have hod := HI.out.l.odat k o HO.out
    have hK1 := blocksOf_pos o.data.size N.blk
    have hK2 := blocksOf_le o.data.size N.blk HB1 hod
    have hr0 := rowOf_ne o.nonce (blocksOf o.data.size N.blk) i hK1
    have hr1 := Dz.rowOf_lt o.nonce (blocksOf o.data.size N.blk) i hK1
    have hdat : N.ds[k]? = some o.data := by simp [NetA.ds, HO.out]
    have hKe : k + 1 = N.last → N.K = blocksOf o.data.size N.blk := fun e => by
      obtain ⟨d, hd, hK, _⟩ := HI.out.l.get.dat k e.symm
      rw [hdat] at hd
      obtain rfl : o.data = d := by simpa using hd
      exact hK
    have HRB : Hid (Calls Tryd.prog 109 #[.int .i64 (o.data.size : Nat), .int .i64 N.blk] w1.drew fun e w' => e = .returned (.int .i64 (blocksOf o.data.size N.blk)) ∧ w' = w1.drew) := refBlocks_any o.data.size N.blk w1.drew HB1 HB2 hod
    have HV : Hid (∀ (b : Bool) (last' K' : Nat) (rs' dl' : List Nat), CameIs (k + 1) (blocksOf o.data.size N.blk) (Dz.rowOf o.nonce (blocksOf o.data.size N.blk) i) N.last N.K N.rs N.dl b last' K' rs' dl' → ∃ V2, N.V.handle (bytesOf s) = (V2, if b then some (doneB (k + 1) N.blk) else none) ∧ GetIs V2 N.blk N.ds last' K' rs' dl' ∧ ((dl' = N.dl ∧ V2.ready = N.V.ready) ∨ (dl' = N.dl ++ [k + 1] ∧ V2.ready = N.V.ready ++ [(o.data, k + 1)]))) := fun b last' K' rs' dl' hc => by
      rw [HSS.out]
      exact HI.out.l.get.came HI.out.m.net.rok hdat (by simp [NetA.ds]; omega) hod hr0 hr1 hc
    have HCM : Hid (∀ v, StpM w1 N v N → Calls Tryd.prog 110 #[.pointer (some ⟨N.bn, 5, none⟩), .int .i64 ((k : Int) + 1), .int .u64 o.nonce, .int .i64 (blocksOf o.data.size N.blk), .int .i64 (i : Int)] v fun e w' => ∃ b, e = .returned (.bool b) ∧ CameW v w' N.bn (netF N) 0 (k + 1) (blocksOf o.data.size N.blk) (Dz.rowOf o.nonce (blocksOf o.data.size N.blk) i) N.last N.K N.gv N.gs N.rs N.dv N.dl b) := fun v st =>
      came_any N.bn (k + 1) (blocksOf o.data.size N.blk) i o.nonce (netF N) 0 N.K N.last N.gv N.gs N.rs N.dv N.dl v st.m.getAt (by omega) (by have := HI.out.l.get.len.1; have := HI.out.l.get.le; simp [NetA.ds] at this; omega) (by have := HI.out.l.nrs; omega) hKe hK1 hK2 hi
    have hsz : s.size ≤ 4611686018427387904 := by
      have := congrArg List.length HSS.out
      rw [fText, sumText_len, sumRow_len] at this
      have e : (bytesOf s).length = s.size := by simp [bytesOf]
      omega
    generalize blocksOf o.data.size N.blk = KK at *
    go_wp2_with fail
    go_region_held3 (fun u => u.cell? ⟨P, 0, none⟩ = some (.string o.data) ∧ u.cell? ⟨N.bn, 2, none⟩ = some (.int .i64 N.blk))
      (first | exact ⟨x0, c2⟩)
      (first | (go_at_call 109; refine HRB.out.mono ?_; rintro e w' ⟨rfl, rfl⟩))
    have HS2 : Hid _ := HM1.out.stp.then ((Turn.refl [] w1).drew)
    clear x0 c2 HRB
    generalize w1.drew = w2 at *
    obtain ⟨z1, z2, z3, z4, z5⟩ := HOK.out _ _ HS2.out rfl
    go_wp2_with fail
    go_region_held3 (fun u => u.cell? ⟨Q, 2, none⟩ = some (.int .i64 ((k : Int) + 1)) ∧ u.cell? ⟨Q, 3, none⟩ = some (.int .i64 (i : Int)) ∧ u.cell? ⟨P, 1, none⟩ = some (.int .u64 o.nonce))
      (first | exact ⟨z3, z4, z5⟩ | exact ⟨t3, t4, t5⟩)
      (first | (go_at_call 110; refine (HCM.out _ (HS2.out.then ((Turn.refl [] _).drew))).mono ?_; rintro e w3 ⟨b, rfl, hcw⟩; obtain ⟨K', last', gv', gs', rs', dv', dl', hci, hs3⟩ := (HS2.out.then ((Turn.refl [] _).drew)).came hcw; obtain ⟨t1, t2, t3, t4, t5⟩ := HOK.out _ _ hs3 rfl))
    obtain ⟨V2, hh, hg, hrd⟩ := HV.out _ _ _ _ _ hci
    have HC : Hid _ := hci
    have HS3 : Hid _ := hs3
    have hgr := hci.grows
    have HG : Hid _ := hg
    have HRD : Hid _ := hrd
    have h4 := HI.out.l.four
    clear hcw z1 z2 z3 z4 z5 t3 t4 t5 HV HCM hci hg hrd hs3
    rename_i hHeld
    clear hHeld
    cases b
    · have HH : Hid (∀ v F, Net v N.bs N.br F N.S N.V → Calls Tryd.prog 20 #[.pointer (some ⟨N.br, 0, none⟩), .string s] v fun e w' => e = .returned (.slice none 0 0) ∧ ∃ F', NAft v w' N.bs N.br F F' N.S V2) := fun v F hv => by
        refine (nHandle s hv hsz).mono ?_
        rintro e w' ⟨F', ha, hans⟩
        rw [hh] at ha hans
        exact ⟨hans.none_ rfl, F', ha⟩
      have HPM : Hid _ := posts_more HI.out.l hgr.1
      clear hh hgr
      have t3 := (HOK.out _ _ HS3.out rfl).2.2.1
      go_wp2_with fail
      go_region_held3 (fun u => u.cell? ⟨N.bn, 1, none⟩ = some (.pointer (some ⟨N.br, 0, none⟩)) ∧ u.cell? ⟨Q, 1, none⟩ = some (.string s) ∧ u.cell? ⟨Q, 2, none⟩ = some (.int .i64 ((k : Int) + 1)))
        (first | exact ⟨t1, t2, t3⟩ | exact ⟨u1, u2, u3⟩ | exact ⟨v1, v2, v3⟩)
        (first
          | (go_at_call 20; refine (HH.out _ _ HS3.out.m.net.drew).mono ?_; rintro e w4 ⟨rfl, F4, ha⟩; have hs4 := HS3.out.ends (ha.pre ((Turn.refl [] _).drew)); obtain ⟨u1, u2, u3, _, _⟩ := HOK.out _ _ hs4 rfl)
          | (go_at_call 62; refine (sentA_none true ((k : Int) + 1) 0 hs4 h4 hbig).mono ?_; rintro e w5 ⟨rfl, hsl, hcap, va, vb, vc, hs5⟩; obtain ⟨v1, v2, v3, _, _⟩ := HOK.out _ _ hs5 rfl))
      have HS5 : Hid _ := (StpM.of_turn HI.out.m HT1.out).trans hs5
      clear hs5 hs4 ha u1 u2 u3 v1 v2 v3 t1 t2 t3 HS3
      go_wp2_with fail
      go_ret
      exact ⟨rfl, _, HS5.out.to (HI.out.l.came HO.out HC.out HG.out HRD.out F4 gv' gs' dv' N.wsl N.wn N.wcap N.wx hsl hcap _ HPM.out) (Nat.le_refl _) (by show N.wn ≤ _; omega)⟩
    · have HH : Hid (∀ v F, Net v N.bs N.br F N.S N.V → Calls Tryd.prog 20 #[.pointer (some ⟨N.br, 0, none⟩), .string s] v fun e w' => ∃ G, e = .returned (.slice (some ⟨G, 0, none⟩) 1 1) ∧ w'.heap[G]? = some (.cells #[.string (strOf (doneB (k + 1) N.blk))] 9 (0, 0)) ∧ v.heap.size ≤ G ∧ ∃ F', G ∉ F' ∧ NAft v w' N.bs N.br F F' N.S V2) := fun v F hv => by
        refine (nHandle s hv hsz).mono ?_
        rintro e w' ⟨F', ha, hans⟩
        rw [hh] at ha hans
        obtain ⟨G, q1, q2, q3, q4⟩ := hans.some_ _ rfl
        exact ⟨G, q1, q2, q3, F', q4, ha⟩
      have HPM : Hid _ := posts_push HI.out.m.way.owns.1 (posts_more HI.out.l hgr.1) true (strOf (doneB (k + 1) N.blk)) ((k : Int) + 1) 0 ⟨k, rfl, fun _ => ⟨by omega, hgr.2.2 rfl, bytesOf_strOf _ (doneB_lt _ _)⟩, fun e => by simp at e⟩
      have hds : (strOf (doneB (k + 1) N.blk)).size = 8 := by
        have := congrArg List.length (bytesOf_strOf _ (doneB_lt (k + 1) N.blk))
        rw [doneB_len] at this
        simpa [bytesOf] using this
      have hw1 : 0 < w1.heap.size := HM1.out.net.pos
      have hz : w1.heap.size ≤ w3.heap.size := HS3.out.lt
      have HRO : Hid (∀ G, w3.heap.size ≤ G → G ∉ N.hs.filterMap Value.ownBlock) := fun G hG hm => by
        have := HS3.out.m.ro_lt G (List.mem_append_left _ hm)
        omega
      clear hh hgr
      have t3 := (HOK.out _ _ HS3.out rfl).2.2.1
      go_wp2_with fail
      go_region_held3 (fun u => u.cell? ⟨N.bn, 1, none⟩ = some (.pointer (some ⟨N.br, 0, none⟩)) ∧ u.cell? ⟨Q, 1, none⟩ = some (.string s) ∧ u.cell? ⟨Q, 2, none⟩ = some (.int .i64 ((k : Int) + 1)))
        (first | exact ⟨t1, t2, t3⟩ | exact ⟨u1, u2, u3⟩ | exact ⟨v1, v2, v3⟩)
        (first
          | (go_at_call 20; refine (HH.out _ _ HS3.out.m.net.drew).mono ?_; rintro e w4 ⟨G, rfl, hG1, hG2, F4, hG3, ha⟩; have hs4 := HS3.out.ends (ha.pre ((Turn.refl [] _).drew)); obtain ⟨u1, u2, u3, _, _⟩ := HOK.out _ _ hs4 rfl)
          | (go_at_call 62; refine (sentA_one true ((k : Int) + 1) 0 G (strOf (doneB (k + 1) N.blk)) hs4 h4 hbig hwn hG1 (by omega) (by omega) (Nat.le_trans hz hG2) hG3 (HRO.out G hG2) hw1).mono ?_; rintro e w5 ⟨rfl, wsl, wcap, hsl, hcap, va, vb, vc, hs5⟩; obtain ⟨v1, v2, v3, _, _⟩ := HOK.out _ _ hs5 rfl))
      have HS5 : Hid _ := (StpM.of_turn HI.out.m HT1.out).trans hs5
      clear hs5 hs4 ha u1 u2 u3 v1 v2 v3 t1 t2 t3 HS3
      go_wp2_with fail
      go_ret
      exact ⟨rfl, _, HS5.out.to (HI.out.l.came HO.out HC.out HG.out HRD.out F4 gv' gs' dv' wsl (N.wn + 1) wcap _ hsl hcap _ HPM.out) (Nat.le_refl _) (Nat.le_refl _)⟩
end Go.Proofs.YtfbbidaoljfloaaDoor
