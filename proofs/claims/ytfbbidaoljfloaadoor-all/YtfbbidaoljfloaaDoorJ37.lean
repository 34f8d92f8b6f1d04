import Derived.Test.YtfbbidaoljfloaaDoorJ36
namespace Go.Proofs.YtfbbidaoljfloaaDoor
open Go.RowKit Go.MuLone

set_option maxRecDepth 100000 in
set_option maxHeartbeats 2000000 in
theorem arrive_down (N : NetA) (s : ByteArray) (n d : Int) (w : World) (h : InvA w N) (hp : PostOk N false s n d) (hbig : N.hm + 4 ≤ 8796093022208) (hwn : N.wn ≤ 2199023255552) :
    Calls Tryd.prog 92 #[.pointer (some ⟨N.bn, 0, none⟩), .agg #[.bool false, .string s, .int .i64 n, .int .i64 d]] w fun e w' => e = .returned (.bool true) ∧ ∃ N', StpA w N w' N' := by
  obtain ⟨k, rfl, _, hp2⟩ := hp
  obtain ⟨i, o, rfl, hi, ho, hs⟩ := hp2 rfl
  have HI : Hid _ := h
  have hkl := (List.getElem?_eq_some_iff.1 ho).1
  have hl5 := h.l.shape.n500
  have T0 : Turn [] w (w.alloc (.cells #[.bool false, .string s, .int .i64 ((k : Int) + 1), .int .i64 (i : Int)] 156)) := (Turn.refl [] w).alloc _
  have hq0 := heap_alloc_new w (.cells #[.bool false, .string s, .int .i64 ((k : Int) + 1), .int .i64 (i : Int)] 156)
  have hqF : w.heap.size ∉ N.F := fun hm => by have := h.m.net.lt _ hm; omega
  have hql : ∀ x ∈ N.lows, x ≠ w.heap.size := fun x hx => by have := h.m.lt x hx; omega
  have HT0 : Hid _ := T0
  have HS0 : Hid _ := StpM.of_turn h.m T0
  have HQ0 : Hid _ := Blk.mk hq0 hqF
  have HO : Hid _ := ho
  have HSS : Hid _ := hs
  have e5 : (k : Int) + 1 - 1 = (k : Int) := by omega
  have e0 : IntKind.i64.wrap (k : Int) = (k : Int) := by simp [IntKind.wrap, IntKind.signed, IntKind.bits]; omega
  have e1 : IntKind.i64.wrap ((k : Int) + 1 - 1) = (k : Int) := by rw [e5]; exact e0
  have e2 : (0 : Int) ≤ (k : Int) := by omega
  have e3 : (k : Int) < (N.os.length : Int) := by omega
  clear h T0 hq0 ho hs hp2
  go_enter Tryd.func92, Tryd.ntmps92
  go_wp2_with fail
  generalize hQ : w.heap.size = Q at *
  generalize w.alloc (.cells #[.bool false, .string s, .int .i64 ((k : Int) + 1), .int .i64 (i : Int)] 156) = w0 at *
  obtain ⟨gr, o', hrs, ho', g0, g1, g2, g3, _⟩ := HS0.out.m.rth.at hkl
  obtain rfl : o = o' := by rw [HO.out] at ho'; simpa using ho'
  have c4 : w0.cell? ⟨N.bn, 4, none⟩ = some (.slice (some ⟨gr, 0, none⟩) N.os.length N.rcap) := by rw [cell_of_row _ _ _ _ _ _ HS0.out.m.hold.net, ← hrs]; rfl
  have y2 : w0.cell? ⟨Q, 2, none⟩ = some (.int .i64 ((k : Int) + 1)) := (HQ0.out.cell 2).trans rfl
  have hglt : gr < w0.heap.size := World.block_lt_of_cell? _ _ g0
  have hnlt : N.bn < w0.heap.size := World.block_lt_of_cell? _ _ c4
  have hxlt : Q < w0.heap.size := World.block_lt_of_cell? _ _ y2
  go_region_held3 (fun u => u.cell? ⟨N.bn, 4, none⟩ = some (.slice (some ⟨gr, 0, none⟩) N.os.length N.rcap) ∧ u.cell? ⟨Q, 2, none⟩ = some (.int .i64 ((k : Int) + 1)) ∧
      u.cell? ⟨gr, k * 4, none⟩ = some (.string o.data) ∧ u.cell? ⟨gr, k * 4 + 1, none⟩ = some (.int .u64 o.nonce) ∧ u.cell? ⟨gr, k * 4 + 2, none⟩ = some (.int .i64 o.st) ∧ u.cell? ⟨gr, k * 4 + 3, none⟩ = some (.int .i64 o.sent))
      (first | exact ⟨c4, y2, g0, g1, g2, g3⟩ | exact ⟨cellNew c4 _, cellNew y2 _, cellNew g0 _, cellNew g1 _, cellNew g2 _, cellNew g3 _⟩)
      (fail)
  · have X1 : Turn [] w (w0.alloc (.cells #[.string o.data, .int .u64 o.nonce, .int .i64 o.st, .int .i64 o.sent] 158)).drew := (HT0.out.alloc _).drew
    have X2 := HQ0.out.turn (((Turn.refl [] w0).alloc (.cells #[.string o.data, .int .u64 o.nonce, .int .i64 o.st, .int .i64 o.sent] 158)).drew) (by simp)
    have X3 : Blk (w0.alloc (.cells #[.string o.data, .int .u64 o.nonce, .int .i64 o.st, .int .i64 o.sent] 158)).drew N.F w0.heap.size (.cells #[.string o.data, .int .u64 o.nonce, .int .i64 o.st, .int .i64 o.sent] 158 (0, 0)) := ⟨heap_alloc_new w0 _, fun hm => by have := HS0.out.m.net.lt _ hm; omega⟩
    have hPl : ∀ x ∈ N.lows, x ≠ w0.heap.size := fun x hx => by have := HS0.out.m.lt x hx; omega
    rename_i hHeld
    clear hHeld c4 y2 g0 g1 g2 g3 hglt hnlt hxlt HS0 HQ0 HT0
    generalize (w0.alloc (.cells #[.string o.data, .int .u64 o.nonce, .int .i64 o.st, .int .i64 o.sent] 158)).drew = w1 at *
    generalize w0.heap.size = P at *
    have hm1 : InvM w1 N := HI.out.m.turn X1
    have HT1 : Hid _ := X1
    have OK : ∀ (v : World) (M : NetA), StpM w1 N v M → M.br = N.br → v.cell? ⟨N.bn, 1, none⟩ = some (.pointer (some ⟨N.br, 0, none⟩)) ∧ v.cell? ⟨Q, 1, none⟩ = some (.string s) ∧ v.cell? ⟨Q, 2, none⟩ = some (.int .i64 ((k : Int) + 1)) ∧ v.cell? ⟨Q, 3, none⟩ = some (.int .i64 (i : Int)) ∧ v.cell? ⟨P, 1, none⟩ = some (.int .u64 o.nonce) := fun v M st hbr => by
      have q1 := st.m.cells.2
      rw [st.bn, hbr] at q1
      have zq := X2.turn st.turn (fun hm => by
        rcases List.mem_append.1 hm with q | q
        · exact hql Q q rfl
        · exact X2.out q)
      have zp := X3.turn st.turn (fun hm => by
        rcases List.mem_append.1 hm with q | q
        · exact hPl P q rfl
        · exact X3.out q)
      exact ⟨q1, (zq.cell 1).trans rfl, (zq.cell 2).trans rfl, (zq.cell 3).trans rfl, (zp.cell 1).trans rfl⟩
    have HOK : Hid _ := OK
    have x0 : w1.cell? ⟨P, 0, none⟩ = some (.string o.data) := (X3.cell 0).trans rfl
    have c2 : w1.cell? ⟨N.bn, 2, none⟩ = some (.int .i64 N.blk) := by rw [cell_of_row _ _ _ _ _ _ hm1.hold.net]; rfl
    have HM1 : Hid _ := hm1
    clear X1 X2 X3 OK hm1
    have HB1 := HI.out.l.blk1
    have HB2 := HI.out.l.blk2
    have hod := HI.out.l.odat k o HO.out
    have hK1 := blocksOf_pos o.data.size N.blk
    have hK2 := blocksOf_le o.data.size N.blk HB1 hod
    have hr0 := rowOf_ne o.nonce (blocksOf o.data.size N.blk) i hK1
    have hr1 := Dz.rowOf_lt o.nonce (blocksOf o.data.size N.blk) i hK1
    have hdat : N.ds[k]? = some o.data := by simp [NetA.ds, HO.out]
    have hKe : k + 1 = N.last → N.K = blocksOf o.data.size N.blk := fun e => by
      obtain ⟨d, hd, hK, _⟩ := HI.out.l.get.dat k e.symm
      rw [hdat] at hd
      obtain rfl : o.data = d := by simpa using hd
      exact hK
    have HRB : Hid (Calls Tryd.prog 109 #[.int .i64 (o.data.size : Nat), .int .i64 N.blk] w1.drew fun e w' => e = .returned (.int .i64 (blocksOf o.data.size N.blk)) ∧ w' = w1.drew) := refBlocks_any o.data.size N.blk w1.drew HB1 HB2 hod
    have HV : Hid (∀ (b : Bool) (last' K' : Nat) (rs' dl' : List Nat), CameIs (k + 1) (blocksOf o.data.size N.blk) (Dz.rowOf o.nonce (blocksOf o.data.size N.blk) i) N.last N.K N.rs N.dl b last' K' rs' dl' → ∃ V2, N.V.handle (bytesOf s) = (V2, if b then some (doneB (k + 1) N.blk) else none) ∧ GetIs V2 N.blk N.ds last' K' rs' dl' ∧ ((dl' = N.dl ∧ V2.ready = N.V.ready) ∨ (dl' = N.dl ++ [k + 1] ∧ V2.ready = N.V.ready ++ [(o.data, k + 1)]))) := fun b last' K' rs' dl' hc => by
      rw [HSS.out]
      exact HI.out.l.get.came HI.out.m.net.rok hdat (by simp [NetA.ds]; omega) hod hr0 hr1 hc
    have HCM : Hid (∀ v, StpM w1 N v N → Calls Tryd.prog 110 #[.pointer (some ⟨N.bn, 5, none⟩), .int .i64 ((k : Int) + 1), .int .u64 o.nonce, .int .i64 (blocksOf o.data.size N.blk), .int .i64 (i : Int)] v fun e w' => ∃ b, e = .returned (.bool b) ∧ CameW v w' N.bn (netF N) 0 (k + 1) (blocksOf o.data.size N.blk) (Dz.rowOf o.nonce (blocksOf o.data.size N.blk) i) N.last N.K N.gv N.gs N.rs N.dv N.dl b) := fun v st =>
      came_any N.bn (k + 1) (blocksOf o.data.size N.blk) i o.nonce (netF N) 0 N.K N.last N.gv N.gs N.rs N.dv N.dl v st.m.getAt (by omega) (by have := HI.out.l.get.len.1; have := HI.out.l.get.le; simp [NetA.ds] at this; omega) (by have := HI.out.l.nrs; omega) hKe hK1 hK2 hi
    have hsz : s.size ≤ 4611686018427387904 := by
      have := congrArg List.length HSS.out
      rw [fText, sumText_len, sumRow_len] at this
      have e : (bytesOf s).length = s.size := by simp [bytesOf]
      omega
    generalize blocksOf o.data.size N.blk = KK at *
    go_wp2_with fail
    go_region_held3 (fun u => u.cell? ⟨P, 0, none⟩ = some (.string o.data) ∧ u.cell? ⟨N.bn, 2, none⟩ = some (.int .i64 N.blk))
      (first | exact ⟨x0, c2⟩)
      (first | (go_at_call 109; refine HRB.out.mono ?_; rintro e w' ⟨rfl, rfl⟩))
    have HS2 : Hid _ := HM1.out.stp.then ((Turn.refl [] w1).drew)
    clear x0 c2 HRB
    generalize w1.drew = w2 at *
    obtain ⟨z1, z2, z3, z4, z5⟩ := HOK.out _ _ HS2.out rfl
    go_wp2_with fail
    go_region_held3 (fun u => u.cell? ⟨Q, 2, none⟩ = some (.int .i64 ((k : Int) + 1)) ∧ u.cell? ⟨Q, 3, none⟩ = some (.int .i64 (i : Int)) ∧ u.cell? ⟨P, 1, none⟩ = some (.int .u64 o.nonce))
      (first | exact ⟨z3, z4, z5⟩ | exact ⟨t3, t4, t5⟩)
      (first | (go_at_call 110; refine (HCM.out _ (HS2.out.then ((Turn.refl [] _).drew))).mono ?_; rintro e w3 ⟨b, rfl, hcw⟩; obtain ⟨K', last', gv', gs', rs', dv', dl', hci, hs3⟩ := (HS2.out.then ((Turn.refl [] _).drew)).came hcw; obtain ⟨t1, t2, t3, t4, t5⟩ := HOK.out _ _ hs3 rfl))
    obtain ⟨V2, hh, hg, hrd⟩ := HV.out _ _ _ _ _ hci
    have HC : Hid _ := hci
    have HS3 : Hid _ := hs3
    have hgr := hci.grows
    have HG : Hid _ := hg
    have HRD : Hid _ := hrd
    have h4 := HI.out.l.four
    clear hcw z1 z2 z3 z4 z5 t3 t4 t5 HV HCM hci hg hrd hs3
    rename_i hHeld
    clear hHeld
    cases b
    · have HH : Hid (∀ v F, Net v N.bs N.br F N.S N.V → Calls Tryd.prog 20 #[.pointer (some ⟨N.br, 0, none⟩), .string s] v fun e w' => e = .returned (.slice none 0 0) ∧ ∃ F', NAft v w' N.bs N.br F F' N.S V2) := fun v F hv => by
        refine (nHandle s hv hsz).mono ?_
        rintro e w' ⟨F', ha, hans⟩
        rw [hh] at ha hans
        exact ⟨hans.none_ rfl, F', ha⟩
      have HPM : Hid _ := posts_more HI.out.l hgr.1
      clear hh hgr
      have t3 := (HOK.out _ _ HS3.out rfl).2.2.1
      go_wp2_with fail
      go_region_held3 (fun u => u.cell? ⟨N.bn, 1, none⟩ = some (.pointer (some ⟨N.br, 0, none⟩)) ∧ u.cell? ⟨Q, 1, none⟩ = some (.string s) ∧ u.cell? ⟨Q, 2, none⟩ = some (.int .i64 ((k : Int) + 1)))
        (first | exact ⟨t1, t2, t3⟩ | exact ⟨u1, u2, u3⟩ | exact ⟨v1, v2, v3⟩)
        (first
          | (go_at_call 20; refine (HH.out _ _ HS3.out.m.net.drew).mono ?_; rintro e w4 ⟨rfl, F4, ha⟩; have hs4 := HS3.out.ends (ha.pre ((Turn.refl [] _).drew)); obtain ⟨u1, u2, u3, _, _⟩ := HOK.out _ _ hs4 rfl)
          | (go_at_call 62; refine (sentA_none true ((k : Int) + 1) 0 hs4 h4 hbig).mono ?_; rintro e w5 ⟨rfl, hsl, hcap, va, vb, vc, hs5⟩; obtain ⟨v1, v2, v3, _, _⟩ := HOK.out _ _ hs5 rfl))
      have HS5 : Hid _ := (StpM.of_turn HI.out.m HT1.out).trans hs5
      clear hs5 hs4 ha u1 u2 u3 v1 v2 v3 t1 t2 t3 HS3
      go_wp2_with fail
      go_ret
      exact ⟨rfl, _, HS5.out.to (HI.out.l.came HO.out HC.out HG.out HRD.out F4 gv' gs' dv' N.wsl N.wn N.wcap N.wx hsl hcap _ HPM.out) (Nat.le_refl _) (by show N.wn ≤ _; omega)⟩
    · have HH : Hid (∀ v F, Net v N.bs N.br F N.S N.V → Calls Tryd.prog 20 #[.pointer (some ⟨N.br, 0, none⟩), .string s] v fun e w' => ∃ G, e = .returned (.slice (some ⟨G, 0, none⟩) 1 1) ∧ w'.heap[G]? = some (.cells #[.string (strOf (doneB (k + 1) N.blk))] 9 (0, 0)) ∧ v.heap.size ≤ G ∧ ∃ F', G ∉ F' ∧ NAft v w' N.bs N.br F F' N.S V2) := fun v F hv => by
        refine (nHandle s hv hsz).mono ?_
        rintro e w' ⟨F', ha, hans⟩
        rw [hh] at ha hans
        obtain ⟨G, q1, q2, q3, q4⟩ := hans.some_ _ rfl
        exact ⟨G, q1, q2, q3, F', q4, ha⟩
      have HPM : Hid _ := posts_push HI.out.m.way.owns.1 (posts_more HI.out.l hgr.1) true (strOf (doneB (k + 1) N.blk)) ((k : Int) + 1) 0 ⟨k, rfl, fun _ => ⟨by omega, hgr.2.2 rfl, bytesOf_strOf _ (doneB_lt _ _)⟩, fun e => by simp at e⟩
      have hds : (strOf (doneB (k + 1) N.blk)).size = 8 := by
        have := congrArg List.length (bytesOf_strOf _ (doneB_lt (k + 1) N.blk))
        rw [doneB_len] at this
        simpa [bytesOf] using this
      have hw1 : 0 < w1.heap.size := HM1.out.net.pos
      have hz : w1.heap.size ≤ w3.heap.size := HS3.out.lt
      have HRO : Hid (∀ G, w3.heap.size ≤ G → G ∉ N.hs.filterMap Value.ownBlock) := fun G hG hm => by
        have := HS3.out.m.ro_lt G (List.mem_append_left _ hm)
        omega
      clear hh hgr
      have t3 := (HOK.out _ _ HS3.out rfl).2.2.1
      go_wp2_with fail
      go_region_held3 (fun u => u.cell? ⟨N.bn, 1, none⟩ = some (.pointer (some ⟨N.br, 0, none⟩)) ∧ u.cell? ⟨Q, 1, none⟩ = some (.string s) ∧ u.cell? ⟨Q, 2, none⟩ = some (.int .i64 ((k : Int) + 1)))
        (first | exact ⟨t1, t2, t3⟩ | exact ⟨u1, u2, u3⟩ | exact ⟨v1, v2, v3⟩)
        (first
          | (go_at_call 20; refine (HH.out _ _ HS3.out.m.net.drew).mono ?_; rintro e w4 ⟨G, rfl, hG1, hG2, F4, hG3, ha⟩; have hs4 := HS3.out.ends (ha.pre ((Turn.refl [] _).drew)); obtain ⟨u1, u2, u3, _, _⟩ := HOK.out _ _ hs4 rfl)
          | (go_at_call 62; refine (sentA_one true ((k : Int) + 1) 0 G (strOf (doneB (k + 1) N.blk)) hs4 h4 hbig hwn hG1 (by omega) (by omega) (Nat.le_trans hz hG2) hG3 (HRO.out G hG2) hw1).mono ?_; rintro e w5 ⟨rfl, wsl, wcap, hsl, hcap, va, vb, vc, hs5⟩; obtain ⟨v1, v2, v3, _, _⟩ := HOK.out _ _ hs5 rfl))
      have HS5 : Hid _ := (StpM.of_turn HI.out.m HT1.out).trans hs5
      clear hs5 hs4 ha u1 u2 u3 v1 v2 v3 t1 t2 t3 HS3
      go_wp2_with fail
      go_ret
      exact ⟨rfl, _, HS5.out.to (HI.out.l.came HO.out HC.out HG.out HRD.out F4 gv' gs' dv' wsl (N.wn + 1) wcap _ hsl hcap _ HPM.out) (Nat.le_refl _) (Nat.le_refl _)⟩
end Go.Proofs.YtfbbidaoljfloaaDoor


namespace Go.Proofs.YtfbbidaoljfloaaDoor
open Go.RowKit Go.MuLone

def opV (k a n m nonce mask : Int) (s : ByteArray) : Value := .agg #[.int .i64 k, .int .i64 a, .int .i64 n, .int .i64 m, .int .u64 nonce, .int .u32 mask, .string s]
def opCells (k a n m nonce mask : Int) (s : ByteArray) : Array Value := #[.int .i64 k, .int .i64 a, .int .i64 n, .int .i64 m, .int .u64 nonce, .int .u32 mask, .string s]

theorem Turn.cell {S : List Nat} {w w' : World} (h : Turn S w w') {p : Addr} (hp : p.block < w.heap.size) (hn : p.block ∉ S) : w'.cell? p = w.cell? p := World.cell?_of_block (h.block p.block hp hn)
theorem Turn.frozen {S : List Nat} {w w' : World} (h : Turn S w w') {p : Addr} (hp : p.block < w.heap.size) (hn : p.block ∉ S) : w'.frozen? p = w.frozen? p := World.frozen?_of_block (h.block p.block hp hn)

theorem submit_no (bs : Nat) (blk bud : Int) (data : ByteArray) (nonce : Int) (sl : Option Addr) (n cap en : Nat) (l : List Thing) (w : World) (hs : SenderAt w bs blk bud (.slice sl n cap) en) (h : Things w 110 sl n cap l) (hne : (Value.slice sl n cap).ownBlock ≠ some bs)
    (h1 : 1 ≤ blk) (h2 : blk ≤ 32) (hn : n ≤ 500) (hen : en ≤ n) (h8 : cntSt (l.drop en) 1 ≤ 8) (hno : 32 * blk < (data.size : Int) ∨ n = 500 ∨ 8 ≤ cntSt (l.drop en) 1) :
    Calls Tryd.prog 17 #[.pointer (some ⟨bs, 0, none⟩), .string data, .int .u64 nonce] w fun e w' => e = .returned (.tuple #[.int .i64 0, .int .i64 (subErr blk data.size n)]) ∧ Turn [bs] w w' ∧ SenderAt w' bs blk bud (.slice sl n cap) en := by
  by_cases ha : 32 * blk < (data.size : Int)
  · rw [show subErr blk data.size n = 2 by unfold subErr; rw [if_pos ha]]
    exact submit_long bs blk bud data nonce _ en w hs h1 h2 ha
  · by_cases hb : n = 500
    · rw [show subErr blk data.size n = 4 by unfold subErr; rw [if_neg ha, if_pos hb]]
      subst hb
      exact submit_end bs blk bud data nonce sl cap en w hs h1 h2 ha
    · rw [show subErr blk data.size n = 3 by unfold subErr; rw [if_neg ha, if_neg hb]]
      exact submit_full bs blk bud data nonce sl n cap en l w hs h hne h1 h2 ha (by omega) hen (by omega)


theorem Send.same {w w' : World} {bs : Nat} {sl : Option Addr} {cap : Nat} {S : SV} (h : Send w bs sl cap S) (ht : Turn [bs] w w') (hs : SenderAt w' bs S.blk S.bud (.slice sl S.l.length cap) S.en) : SAft w w' bs sl sl cap S :=
  ⟨⟨hs, h.things.turn ht (fun k hk => by simp; intro e; exact h.ne (by rw [hk, e])), h.ne⟩, ht.mono (by simp [sfoot]), fun g hg => .inl hg⟩
theorem nSubmit_no {w : World} {bs br : Nat} {F : List Nat} {S : SV} {V : RV} (data : ByteArray) (nonce : Int) (h : Net w bs br F S V) (hc : cntSt (S.l.drop S.en) 1 ≤ 8) (hno : 32 * (S.blk : Int) < (data.size : Int) ∨ S.l.length = 500 ∨ 8 ≤ cntSt (S.l.drop S.en) 1) :
    Calls Tryd.prog 17 #[.pointer (some ⟨bs, 0, none⟩), .string data, .int .u64 nonce] w fun e w' => e = .returned (.tuple #[.int .i64 0, .int .i64 (subErr S.blk data.size S.l.length)]) ∧ ∃ F', NAft w w' bs br F F' S V := by
  obtain ⟨sl, cap, R, hn, rfl⟩ := h
  have h1 := hn.sok.b1
  have h2 := hn.sok.b2
  refine (submit_no bs S.blk S.bud data nonce sl S.l.length cap S.en S.l w hn.send.at_ hn.send.things hn.send.ne (by omega) (by omega) hn.sok.n5 hn.sok.le hc hno).mono ?_
  rintro e w' ⟨rfl, ht, hs⟩
  exact ⟨rfl, _, hn.sender (hn.send.same ht hs) hn.sok⟩
theorem nStatus_bad {w : World} {bs br : Nat} {F : List Nat} {S : SV} {V : RV} (num : Int) (h : Net w bs br F S V) (hbad : num < 1 ∨ (S.l.length : Int) < num) :
    Calls Tryd.prog 22 #[.pointer (some ⟨bs, 0, none⟩), .int .i64 num] w fun e w' => e = .returned (.tuple #[.agg #[.int .i64 0, .int .i64 0], .int .i64 5]) ∧ ∃ F', NAft w w' bs br F F' S V := by
  obtain ⟨sl, cap, R, hn, rfl⟩ := h
  refine (status_bad bs S.blk S.bud sl S.l.length cap S.en num w hn.send.at_ hbad).mono ?_
  rintro e w' ⟨rfl, ht, hs⟩
  exact ⟨rfl, _, hn.sender (hn.send.same ht hs) hn.sok⟩

/-- The op's own block, beside a network: X, made at w, W behind it. -/
structure OpAt (w W : World) (N : NetA) (k a n m nonce mask : Int) (s : ByteArray) : Prop where
  turn : Turn [] w W
  at_ : W.heap[w.heap.size]? = some (.cells (opCells k a n m nonce mask s) 89 (0, 0))
  far : w.heap.size ∉ N.blocks
theorem OpAt.mk' {w : World} {N : NetA} (h : InvM w N) (k a n m nonce mask : Int) (s : ByteArray) : OpAt w (w.alloc (.cells (opCells k a n m nonce mask s) 89)) N k a n m nonce mask s :=
  ⟨(Turn.refl _ _).alloc _, heap_alloc_new _ _, fun hm => by
    rcases List.mem_append.1 hm with q | q
    · have := h.lt _ q; omega
    · have := h.net.lt _ q; omega⟩
theorem OpAt.cell {w W v : World} {N M : NetA} {k a n m nonce mask : Int} {s : ByteArray} (h : OpAt w W N k a n m nonce mask s) (st : StpM W N v M) (j : Nat) : v.cell? ⟨w.heap.size, j, none⟩ = (opCells k a n m nonce mask s)[j]? := by
  rw [st.turn.cell (p := ⟨w.heap.size, j, none⟩) (lt_of_heap h.at_) h.far, cell_of_row _ _ _ _ _ _ h.at_]
theorem StpA.of {w W w' : World} {N N' : NetA} (T : Turn [] w W) (h : InvM w N) (s : StpM W N w' N') (l : InvL N') (h1 : N'.hm ≤ N.hm + 4) (h2 : N'.wn ≤ N.wn + 1) : StpA w N w' N' := ((StpM.of_turn h T).trans s).to l h1 h2

/-- One object more, at both. -/
theorem InvM.objs2 {w w2 : World} {N : NetA} {o : Thing} {g c : Nat} (h : InvM w N) (T : Turn N.rv.ownBlock.toList w w2) (ht : Things w2 158 (some ⟨g, 0, none⟩) (N.os.length + 1) c (N.os ++ [o])) (ha : N.rv.ownBlock = some g ∨ w.heap.size ≤ g) :
    StpM w N (w2.setCell ⟨N.bn, 4, none⟩ (.slice (some ⟨g, 0, none⟩) (N.os.length + 1) c)) { N with os := N.os ++ [o], rsl := some ⟨g, 0, none⟩, rcap := c } := by
  have e : (N.os ++ [o]).length = N.os.length + 1 := by simp
  have ho : w.ownsRow 0 158 4 N.rv N.os.length (rowCells N.os) := h.rth.owns
  have nF : ∀ k, N.rv.ownBlock = some k → k ∈ N.lows := fun k hk => mem_lows (.inr (.inl hk))
  have hbn : N.bn ∉ N.rv.ownBlock.toList := fun hm => cells_ne (by decide) h.hold.net ho (by simpa using hm)
  have hnet2 := T.cells h.hold.net hbn
  have TF : Turn (N.bn :: N.rv.ownBlock.toList) w (w2.setCell ⟨N.bn, 4, none⟩ (.slice (some ⟨g, 0, none⟩) (N.os.length + 1) c)) := (T.mono (fun x hx => List.mem_cons_of_mem _ hx)).setCell (.inl (by simp)) _
  have Tc : Turn [N.bn] w2 (w2.setCell ⟨N.bn, 4, none⟩ (.slice (some ⟨g, 0, none⟩) (N.os.length + 1) c)) := (Turn.refl _ _).setCell (.inl (by simp)) _
  have away : ∀ k, k ∈ N.bn :: N.rv.ownBlock.toList → k = N.bn ∨ N.rv.ownBlock = some k := fun k hk => by simpa using hk
  have hown : ∀ {e : TypeId} {s n : Nat} {xs : List Value} {v : Value}, e ≠ 151 → e ≠ 158 → w.ownsRow 0 e s v n xs → ∀ k, v.ownBlock = some k → k ∉ N.bn :: N.rv.ownBlock.toList := fun h1 h2 hoo k hk hm => by
    rcases away k hm with q | q
    · subst q; exact cells_ne h1 h.hold.net hoo hk
    · exact own_ne h2 hoo ho k hk q
  have hgn : g ≠ N.bn := by
    rcases ha with q | q
    · intro e; exact hbn (by rw [q, e]; simp)
    · have := lt_of_heap h.hold.net; omega
  have hlow : ∀ k ∈ ({ N with os := N.os ++ [o], rsl := some ⟨g, 0, none⟩, rcap := c } : NetA).lows, k ∈ N.lows ∨ w.heap.size ≤ k := fun k hk => by
    simp only [NetA.lows, List.mem_cons, List.mem_append, Option.mem_toList] at hk
    rcases hk with q | ((((q | q) | q) | q) | q)
    · exact .inl (mem_lows (.inl q))
    · have q : some g = some k := q
      simp at q
      subst q
      rcases ha with r | r
      · exact .inl (nF g r)
      · exact .inr r
    · exact .inl (mem_lows (.inr (.inr (.inl q))))
    · exact .inl (mem_lows (.inr (.inr (.inr (.inl q)))))
    · exact .inl (mem_lows (.inr (.inr (.inr (.inr (.inl q))))))
    · exact .inl (mem_lows (.inr (.inr (.inr (.inr (.inr q))))))
  have inl : ∀ k, k ∈ N.bn :: N.rv.ownBlock.toList → k ∈ N.lows := fun k hk => by
    rcases away k hk with q | q
    · exact mem_lows (.inl q)
    · exact nF k q
  refine ⟨⟨⟨?_, TF.owns h.hold.owns (hown (by decide) (by decide) h.hold.owns), h.hold.apart, h.hold.len⟩, h.way.turn TF (hown (by decide) (by decide) h.way.owns), h.net.turn TF (fun g hg hm => h.low g (inl g hm) hg) (fun hm => h.pos (inl 0 hm)), ?_, h.rl.turn TF (hown (by decide) (by decide) h.rl.owns) (fun g hg hm => ?_), h.r0, h.nl.turn TF (hown (by decide) (by decide) h.nl.owns), fun i hi => (h.lists i hi).turn TF (fun k hk => ?_), fun k hk hm => ?_, h.ro, fun hm => ?_⟩, TF.mono (fun k hk => List.mem_append_left _ (inl k hk)), rfl, fun k hk => ?_, fun k hk => .inl hk⟩
  · show _ = some (Obj.cells (netX N.bs N.X N.blk N.bud (.slice (some ⟨g, 0, none⟩) (N.os ++ [o]).length c) N.wv N.hv) _ _)
    rw [e]
    exact heap_setCell_same _ _ _ _ _ _ hnet2
  · show Things _ _ (some ⟨g, 0, none⟩) (N.os ++ [o]).length c (N.os ++ [o])
    rw [e]
    exact ht.turn Tc (fun k hk hm => by
      simp only [Value.ownBlock, Option.some.injEq] at hk
      simp at hm
      exact hgn (by omega))
  · rcases away g hm with q | q
    · subst q; exact h.rl.far (by decide) h.hold.net hg
    · exact h.rl.ne2 (by decide) ho g hg q
  · obtain ⟨sl, n, cap, e2, _, hol⟩ := h.lists i hi
    rw [e2] at hk hol
    exact hown (by decide) (by decide) hol k hk
  · rcases hlow k hk with q | q
    · exact h.low k q hm
    · have := h.net.lt k hm; omega
  · rcases hlow 0 hm with q | q
    · exact h.pos q
    · have := h.net.pos; omega
  · rcases List.mem_append.1 hk with q | q
    · rcases hlow k q with q | q
      · exact .inl (List.mem_append_left _ q)
      · exact .inr q
    · exact .inl (List.mem_append_right _ q)
theorem InvL.submitted {N : NetA} (h : InvL N) (F : List Nat) (data : ByteArray) (nonce : Int) (rsl : Option Addr) (rcap : Nat) (y1 : data.size ≤ 32 * N.blk) (y2 : N.os.length < 500) (y3 : cntSt N.os 1 < 8) :
    InvL { N with F := F, S := { N.S with l := N.S.l ++ [⟨data, nonce, 1, 0⟩] }, os := N.os ++ [⟨data, nonce, 1, 0⟩], rsl := rsl, rcap := rcap } := by
  refine ⟨h.sblk, h.sbud, h.shape.submit data nonce y2 y3 y1, ?_, fun i o ho => ?_, h.tk, ⟨h.ready.1, fun i n o hd ho => ?_⟩, fun i hi => ?_, h.blk1, h.blk2, h.bud1, h.bud2, h.four, h.nrs⟩
  · show GetIs N.V N.blk ((N.os ++ [(⟨data, nonce, 1, 0⟩ : Thing)]).map (fun x => x.data)) N.last N.K N.rs N.dl
    rw [List.map_append]
    exact h.get.more data
  · have ho : (N.os ++ [(⟨data, nonce, 1, 0⟩ : Thing)])[i]? = some o := ho
    by_cases hi : i < N.os.length
    · rw [List.getElem?_append_left hi] at ho
      exact h.odat i o ho
    · rw [List.getElem?_append_right (by omega)] at ho
      have := (List.getElem?_eq_some_iff.1 ho).1
      simp at this
      rw [show i - N.os.length = 0 by omega] at ho
      simp at ho
      rw [← ho]
      exact y1
  · have ho : (N.os ++ [(⟨data, nonce, 1, 0⟩ : Thing)])[n]? = some o := ho
    have hn := h.get.dle (n + 1) (List.mem_of_getElem? hd)
    have hle := h.get.le
    simp [NetA.ds] at hle
    rw [List.getElem?_append_left (by omega)] at ho
    exact h.ready.2 i n o hd ho
  · obtain ⟨b, s, n, d, p1, p2, p3, p4, k, p5, p6, p7⟩ := h.posts i hi
    refine ⟨b, s, n, d, p1, p2, p3, p4, k, p5, p6, fun hb => ?_⟩
    obtain ⟨j, o, j1, j2, j3, j4⟩ := p7 hb
    exact ⟨j, o, j1, j2, by show (N.os ++ [_])[k]? = _; rw [List.getElem?_append_left (List.getElem?_eq_some_iff.1 j3).1]; exact j3, j4⟩
end Go.Proofs.YtfbbidaoljfloaaDoor
