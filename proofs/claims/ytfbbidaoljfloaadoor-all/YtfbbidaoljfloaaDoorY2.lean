import Derived.Test.YtfbbidaoljfloaaDoorX3
import Derived.Test.YtfbbidaoljfloaaDoorY1
import Derived.Deep.QuietTactic
import Derived.BigQuiet
import Derived.ArgAppend
import Derived.Lib.SliceRun
namespace Go.Proofs.YtfbbidaoljfloaaDoor
open Go.RowKit

/-- The table of math/bits lies in the first block. -/
def Tab (w : World) : Prop := ∀ (i x : Nat), Rx.tab[i]? = some x → w.cell? ⟨0, i, none⟩ = some (.int .u8 (x : Int))
theorem Tab.turn {S : List Nat} {w w' : World} (h : Tab w) (ht : Turn S w w') (hn : 0 ∉ S) : Tab w' := fun i x hx =>
  (World.cell?_of_block (ht.block 0 (World.block_lt_of_cell? w _ (h i x hx)) hn)).trans (h i x hx)

set_option maxHeartbeats 400000 in
theorem trailing_any (x : Nat) (w : World) (h0 : x ≠ 0) (h : x < 4294967296) (ht : Tab w) :
    Calls Tryd.prog 104 #[.int .u32 x] w fun e w' => e = .returned (.int .i64 (Rx.low x)) ∧ w' = w := by
  have q0 : ((x : Int) == 0) = false := by simp; omega
  have hand : bits BinOp.and IntKind.u32 (x : Int) (-(x : Int) % 4294967296) = ((2 ^ Rx.low x : Nat) : Int) := by
    have e : (-(x : Int) % 4294967296) = ((4294967296 - x : Nat) : Int) := by omega
    rw [e, ← Rx.and_neg h0 h]
    exact u32_and_nat x (4294967296 - x) h (by omega)
  have hl := Rx.low_lt h0 h
  have hc : w.cell? ⟨0, (bits BinOp.and IntKind.u32 (x : Int) (-(x : Int) % 4294967296) * 125613361 % 4294967296 / 134217728).toNat, none⟩ = some (.int .u8 (Rx.low x : Int)) := by
    rw [hand]
    have e : (((2 ^ Rx.low x : Nat) : Int) * 125613361 % 4294967296 / 134217728).toNat = (2 ^ Rx.low x * 125613361 % 4294967296) / 134217728 := by
      generalize 2 ^ Rx.low x = y
      rw [show ((y : Int) * 125613361 % 4294967296 / 134217728) = (((y * 125613361 % 4294967296) / 134217728 : Nat) : Int) by simp]
      exact Int.toNat_natCast _
    rw [e]
    exact ht _ _ (Rx.tab_at _ hl)
  clear hand
  go_enter Tryd.func104, Tryd.ntmps104
  go_wp2
  go_ret
  exact ⟨rfl, rfl⟩

/-- A row of bytes at any place. -/
structure CellsAt (w : World) (g off : Nat) (ns : List Nat) : Prop where
  cell : ∀ k x, ns[k]? = some x → w.cell? ⟨g, off + k, none⟩ = some (.int .u8 (x : Nat))
  lt : ∀ b ∈ ns, b < 256
theorem CellsAt.turn {S : List Nat} {w w' : World} {g off : Nat} {ns : List Nat} (h : CellsAt w g off ns) (ht : Turn S w w') (hn : g ∉ S) : CellsAt w' g off ns :=
  ⟨fun k x hx => (World.cell?_of_block (ht.block g (World.block_lt_of_cell? w _ (h.cell k x hx)) hn)).trans (h.cell k x hx), h.lt⟩

set_option maxRecDepth 100000 in
set_option maxHeartbeats 400000 in
theorem sclone_any (g off n cap : Nat) (ns : List Nat) (w : World) (h : CellsAt w g off ns) (hl : ns.length = n) (hn0 : 0 < n) (hn : n ≤ 1000) :
    Calls Tryd.prog 103 #[.slice (some ⟨g, off, none⟩) n cap] w fun e w' => ∃ g' c', e = .returned (.slice (some ⟨g', 0, none⟩) n c') ∧ Bytes w' g' n c' ns ∧ Below w.heap.size w w' ∧ w.heap.size ≤ g' := by
  obtain ⟨i0, hi, hz0, hz1, hz2⟩ := info_parts infoByte
  have hq := fun w => Go.Lib.run_eql_slice_nil (P := Tryd.prog) w 114 5 (some ⟨g, off, none⟩) n cap 0 0 Tryd.underlying114
  go_enter Tryd.func103, Tryd.ntmps103
  go_wp2_with (at_builtin; refine wpList_append_grows _ rfl _ _ 114 rfl 5 i0 _ 1 1 Tryd.underlying114 hi hz0 hz1 hz2 rfl (by decide) (some ⟨w.heap.size, 0, none⟩) 0 0 [] rfl (by intro e; cases e) rfl (by intro b _ j u hu; simp at hu) ⟨g, off, none⟩ n cap (byteRow ns) rfl (by rw [byteRow_len, hl]; omega) ?cells (by intro u hu; simp [byteRow] at hu; obtain ⟨b, _, rfl⟩ := hu; rfl) (by omega) (by unfold maxLen; omega) (by omega) ?_)
  case cells =>
    intro j u hu
    obtain ⟨x, hx, rfl⟩ : ∃ x : Nat, ns[j]? = some x ∧ Value.int .u8 (x : Int) = u := by simpa [byteRow] using hu
    rw [Addr.add_lit]
    exact cellNew (h.cell j x hx) _
  intro v' w' hown hgrow
  obtain ⟨g', c', rfl, hge, hlt⟩ := hown.form (by omega)
  go_wp2
  go_ret
  have hb := ((Below.refl w.heap.size w).alloc (Nat.le_refl _) (.cells #[] 5)).trans (⟨hgrow.os, hgrow.tape, hgrow.output, hgrow.size, fun k hk => hgrow.block k (by simp; omega) (by simp)⟩ : Below w.heap.size _ w')
  refine ⟨g', c', rfl, ⟨⟨hown.1, ?_⟩, hl, h.lt⟩, hb, by omega⟩
  rcases hown.2 with ⟨q, _⟩ | ⟨g2, cap2, cur, q1, q2, q3⟩
  · cases q
  · exact .inr ⟨g2, cap2, cur, q1, Nat.zero_le _, q3⟩

def xorUp (a b : List Nat) (k : Nat) : List Nat := (List.range a.length).map (fun i => if i < k then a.getD i 0 ^^^ b.getD i 0 else a.getD i 0)
theorem xorUp_zero (a b : List Nat) : xorUp a b 0 = a := by
  apply List.ext_getElem
  · simp [xorUp]
  · intro i h1 h2
    simp [xorUp, List.getD, h2]
theorem xorUp_full {a b : List Nat} (h : a.length = b.length) : xorUp a b a.length = Rx.xorL a b := by
  apply List.ext_getElem
  · simp [xorUp, Rx.xorL, h]
  · intro i h1 h2
    have h3 : i < a.length := by simpa [xorUp] using h1
    have h4 : i < b.length := by omega
    simp [xorUp, Rx.xorL, List.getD, h3, h4]
theorem xorUp_get {a b : List Nat} {k : Nat} (hk : k < a.length) : (xorUp a b k).getD k 0 = a.getD k 0 := by
  simp [xorUp, List.getD, hk]
theorem xorUp_set {a b : List Nat} {k : Nat} (hk : k < a.length) : (xorUp a b k).set k (a.getD k 0 ^^^ b.getD k 0) = xorUp a b (k + 1) := by
  apply List.ext_getElem
  · simp [xorUp]
  · intro i h1 h2
    have h3 : i < a.length := by simpa [xorUp] using h2
    by_cases hi : i = k
    · subst hi
      simp [xorUp]
    · rw [List.getElem_set_ne (fun e => hi e.symm)]
      simp only [xorUp, List.getElem_map, List.getElem_range]
      by_cases hl : i < k
      · rw [if_pos hl, if_pos (by omega)]
      · rw [if_neg hl, if_neg (by omega)]

set_option maxRecDepth 100000 in
set_option maxHeartbeats 800000 in
theorem addSum_any (pb po r1 r2 g1 c1 g2 c2 n : Nat) (ns1 ns2 : List Nat) (w : World) (hp0 : w.cell? ⟨pb, po, none⟩ = some (.int .u32 r1)) (hp1 : w.cell? ⟨pb, po + 1, none⟩ = some (.slice (some ⟨g1, 0, none⟩) n c1)) (hfz : w.frozen? ⟨pb, po, none⟩ = false)
    (b1 : Bytes w g1 n c1 ns1) (b2 : Bytes w g2 n c2 ns2) (hd : g1 ≠ g2) (hp : pb ≠ g1) (hp2 : pb ≠ g2) (hr1 : r1 < 4294967296) (hr2 : r2 < 4294967296) (hn : n ≤ 1000) :
    Calls Tryd.prog 105 #[.pointer (some ⟨pb, po, none⟩), .agg #[.int .u32 r2, .slice (some ⟨g2, 0, none⟩) n c2]] w fun e w' => e = .returned (.tuple #[]) ∧ Turn [g1] (w.setCell ⟨pb, po, none⟩ (.int .u32 (r1 ^^^ r2 : Nat))) w' ∧ Bytes w' g1 n c1 (Rx.xorL ns1 ns2) := by
  have hx : bits BinOp.xor IntKind.u32 (r1 : Int) (r2 : Int) = ((r1 ^^^ r2 : Nat) : Int) := u32_xor_nat _ _ hr1 hr2
  have hplt : pb < w.heap.size := World.block_lt_of_cell? w _ hp0
  have hg1 := owns_lt b1.owns (g := g1) rfl
  have hg2 := owns_lt b2.owns (g := g2) rfl
  have l1 := b1.len
  have l2 := b2.len
  go_enter Tryd.func105, Tryd.ntmps105
  go_wp2_with fail
  go_region
  go_wp2_with fail
  have hT0 : Turn [g1] (w.setCell ⟨pb, po, none⟩ (.int .u32 (r1 ^^^ r2 : Nat))) (((w.setCell ⟨pb, po, none⟩ (.int .u32 (r1 ^^^ r2 : Nat))).alloc (.cells #[.int .u32 r2, .slice (some ⟨g2, 0, none⟩) n c2] 116)).drew) := ((Turn.refl _ _).alloc _).drew
  have hb1 : Bytes (w.setCell ⟨pb, po, none⟩ (.int .u32 (r1 ^^^ r2 : Nat))) g1 n c1 ns1 := b1.turn ((Turn.refl [pb] w).setCell (.inl (by simp)) _) (by simpa using fun e => hp e.symm)
  have hb2 : Bytes (w.setCell ⟨pb, po, none⟩ (.int .u32 (r1 ^^^ r2 : Nat))) g2 n c2 ns2 := b2.turn ((Turn.refl [pb] w).setCell (.inl (by simp)) _) (by simpa using fun e => hp2 e.symm)
  have hpA : (w.setCell ⟨pb, po, none⟩ (.int .u32 (r1 ^^^ r2 : Nat))).cell? ⟨pb, po + 1, none⟩ = some (.slice (some ⟨g1, 0, none⟩) n c1) := by
    rw [World.cell?_setCell_other _ _ _ _ (by simp)]; exact hp1
  have hplt' : pb < (w.setCell ⟨pb, po, none⟩ (.int .u32 (r1 ^^^ r2 : Nat))).heap.size := by simpa using hplt
  clear hp0 hp1 hfz b1 b2 hx
  generalize hv : w.setCell ⟨pb, po, none⟩ (.int .u32 (r1 ^^^ r2 : Nat)) = v at *
  go_loopw [18] (fun i wr => ∃ k : Nat, k ≤ n ∧ i = .int .i64 k ∧ Turn [g1] v wr ∧ Bytes wr g1 n c1 (xorUp ns1 ns2 k)) (fun i _ => n - (intOf i).toNat)
  case atStart => exact ⟨0, Nat.zero_le _, rfl, hT0, by rw [xorUp_zero]; exact hb1.turn (((Turn.refl [] v).alloc _).drew) (by simp)⟩
  case round =>
    obtain ⟨k, hk, rfl, ht, hb⟩ := hrel
    have hpw : wr.cell? ⟨pb, po + 1, none⟩ = some (.slice (some ⟨g1, 0, none⟩) n c1) := (World.cell?_of_block (ht.block pb hplt' (by simpa using hp))).trans hpA
    have hbw : Bytes wr g2 n c2 ns2 := hb2.turn ht (by simpa using fun e => hd e.symm)
    by_cases hlt : k < n
    · have hlt' : (k : Int) < (n : Int) := by omega
      have hk0 : (0 : Int) ≤ (k : Int) := by omega
      have c2' := hbw.cellAt k hlt
      have c1' := hb.cellAt k hlt
      rw [xorUp_get (by omega)] at c1'
      have hf : wr.frozen? ⟨g1, k, none⟩ = false := owns_frozen hb.owns rfl _
      have hva := getD_lt (xorUp_zero ns1 ns2 ▸ hb1.lt) k
      have hvb := getD_lt hbw.lt k
      have hset := hb.setAt k _ (xor_lt8 _ _ (getD_lt hb1.lt k) hvb)
      rw [xorUp_set (by omega)] at hset
      have hx : bits BinOp.xor IntKind.u8 ((ns1.getD k 0 : Nat) : Int) ((ns2.getD k 0 : Nat) : Int) = ((ns1.getD k 0 ^^^ ns2.getD k 0 : Nat) : Int) := u8_xor_nat _ _ (getD_lt hb1.lt k) hvb
      have HB : Hid _ := hset
      clear hset hb hva
      generalize ns1.getD k 0 = va at *
      generalize ns2.getD k 0 = vb at *
      generalize va ^^^ vb = vx at *
      go_wp2
      refine ⟨⟨k + 1, by omega, by go_num, ht.setCell (.inl (by simp)) _, HB.out⟩, by simp [intOf]; omega⟩
    · have hlt' : ¬ (k : Int) < (n : Int) := by omega
      obtain rfl : k = n := by omega
      go_wp2
      rw [show k = ns1.length by omega] at hb
      rw [xorUp_full (by omega)] at hb
      refine bodyPost_end (results_none rfl _ _ _) rfl ⟨rfl, by first | exact ht | (rw [hv]; exact ht), ?_⟩
      rw [← l1]
      exact hb

end Go.Proofs.YtfbbidaoljfloaaDoor
