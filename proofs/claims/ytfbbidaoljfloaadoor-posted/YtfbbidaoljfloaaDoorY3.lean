import Derived.Test.YtfbbidaoljfloaaDoorY2
namespace Go.Proofs.YtfbbidaoljfloaaDoor
open Go.RowKit

/-- A row of bytes with its room, whoever made it. -/
structure BRow (w : World) (g n cap : Nat) (ns : List Nat) : Prop where
  cells : CellsAt w g 0 ns
  len : ns.length = n
  room : ∀ k, k < cap → (w.cell? ⟨g, k, none⟩).isSome = true ∧ w.frozen? ⟨g, k, none⟩ = false
  le : n ≤ cap

theorem BRow.at {w : World} {g n cap : Nat} {ns : List Nat} (h : BRow w g n cap ns) (k x : Nat) (hx : ns[k]? = some x) : w.cell? ⟨g, k, none⟩ = some (.int .u8 (x : Int)) := by
  have := h.cells.cell k x hx
  rwa [Nat.zero_add] at this

theorem Bytes.brow {w : World} {g n cap : Nat} {ns : List Nat} (h : Bytes w g n cap ns) : BRow w g n cap ns := by
  rcases h.owns.2 with ⟨q, _⟩ | ⟨g2, cap2, cur, q1, q2, q3, q4, q5, q6, q7⟩
  · cases q
  · injection q1 with a1 a2 a3
    obtain rfl : g = g2 := by simpa using a1
    subst a3
    refine ⟨⟨fun k x hx => ?_, h.lt⟩, h.len, fun k hk => ⟨?_, frozen_of_row _ _ _ _ _ q3⟩, q4⟩
    · rw [Nat.zero_add]
      exact owns_cell h.owns rfl (by simp [byteRow, hx])
    · rw [cell_of_row _ _ _ _ _ _ q3]
      have : k < cur.size := by omega
      simp [this]

theorem BRow.turn {S : List Nat} {w w' : World} {g n cap : Nat} {ns : List Nat} (h : BRow w g n cap ns) (hg : g < w.heap.size) (ht : Turn S w w') (hn : g ∉ S) : BRow w' g n cap ns :=
  ⟨h.cells.turn ht hn, h.len, fun k hk => by rw [World.cell?_of_block (ht.block g hg hn), World.frozen?_of_block (ht.block g hg hn)]; exact h.room k hk, h.le⟩

theorem BRow.lt {w : World} {g n cap : Nat} {ns : List Nat} (h : BRow w g n cap ns) (hn : 0 < n) : g < w.heap.size := by
  have h1 := (h.room 0 (by have := h.le; omega)).1
  obtain ⟨v, hv⟩ := Option.isSome_iff_exists.1 h1
  exact World.block_lt_of_cell? w _ hv

/-- One byte more. -/
theorem wpList_append_brow {ops : Array Oper} {rest : List Oper} {o : Oper} {a : Act} {Q : Exit → Act → World → Prop} (w : World) (hgd : o.guard = none) (s x : Operand)
    (ho : o.op = .call { callee := .builtin .append, args := #[s, x], argTypes := #[114, 114] })
    (g n cap v : Nat) (ns : List Nat) (hb : BRow w g n cap ns) (hs : a.eval s = .slice (some ⟨g, 0, none⟩) n cap) (ad : Addr) (hx : a.eval x = .slice (some ad) 1 1) (hv : w.cell? ad = some (.int .u8 (v : Int))) (hv2 : v < 256) (hn : n ≤ 100000) (hn0 : 0 < n)
    (h : ∀ g' c' w', BRow w' g' (n + 1) c' (ns ++ [v]) → Turn [g] w w' → (∀ k, k < n → w'.cell? ⟨g, k, none⟩ = w.cell? ⟨g, k, none⟩) → (g' = g ∨ w.heap.size ≤ g') → wpList Tryd.prog ops Q rest (a.put o.dst (.slice (some ⟨g', 0, none⟩) (n + 1) c')) w') :
    wpList Tryd.prog ops Q (o :: rest) a w := by
  obtain ⟨i0, hi, hz0, hz1, hz2⟩ := info_parts infoByte
  have hl := hb.len
  have hglt := hb.lt hn0
  refine wpList_append_arg w hgd s x 114 ho 5 i0 _ 1 1 Tryd.underlying114 hi hz0 hz1 hz2 rfl (by decide) g 0 n cap (byteRow ns) hs (by rw [byteRow_len]; omega) ?_ ad 1 1 [.int .u8 (v : Int)] hx rfl ?_ (by intro u hu; simp at hu; subst hu; rfl) ?_ (by unfold maxLen; omega) (by omega) ?_ ?_
  · intro j u hu
    obtain ⟨y, hy, rfl⟩ : ∃ y : Nat, ns[j]? = some y ∧ Value.int .u8 (y : Int) = u := by simpa [byteRow] using hu
    exact hb.cells.cell j y hy
  · intro j u hu
    obtain ⟨rfl, rfl⟩ : j = 0 ∧ Value.int .u8 (v : Int) = u := by
      rcases j with _ | j
      · simpa using hu
      · simp at hu
    have : ad.add 0 = ad := by cases ad; rename_i b o sp; cases sp <;> simp [Addr.add]
    rw [this]; exact hv
  · intro hr j hj
    have hj0 : j = 0 := by simpa using hj
    subst hj0
    have := hb.room n (by omega)
    simpa using this
  · intro hr
    have e : w.setCells g (0 + n * 1) [.int .u8 (v : Int)] = w.setCell ⟨g, n, none⟩ (.int .u8 (v : Int)) := by simp [World.setCells]
    rw [e]
    have ht : Turn [g] w (w.setCell ⟨g, n, none⟩ (.int .u8 (v : Int))) := (Turn.refl [g] w).setCell (.inl (by simp)) _
    have hk : ∀ k, k ≠ n → (w.setCell ⟨g, n, none⟩ (.int .u8 (v : Int))).cell? ⟨g, k, none⟩ = w.cell? ⟨g, k, none⟩ := fun k hk => World.cell?_setCell_other _ _ _ _ (by simp only [ne_eq, Addr.mk.injEq]; omega)
    obtain ⟨u0, hu0⟩ := Option.isSome_iff_exists.1 (hb.room n (by omega)).1
    refine h g cap _ ⟨⟨?_, ?_⟩, by simp; omega, ?_, hr⟩ ht (fun k hk' => hk k (by omega)) (.inl rfl)
    · intro k y hy
      rw [Nat.zero_add]
      by_cases hkn : k = n
      · subst hkn
        rw [cellSame hu0]
        have : (ns ++ [v])[k]? = some v := by rw [← hl]; simp
        rw [this] at hy
        simp at hy
        rw [hy]
      · rw [hk k hkn]
        have hlt : k < ns.length := by
          have := (List.getElem?_eq_some_iff.1 hy).1
          simp at this
          omega
        rw [List.getElem?_append_left hlt] at hy
        exact hb.at k y hy
    · intro b hm
      rcases List.mem_append.1 hm with q | q
      · exact hb.cells.lt b q
      · simp at q; omega
    · intro k hk'
      refine ⟨?_, ?_⟩
      · by_cases hkn : k = n
        · subst hkn; rw [cellSame hu0]; rfl
        · rw [hk k hkn]; exact (hb.room k hk').1
      · simp [(hb.room k hk').2]
  · intro hg v' w' hown hgrow
    obtain ⟨g', c', rfl, hge, hlt⟩ := hown.form (by omega)
    have hbb : Bytes w' g' (n + 1) c' (ns ++ [v]) := by
      refine ⟨⟨by rw [byteRow_append]; exact hown.1, ?_⟩, by simp; omega, ?_⟩
      · rcases hown.2 with ⟨q, _⟩ | ⟨g2, cap2, cur, q1, q2, q3⟩
        · cases q
        · exact .inr ⟨g2, cap2, cur, q1, Nat.zero_le _, by rw [byteRow_append]; exact q3⟩
      · intro b hm
        rcases List.mem_append.1 hm with q | q
        · exact hb.cells.lt b q
        · simp at q; omega
    have hb0 : ∀ k, k < w.heap.size → w'.heap[k]? = w.heap[k]? := fun k hk => hgrow.block k hk (by simp)
    exact h g' c' w' hbb.brow ⟨hgrow.os, hgrow.tape, hgrow.output, hgrow.size, fun k hk _ => hb0 k hk⟩ (fun k _ => World.cell?_of_block (hb0 g hglt)) (.inr hge)

set_option maxRecDepth 100000 in
set_option maxHeartbeats 800000 in
theorem appendNumber_brow (g0 n c0 k x : Nat) (ns : List Nat) (w : World) (h : BRow w g0 n c0 ns) (hx : x < 4294967296) (hk : k ≤ 4) (hn : n ≤ 10000) (hn0 : 0 < n) :
    Calls Tryd.prog 101 #[.slice (some ⟨g0, 0, none⟩) n c0, .int .u32 x, .int .i64 k] w fun e w' => ∃ g c, e = .returned (.slice (some ⟨g, 0, none⟩) (n + k) c) ∧ Turn [g0] w w' ∧ BRow w' g (n + k) c (ns ++ leBytes k x) ∧ (g = g0 ∨ w.heap.size ≤ g) ∧ (∀ i, i < n → w'.cell? ⟨g0, i, none⟩ = w.cell? ⟨g0, i, none⟩) := by
  have hg0 := h.lt hn0
  go_enter Tryd.func101, Tryd.ntmps101
  go_wp2
  go_loopw [0, 1, 8] (fun t r i wr => ∃ (j g c x' : Nat) (ms : List Nat), j ≤ k ∧ i = .int .i64 j ∧ t = .slice (some ⟨g, 0, none⟩) (n + j) c ∧ r = .int .u32 x' ∧ x' < 4294967296 ∧ BRow wr g (n + j) c ms ∧ ms ++ leBytes (k - j) x' = ns ++ leBytes k x ∧ Turn [g0] w wr ∧ (g = g0 ∨ w.heap.size ≤ g) ∧ (∀ i, i < n → wr.cell? ⟨g0, i, none⟩ = w.cell? ⟨g0, i, none⟩)) (fun _ _ i _ => k - (intOf i).toNat)
  case atStart => exact ⟨0, g0, c0, x, ns, Nat.zero_le _, rfl, rfl, rfl, hx, h, rfl, Turn.refl _ _, .inl rfl, fun _ _ => rfl⟩
  case round =>
    obtain ⟨j, g, c, x', ms, hj, rfl, rfl, rfl, hx', hb, hms, ht, hg, hkp⟩ := hrel
    have HM : Hid (ms ++ leBytes (k - j) x' = ns ++ leBytes k x) := hms
    have HK : Hid (∀ i, i < n → wr.cell? ⟨g0, i, none⟩ = w.cell? ⟨g0, i, none⟩) := hkp
    clear hms hkp
    by_cases hlt : j < k
    · have hlt' : (j : Int) < (k : Int) := by omega
      have hglt := hb.lt (by omega)
      go_wp2_with (at_builtin; refine wpList_append_brow _ rfl _ _ rfl g (n + j) c (x' % 256) ms (hb.turn hglt ((Turn.refl [] wr).alloc _) (by simp)) rfl ⟨wr.heap.size, 0, none⟩ rfl (by rw [cell_of_row _ _ _ _ _ _ (heap_alloc_new wr _)]; simp) (by omega) (by omega) (by omega) ?_; intro g' c' w2 hown hgrow hkeep hat)
      refine ⟨⟨j + 1, g', c', x' / 256, ms ++ [x' % 256], by omega, by go_num, rfl, by go_num, by omega, hown, ?_, ?_, ?_, ?_⟩, by simp [intOf]; omega⟩
      · rw [← HM.out, show k - j = (k - (j + 1)) + 1 by omega, leBytes]
        simp
      · exact (ht.alloc _).trans hgrow (fun y hy => by simp at hy; subst hy; simpa using hg)
      · rcases hat with q | q
        · subst q; exact hg
        · right; have := ht.size; simp at q; omega
      · intro i hi
        have e1 : (wr.alloc (.cells #[.int .u8 ((x' : Int) % 256)] 5)).cell? ⟨g0, i, none⟩ = w.cell? ⟨g0, i, none⟩ := by
          rw [← HK.out i hi]
          exact World.cell?_of_block (heap_alloc_old _ _ (Nat.lt_of_lt_of_le hg0 ht.size))
        rw [← e1]
        by_cases hgg : g = g0
        · subst hgg; exact hkeep i (by omega)
        · exact World.cell?_of_block (hgrow.block g0 (by have := ht.size; simp; omega) (by simpa using fun e => hgg e.symm))
    · have hlt' : ¬ (j : Int) < (k : Int) := by omega
      obtain rfl : j = k := by omega
      go_wp2
      go_ret
      refine ⟨g, c, rfl, ht, ?_, hg, HK.out⟩
      have e := HM.out
      rw [show j - j = 0 by omega, leBytes, List.append_nil] at e
      rw [← e]
      exact hb

theorem BRow.conv {w : World} {g n c : Nat} {ns : List Nat} (h : BRow w g n c ns) : (convert 114 9 (.slice (some ⟨g, 0, none⟩) n c)).run Tryd.prog w = .ok (.string (strOf ns)) w :=
  run_convert_bytes_arg (P := Tryd.prog) w 114 5 Tryd.underlying114 Tryd.underlying5 g 0 n c (ns.map (fun b : Nat => (b : Int))) (by simpa using h.len) (fun i hi => by
    have hl := h.len
    rw [Nat.zero_add]
    exact (h.at i (ns[i]'(by omega)) (by simp)).trans (by simp [List.getElem?_eq_getElem (show i < ns.length by omega)])) 9 Tryd.underlying9

set_option maxRecDepth 100000 in
set_option maxHeartbeats 400000 in
theorem seal_brow (g0 n c0 : Nat) (ns : List Nat) (w : World) (h : BRow w g0 n c0 ns) (hn : n ≤ 10000) (hn0 : 0 < n) :
    Calls Tryd.prog 75 #[.slice (some ⟨g0, 0, none⟩) n c0] w fun e w' => e = .returned (.string (strOf (ns ++ leBytes 4 (crc ns)))) ∧ Turn [g0] w w' ∧ (∀ i, i < n → w'.cell? ⟨g0, i, none⟩ = w.cell? ⟨g0, i, none⟩) := by
  have hcl : crc ns < 4294967296 := xor_lt32 _ _ (by decide) (crcRest_lt ns h.cells.lt)
  go_enter Tryd.func75, Tryd.ntmps75
  go_wp2_with fail
  refine (check_cells g0 n c0 ns _ h.len h.cells.lt (by omega) h.at).mono ?_
  rintro e w1 ⟨rfl, rfl⟩
  go_wp2_with fail
  refine (appendNumber_brow g0 n c0 4 (crc ns) ns _ h hcl (by omega) hn hn0).mono ?_
  rintro e w2 ⟨g, c, rfl, ht, hb, hg, hkp⟩
  have hcv := hb.conv
  have HK : Hid _ := hkp
  clear hkp
  go_wp2
  go_ret
  exact ⟨rfl, ht, HK.out⟩

end Go.Proofs.YtfbbidaoljfloaaDoor
