import Derived.Test.YtfbbidaoljfloaaDoorY2
namespace Go.Proofs.YtfbbidaoljfloaaDoor
open Go.RowKit

/-- A row of bytes with its room, whoever made it. -/
structure BRow (w : World) (g n cap : Nat) (ns : List Nat) : Prop where
  cells : CellsAt w g 0 ns
  len : ns.length = n
  room : ∀ k, k < cap → (w.cell? ⟨g, k, none⟩).isSome = true ∧ w.frozen? ⟨g, k, none⟩ = false
  le : n ≤ cap

theorem BRow.at {w : World} {g n cap : Nat} {ns : List Nat} (h : BRow w g n cap ns) (k x : Nat) (hx : ns[k]? = some x) : w.cell? ⟨g, k, none⟩ = some (.int .u8 (x : Int)) := by
  have := h.cells.cell k x hx
  rwa [Nat.zero_add] at this

theorem Bytes.brow {w : World} {g n cap : Nat} {ns : List Nat} (h : Bytes w g n cap ns) : BRow w g n cap ns := by
  rcases h.owns.2 with ⟨q, _⟩ | ⟨g2, cap2, cur, q1, q2, q3, q4, q5, q6, q7⟩
  · cases q
  · injection q1 with a1 a2 a3
    obtain rfl : g = g2 := by simpa using a1
    subst a3
    refine ⟨⟨fun k x hx => ?_, h.lt⟩, h.len, fun k hk => ⟨?_, frozen_of_row _ _ _ _ _ q3⟩, q4⟩
    · rw [Nat.zero_add]
      exact owns_cell h.owns rfl (by simp [byteRow, hx])
    · rw [cell_of_row _ _ _ _ _ _ q3]
      have : k < cur.size := by omega
      simp [this]

theorem BRow.turn {S : List Nat} {w w' : World} {g n cap : Nat} {ns : List Nat} (h : BRow w g n cap ns) (hg : g < w.heap.size) (ht : Turn S w w') (hn : g ∉ S) : BRow w' g n cap ns :=
  ⟨h.cells.turn ht hn, h.len, fun k hk => by rw [World.cell?_of_block (ht.block g hg hn), World.frozen?_of_block (ht.block g hg hn)]; exact h.room k hk, h.le⟩

theorem BRow.lt {w : World} {g n cap : Nat} {ns : List Nat} (h : BRow w g n cap ns) (hn : 0 < n) : g < w.heap.size := by
  have h1 := (h.room 0 (by have := h.le; omega)).1
  obtain ⟨v, hv⟩ := Option.isSome_iff_exists.1 h1
  exact World.block_lt_of_cell? w _ hv

/-- One byte more. -/
theorem wpList_append_brow {ops : Array Oper} {rest : List Oper} {o : Oper} {a : Act} {Q : Exit → Act → World → Prop} (w : World) (hgd : o.guard = none) (s x : Operand)
    (ho : o.op = .call { callee := .builtin .append, args := #[s, x], argTypes := #[114, 114] })
    (g n cap v : Nat) (ns : List Nat) (hb : BRow w g n cap ns) (hs : a.eval s = .slice (some ⟨g, 0, none⟩) n cap) (ad : Addr) (hx : a.eval x = .slice (some ad) 1 1) (hv : w.cell? ad = some (.int .u8 (v : Int))) (hv2 : v < 256) (hn : n ≤ 100000) (hn0 : 0 < n)
    (h : ∀ g' c' w', BRow w' g' (n + 1) c' (ns ++ [v]) → Turn [g] w w' → (∀ k, k < n → w'.cell? ⟨g, k, none⟩ = w.cell? ⟨g, k, none⟩) → (g' = g ∨ w.heap.size ≤ g') → wpList Tryd.prog ops Q rest (a.put o.dst (.slice (some ⟨g', 0, none⟩) (n + 1) c')) w') :
    wpList Tryd.prog ops Q (o :: rest) a w := by
  obtain ⟨i0, hi, hz0, hz1, hz2⟩ := info_parts infoByte
  have hl := hb.len
  have hglt := hb.lt hn0
  refine wpList_append_arg w hgd s x 114 ho 5 i0 _ 1 1 Tryd.underlying114 hi hz0 hz1 hz2 rfl (by decide) g 0 n cap (byteRow ns) hs (by rw [byteRow_len]; omega) ?_ ad 1 1 [.int .u8 (v : Int)] hx rfl ?_ (by intro u hu; simp at hu; subst hu; rfl) ?_ (by unfold maxLen; omega) (by omega) ?_ ?_
  · intro j u hu
    obtain ⟨y, hy, rfl⟩ : ∃ y : Nat, ns[j]? = some y ∧ Value.int .u8 (y : Int) = u := by simpa [byteRow] using hu
    exact hb.cells.cell j y hy
  · intro j u hu
    obtain ⟨rfl, rfl⟩ : j = 0 ∧ Value.int .u8 (v : Int) = u := by
      rcases j with _ | j
      · simpa using hu
      · simp at hu
    have : ad.add 0 = ad := by cases ad; rename_i b o sp; cases sp <;> simp [Addr.add]
    rw [this]; exact hv
  · intro hr j hj
    have hj0 : j = 0 := by simpa using hj
    subst hj0
    have := hb.room n (by omega)
    simpa using this
  · intro hr
    have e : w.setCells g (0 + n * 1) [.int .u8 (v : Int)] = w.setCell ⟨g, n, none⟩ (.int .u8 (v : Int)) := by simp [World.setCells]
    rw [e]
    have ht : Turn [g] w (w.setCell ⟨g, n, none⟩ (.int .u8 (v : Int))) := (Turn.refl [g] w).setCell (.inl (by simp)) _
    have hk : ∀ k, k ≠ n → (w.setCell ⟨g, n, none⟩ (.int .u8 (v : Int))).cell? ⟨g, k, none⟩ = w.cell? ⟨g, k, none⟩ := fun k hk => World.cell?_setCell_other _ _ _ _ (by simp only [ne_eq, Addr.mk.injEq]; omega)
    obtain ⟨u0, hu0⟩ := Option.isSome_iff_exists.1 (hb.room n (by omega)).1
    refine h g cap _ ⟨⟨?_, ?_⟩, by simp; omega, ?_, hr⟩ ht (fun k hk' => hk k (by omega)) (.inl rfl)
    · intro k y hy
      rw [Nat.zero_add]
      by_cases hkn : k = n
      · subst hkn
        rw [cellSame hu0]
        have : (ns ++ [v])[k]? = some v := by rw [← hl]; simp
        rw [this] at hy
        simp at hy
        rw [hy]
      · rw [hk k hkn]
        have hlt : k < ns.length := by
          have := (List.getElem?_eq_some_iff.1 hy).1
          simp at this
          omega
        rw [List.getElem?_append_left hlt] at hy
        exact hb.at k y hy
    · intro b hm
      rcases List.mem_append.1 hm with q | q
      · exact hb.cells.lt b q
      · simp at q; omega
    · intro k hk'
      refine ⟨?_, ?_⟩
      · by_cases hkn : k = n
        · subst hkn; rw [cellSame hu0]; rfl
        · rw [hk k hkn]; exact (hb.room k hk').1
      · simp [(hb.room k hk').2]
  · intro hg v' w' hown hgrow
    obtain ⟨g', c', rfl, hge, hlt⟩ := hown.form (by omega)
    have hbb : Bytes w' g' (n + 1) c' (ns ++ [v]) := by
      refine ⟨⟨by rw [byteRow_append]; exact hown.1, ?_⟩, by simp; omega, ?_⟩
      · rcases hown.2 with ⟨q, _⟩ | ⟨g2, cap2, cur, q1, q2, q3⟩
        · cases q
        · exact .inr ⟨g2, cap2, cur, q1, Nat.zero_le _, by rw [byteRow_append]; exact q3⟩
      · intro b hm
        rcases List.mem_append.1 hm with q | q
        · exact hb.cells.lt b q
        · simp at q; omega
    have hb0 : ∀ k, k < w.heap.size → w'.heap[k]? = w.heap[k]? := fun k hk => hgrow.block k hk (by simp)
    exact h g' c' w' hbb.brow ⟨hgrow.os, hgrow.tape, hgrow.output, hgrow.size, fun k hk _ => hb0 k hk⟩ (fun k _ => World.cell?_of_block (hb0 g hglt)) (.inr hge)

set_option maxRecDepth 100000 in
set_option maxHeartbeats 800000 in
theorem appendNumber_brow (g0 n c0 k x : Nat) (ns : List Nat) (w : World) (h : BRow w g0 n c0 ns) (hx : x < 4294967296) (hk : k ≤ 4) (hn : n ≤ 10000) (hn0 : 0 < n) :
    Calls Tryd.prog 101 #[.slice (some ⟨g0, 0, none⟩) n c0, .int .u32 x, .int .i64 k] w fun e w' => ∃ g c, e = .returned (.slice (some ⟨g, 0, none⟩) (n + k) c) ∧ Turn [g0] w w' ∧ BRow w' g (n + k) c (ns ++ leBytes k x) ∧ (g = g0 ∨ w.heap.size ≤ g) ∧ (∀ i, i < n → w'.cell? ⟨g0, i, none⟩ = w.cell? ⟨g0, i, none⟩) := by
  have hg0 := h.lt hn0
  go_enter Tryd.func101, Tryd.ntmps101
  go_wp2
  go_loopw [0, 1, 8] (fun t r i wr => ∃ (j g c x' : Nat) (ms : List Nat), j ≤ k ∧ i = .int .i64 j ∧ t = .slice (some ⟨g, 0, none⟩) (n + j) c ∧ r = .int .u32 x' ∧ x' < 4294967296 ∧ BRow wr g (n + j) c ms ∧ ms ++ leBytes (k - j) x' = ns ++ leBytes k x ∧ Turn [g0] w wr ∧ (g = g0 ∨ w.heap.size ≤ g) ∧ (∀ i, i < n → wr.cell? ⟨g0, i, none⟩ = w.cell? ⟨g0, i, none⟩)) (fun _ _ i _ => k - (intOf i).toNat)
  case atStart => exact ⟨0, g0, c0, x, ns, Nat.zero_le _, rfl, rfl, rfl, hx, h, rfl, Turn.refl _ _, .inl rfl, fun _ _ => rfl⟩
  case round =>
    obtain ⟨j, g, c, x', ms, hj, rfl, rfl, rfl, hx', hb, hms, ht, hg, hkp⟩ := hrel
    have HM : Hid (ms ++ leBytes (k - j) x' = ns ++ leBytes k x) := hms
    have HK : Hid (∀ i, i < n → wr.cell? ⟨g0, i, none⟩ = w.cell? ⟨g0, i, none⟩) := hkp
    clear hms hkp
    by_cases hlt : j < k
    · have hlt' : (j : Int) < (k : Int) := by omega
      have hglt := hb.lt (by omega)
      go_wp2_with (at_builtin; refine wpList_append_brow _ rfl _ _ rfl g (n + j) c (x' % 256) ms (hb.turn hglt ((Turn.refl [] wr).alloc _) (by simp)) rfl ⟨wr.heap.size, 0, none⟩ rfl (by rw [cell_of_row _ _ _ _ _ _ (heap_alloc_new wr _)]; simp) (by omega) (by omega) (by omega) ?_; intro g' c' w2 hown hgrow hkeep hat)
      refine ⟨⟨j + 1, g', c', x' / 256, ms ++ [x' % 256], by omega, by go_num, rfl, by go_num, by omega, hown, ?_, ?_, ?_, ?_⟩, by simp [intOf]; omega⟩
      · rw [← HM.out, show k - j = (k - (j + 1)) + 1 by omega, leBytes]
        simp
      · exact (ht.alloc _).trans hgrow (fun y hy => by simp at hy; subst hy; simpa using hg)
      · rcases hat with q | q
        · subst q; exact hg
        · right; have := ht.size; simp at q; omega
      · intro i hi
        have e1 : (wr.alloc (.cells #[.int .u8 ((x' : Int) % 256)] 5)).cell? ⟨g0, i, none⟩ = w.cell? ⟨g0, i, none⟩ := by
          rw [← HK.out i hi]
          exact World.cell?_of_block (heap_alloc_old _ _ (Nat.lt_of_lt_of_le hg0 ht.size))
        rw [← e1]
        by_cases hgg : g = g0
        · subst hgg; exact hkeep i (by omega)
        · exact World.cell?_of_block (hgrow.block g0 (by have := ht.size; simp; omega) (by simpa using fun e => hgg e.symm))
    · have hlt' : ¬ (j : Int) < (k : Int) := by omega
      obtain rfl : j = k := by omega
      go_wp2
      go_ret
      refine ⟨g, c, rfl, ht, ?_, hg, HK.out⟩
      have e := HM.out
      rw [show j - j = 0 by omega, leBytes, List.append_nil] at e
      rw [← e]
      exact hb

theorem BRow.conv {w : World} {g n c : Nat} {ns : List Nat} (h : BRow w g n c ns) : (convert 114 9 (.slice (some ⟨g, 0, none⟩) n c)).run Tryd.prog w = .ok (.string (strOf ns)) w :=
  run_convert_bytes_arg (P := Tryd.prog) w 114 5 Tryd.underlying114 Tryd.underlying5 g 0 n c (ns.map (fun b : Nat => (b : Int))) (by simpa using h.len) (fun i hi => by
    have hl := h.len
    rw [Nat.zero_add]
    exact (h.at i (ns[i]'(by omega)) (by simp)).trans (by simp [List.getElem?_eq_getElem (show i < ns.length by omega)])) 9 Tryd.underlying9

set_option maxRecDepth 100000 in
set_option maxHeartbeats 400000 in
theorem seal_brow (g0 n c0 : Nat) (ns : List Nat) (w : World) (h : BRow w g0 n c0 ns) (hn : n ≤ 10000) (hn0 : 0 < n) :
    Calls Tryd.prog 75 #[.slice (some ⟨g0, 0, none⟩) n c0] w fun e w' => e = .returned (.string (strOf (ns ++ leBytes 4 (crc ns)))) ∧ Turn [g0] w w' ∧ (∀ i, i < n → w'.cell? ⟨g0, i, none⟩ = w.cell? ⟨g0, i, none⟩) := by
  have hcl : crc ns < 4294967296 := xor_lt32 _ _ (by decide) (crcRest_lt ns h.cells.lt)
  go_enter Tryd.func75, Tryd.ntmps75
  go_wp2_with fail
  refine (check_cells g0 n c0 ns _ h.len h.cells.lt (by omega) h.at).mono ?_
  rintro e w1 ⟨rfl, rfl⟩
  go_wp2_with fail
  refine (appendNumber_brow g0 n c0 4 (crc ns) ns _ h hcl (by omega) hn hn0).mono ?_
  rintro e w2 ⟨g, c, rfl, ht, hb, hg, hkp⟩
  have hcv := hb.conv
  have HK : Hid _ := hkp
  clear hkp
  go_wp2
  go_ret
  exact ⟨rfl, ht, HK.out⟩

end Go.Proofs.YtfbbidaoljfloaaDoor


namespace Go.Proofs.YtfbbidaoljfloaaDoor
open Go.RowKit

/-- The number that bytes stand for, the lowest first. -/
def leVal : List Nat → Nat
  | [] => 0
  | b :: l => b + 256 * leVal l
theorem leVal_lt (l : List Nat) (h : ∀ b ∈ l, b < 256) : leVal l < 256 ^ l.length := by
  induction l with
  | nil => simp [leVal]
  | cons b l ih =>
    have h1 := h b (by simp)
    have h2 := ih (fun x hx => h x (by simp [hx]))
    simp only [leVal, List.length_cons, Nat.pow_succ]
    omega
theorem leVal_snoc (l : List Nat) (b : Nat) : leVal (l ++ [b]) = leVal l + 256 ^ l.length * b := by
  induction l with
  | nil => simp [leVal]
  | cons c l ih =>
    simp only [List.cons_append, leVal, ih, List.length_cons, Nat.pow_succ, Nat.mul_add]
    rw [Nat.mul_comm (256 ^ l.length) 256, Nat.mul_assoc]
    omega
theorem leVal_leBytes (k x : Nat) (h : x < 256 ^ k) : leVal (leBytes k x) = x := by
  induction k generalizing x with
  | zero => simp at h; simp [leBytes, leVal, h]
  | succ k ih =>
    rw [Nat.pow_succ] at h
    simp only [leBytes, leVal]
    rw [ih (x / 256) (by omega)]
    omega
theorem leVal_or (l : List Nat) (b : Nat) (h : ∀ x ∈ l, x < 256) : leVal l ||| (b * 2 ^ (8 * l.length)) = leVal (l ++ [b]) := by
  have h1 := leVal_lt l h
  have e : (256 : Nat) ^ l.length = 2 ^ (8 * l.length) := by rw [show (256 : Nat) = 2 ^ 8 by decide, ← Nat.pow_mul]
  rw [leVal_snoc, e, Nat.mul_comm b, Nat.or_comm, ← Nat.two_pow_add_eq_or_of_lt (by rw [← e]; exact h1), Nat.add_comm]

set_option maxRecDepth 100000 in
set_option maxHeartbeats 400000 in
theorem cut_any (g off n cap k : Nat) (ns : List Nat) (w : World) (h : CellsAt w g off ns) (hl : ns.length = k) (hk : k ≤ 4) (hk0 : 0 < k) (hn : k < n) (hcap : n ≤ cap) (hcm : cap ≤ 9223372036854775807) :
    Calls Tryd.prog 76 #[.slice (some ⟨g, off, none⟩) n cap, .int .i64 k] w fun e w' => e = .returned (.tuple #[.int .u32 (leVal ns), .slice (some ⟨g, off + k, none⟩) (n - k : Nat) (cap - k : Nat)]) ∧ Below w.heap.size w w' := by
  have b1 : (0 : Int) ≤ (k : Int) := by omega
  have b2 : (k : Int) ≤ (n : Int) := by omega
  have b3 : (k : Int) ≤ (cap : Int) := by omega
  have b4 : (n : Int) ≤ (cap : Int) := by omega
  have b5 : ¬ cap = k := by omega
  have b6 : ¬ cap = 0 := by omega
  go_enter Tryd.func76, Tryd.ntmps76
  go_wp2_with fail
  go_loop [6, 13] (fun r i => ∃ j : Nat, j ≤ k ∧ i = .int .i64 j ∧ r = .int .u32 (leVal (ns.take j))) (fun _ i => k - (intOf i).toNat)
  case atStart => exact ⟨0, Nat.zero_le _, rfl, by simp [leVal]⟩
  case round =>
    obtain ⟨j, hj, rfl, rfl⟩ := hrel
    by_cases hlt : j < k
    · have hlt' : (j : Int) < (k : Int) := by omega
      have hj0 : (0 : Int) ≤ (j : Int) := by omega
      obtain ⟨x, hx⟩ : ∃ x, ns[j]? = some x := ⟨ns[j]'(by omega), by simp⟩
      have hc := h.cell j x hx
      have hxl := h.lt x (List.mem_of_getElem? hx)
      have HS : Hid (leVal (ns.take (j + 1)) = leVal (ns.take j) ||| (x * 2 ^ (8 * j))) := by
        have e := leVal_or (ns.take j) x (fun y hy => h.lt y (List.mem_of_mem_take hy))
        rw [List.length_take, show min j ns.length = j by omega] at e
        rw [Hid, e, List.take_add_one, hx]
        rfl
      go_wp2_with fail
      refine ⟨⟨j + 1, by omega, by go_num, ?_⟩, by simp [intOf]; omega⟩
      have hp : x * 2 ^ (8 * j) < 4294967296 := by
        have h1 : 2 ^ (8 * j) ≤ 2 ^ 24 := Nat.pow_le_pow_right (by decide) (by omega)
        have h2 : x * 2 ^ (8 * j) ≤ 255 * 2 ^ 24 := Nat.mul_le_mul (by omega) h1
        omega
      have hl2 : leVal (ns.take j) < 4294967296 := by
        have h1 := leVal_lt (ns.take j) (fun y hy => h.lt y (List.mem_of_mem_take hy))
        refine Nat.lt_of_lt_of_le h1 (Nat.le_trans (Nat.pow_le_pow_right (by decide) (show (ns.take j).length ≤ 4 by simp; omega)) (by decide))
      have e : ((x : Int) * 2 ^ (8 * j) % 4294967296) = ((x * 2 ^ (8 * j) : Nat) : Int) := by
        rw [show (x : Int) * 2 ^ (8 * j) = ((x * 2 ^ (8 * j) : Nat) : Int) by simp]
        omega
      rw [e, HS.out]
      exact congrArg _ (u32_or_nat _ _ hl2 hp)
    · have hlt' : ¬ (j : Int) < (k : Int) := by omega
      obtain rfl : j = k := by omega
      have HK : Hid (ns.take j = ns) := List.take_of_length_le (by omega)
      go_wp2_with fail
      go_quiet (fail)
      go_wp2
      refine bodyPost_ret (results_tmp2 rfl _ _ _) rfl ⟨?_, (Below.refl _ _).drewN _⟩
      simp only [HK.out]
      rfl

/-- A text's bytes, as numbers. -/
def bytesOf (s : ByteArray) : List Nat := s.data.toList.map UInt8.toNat
theorem bytesOf_len (s : ByteArray) : (bytesOf s).length = s.size := by
  unfold bytesOf
  rw [List.length_map, Array.length_toList]
  rfl
theorem bytesOf_lt (s : ByteArray) : ∀ b ∈ bytesOf s, b < 256 := by
  intro b hb
  simp [bytesOf] at hb
  obtain ⟨x, _, rfl⟩ := hb
  exact UInt8.toNat_lt _

theorem bytesOf_strOf (ns : List Nat) (h : ∀ b ∈ ns, b < 256) : bytesOf (strOf ns) = ns := by
  unfold bytesOf strOf
  rw [strOfNums_data, List.map_map, List.map_map]
  conv => rhs; rw [← List.map_id ns]
  apply List.map_congr_left
  intro b hb
  have := h b hb
  simp
  omega
theorem bytesOf_inj {a b : ByteArray} (h : bytesOf a = bytesOf b) : a = b := by
  unfold bytesOf at h
  have h1 : a.data.toList = b.data.toList := by
    have hi : Function.Injective UInt8.toNat := fun x y e => UInt8.toNat_inj.1 e
    exact (List.map_inj_right (fun x y e => hi e)).1 h
  cases a
  cases b
  simp at h1
  rw [h1]

theorem conv_row (s : ByteArray) (w : World) (hs : s.size ≤ 100000) : ∃ cap w', (convert 9 114 (.string s)).run Tryd.prog w = .ok (.slice (some ⟨w.heap.size, 0, none⟩) s.size cap) w' ∧ BRow w' w.heap.size s.size cap (bytesOf s) ∧ Below w.heap.size w w' ∧ cap ≤ maxLen ∧ w.heap.size < w'.heap.size := by
  have hcm := grownCap_le_maxLen w s.size 0 5 (by unfold maxLen; omega)
  have hge := grownCap_ge w s.size 0 5
  refine ⟨_, _, run_bytes_of_string (P := Tryd.prog) w 9 114 5 s Tryd.underlying9 Tryd.underlying114 Tryd.underlying5, ?_, ?_, hcm, by simp⟩
  · have hb : (w.drew.alloc (.cells (bytesRow s (grownCap w s.size 0 5)) 5 ((bytesRow s (grownCap w s.size 0 5)).size, (bytesRow s (grownCap w s.size 0 5)).size + 1))).heap[w.heap.size]? = some (.cells (bytesRow s (grownCap w s.size 0 5)) 5 ((bytesRow s (grownCap w s.size 0 5)).size, (bytesRow s (grownCap w s.size 0 5)).size + 1)) := heap_alloc_new w.drew _
    have hsz : (bytesRow s (grownCap w s.size 0 5)).size = grownCap w s.size 0 5 := by
      simp [bytesRow]
      have : s.data.size = s.size := rfl
      omega
    refine ⟨⟨fun k x hx => ?_, bytesOf_lt s⟩, bytesOf_len s, fun k hk => ⟨?_, ?_⟩, hge⟩
    · rw [Nat.zero_add, cell_of_row _ _ _ _ _ _ hb]
      obtain ⟨y, hy, rfl⟩ : ∃ y, s.data.toList[k]? = some y ∧ y.toNat = x := by simpa [bytesOf] using hx
      have hk : k < s.data.size := by
        have := (List.getElem?_eq_some_iff.1 hy).1
        simpa using this
      unfold bytesRow
      rw [Array.getElem?_append_left (by simpa using hk)]
      simp at hy
      simp [hy]
    · rw [cell_of_row _ _ _ _ _ _ hb]
      simp [hsz, hk]
    · unfold World.frozen?
      rw [hb]
      simp [hsz]
      omega
  · exact ((Below.refl _ _).drew).alloc (Nat.le_refl _) _

set_option maxHeartbeats 400000 in
theorem read_len (text : ByteArray) (blk : Nat) (w : World) (h1 : 1 ≤ blk) (h2 : blk ≤ 32) (hl : text.size ≠ blk + 13) (_hm : text.size ≤ 4611686018427387904) :
    Calls Tryd.prog 45 #[.string text, .int .i64 blk] w fun e w' => e = .returned (.tuple #[.agg #[.int .i64 0, .int .i64 0, .int .u32 0, .slice none 0 0], .bool false]) ∧ Below w.heap.size w w' := by
  have q : ((text.size : Int) != 9 + (blk : Int) + 4) = true := by rw [bne_iff_ne]; omega
  go_enter Tryd.func45, Tryd.ntmps45
  go_wp2
  exact bodyPost_ret (v := .tuple #[.agg #[.int .i64 0, .int .i64 0, .int .u32 0, .slice none 0 0], .bool false]) (by simp [results, Tryd.results45, go_sem]) rfl ⟨rfl, (Below.refl _ _).alloc (Nat.le_refl _) _⟩

theorem bytesOf_take (s : ByteArray) (n : Nat) : bytesOf (s.extract 0 n) = (bytesOf s).take n := by
  unfold bytesOf
  rw [ByteArray.data_extract, Array.toList_extract, List.map_take]
  simp

/-- What a frame of an object tells. -/
def readS (bs : List Nat) (blk : Nat) : Option (Nat × Nat × Nat × List Nat) :=
  if bs.length = blk + 13 ∧ bs.getD 0 0 = 1 ∧ bs.take (blk + 9) ++ leBytes 4 (crc (bs.take (blk + 9))) = bs then
    some (leVal ((bs.drop 1).take 2), leVal ((bs.drop 3).take 2), leVal ((bs.drop 5).take 4), (bs.drop 9).take blk)
  else none

/-- The result's cells. -/
theorem sumCells {w : World} {b : Nat} {v0 v1 v2 v3 : Value} (h : w.heap[b]? = some (.cells #[v0, v1, v2, v3] 125 (0, 0))) :
    w.cell? ⟨b, 0, none⟩ = some v0 ∧ w.cell? ⟨b, 1, none⟩ = some v1 ∧ w.cell? ⟨b, 2, none⟩ = some v2 ∧ w.cell? ⟨b, 3, none⟩ = some v3 ∧ (∀ j, w.frozen? ⟨b, j, none⟩ = false) :=
  ⟨by rw [cell_of_row _ _ _ _ _ _ h]; rfl, by rw [cell_of_row _ _ _ _ _ _ h]; rfl, by rw [cell_of_row _ _ _ _ _ _ h]; rfl, by rw [cell_of_row _ _ _ _ _ _ h]; rfl, fun j => frozen_of_row _ _ _ _ _ h⟩

set_option maxRecDepth 100000 in
set_option maxHeartbeats 400000 in
theorem read_kind (text : ByteArray) (blk : Nat) (w : World) (h1 : 1 ≤ blk) (h2 : blk ≤ 32) (hl : text.size = blk + 13) (hk : (bytesOf text).getD 0 0 ≠ 1) :
    Calls Tryd.prog 45 #[.string text, .int .i64 blk] w fun e w' => e = .returned (.tuple #[.agg #[.int .i64 0, .int .i64 0, .int .u32 0, .slice none 0 0], .bool false]) ∧ Below w.heap.size w w' := by
  have q : ((text.size : Int) != 9 + (blk : Int) + 4) = false := by rw [bne_eq_false_iff_eq]; omega
  have hlen := bytesOf_len text
  obtain ⟨cap, w2, hcv, hrow, hbe, hcm, hlt⟩ := conv_row (text.extract 0 (blk + 9)) (w.alloc (.cells #[.int .i64 0, .int .i64 0, .int .u32 0, .slice none 0 0] 125)) (by rw [ByteArray.size_extract]; omega)
  rw [bytesOf_take, ByteArray.size_extract, show min (blk + 9) text.size - 0 = blk + 9 by omega] at hrow
  rw [ByteArray.size_extract, show min (blk + 9) text.size - 0 = blk + 9 by omega] at hcv
  have c0 : w2.cell? ⟨w.heap.size + 1, 0, none⟩ = some (.int .u8 (((bytesOf text).getD 0 0 : Nat) : Int)) := by
    have := hrow.at 0 ((bytesOf text).getD 0 0) (by rw [List.getElem?_take_of_lt (by omega)]; simp [List.getD, show 0 < (bytesOf text).length by omega])
    simpa using this
  have q2 : ((((bytesOf text).getD 0 0 : Nat) : Int) != 1) = true := by rw [bne_iff_ne]; omega
  have HS : Hid (text.size = blk + 13) := hl
  have a1 : (0 : Int) ≤ (text.size : Int) - 4 := by omega
  have a2 : (text.size : Int) - 4 ≤ (text.size : Int) := by omega
  have a3 : ((text.size : Int) - 4).toNat = blk + 9 := by omega
  obtain ⟨r0, r1, r2, r3, rf⟩ := sumCells (w := w2) (b := w.heap.size) ((hbe.block w.heap.size (by simp)).trans (heap_alloc_new w _))
  have HB : Hid _ := hbe
  clear hl hk hlen hbe hrow
  generalize (bytesOf text).getD 0 0 = b0 at *
  go_enter Tryd.func45, Tryd.ntmps45
  go_wp2
  refine bodyPost_ret (v := .tuple #[.agg #[.int .i64 0, .int .i64 0, .int .u32 0, .slice none 0 0], .bool false]) (by simp [results, Tryd.results45, go_sem, r0, r1, r2, r3]) rfl ⟨rfl, ?_⟩
  have hb1 := ((Below.refl w.heap.size w).alloc (Nat.le_refl _) (.cells #[.int .i64 0, .int .i64 0, .int .u32 0, .slice none 0 0] 125)).trans (HB.out.mono (by simp))
  exact (((hb1.setCell (Nat.le_refl _) _).setCell (Nat.le_refl _) _).setCell (Nat.le_refl _) _).setCell (Nat.le_refl _) _

theorem str_eq {ns : List Nat} {t : ByteArray} (h : ∀ b ∈ ns, b < 256) : ((strOf ns).toList == t.toList) = decide (ns = bytesOf t) := by
  by_cases e : ns = bytesOf t
  · have : strOf ns = t := bytesOf_inj (by rw [bytesOf_strOf _ h, e])
    rw [this]
    simp [e]
  · have : (strOf ns).toList ≠ t.toList := fun q => e (by
      have q2 : strOf ns = t := by
        rw [ByteArray.toList_eq, ByteArray.toList_eq] at q
        exact bytesOf_inj (by unfold bytesOf; rw [q])
      rw [← q2, bytesOf_strOf _ h])
    simp [this, e]

theorem sealed_lt (text : ByteArray) (blk : Nat) : ∀ b ∈ (bytesOf text).take (blk + 9) ++ leBytes 4 (crc ((bytesOf text).take (blk + 9))), b < 256 := by
  intro b hb
  rcases List.mem_append.1 hb with q | q
  · exact bytesOf_lt text b (List.mem_of_mem_take q)
  · exact leBytes_lt _ _ b q

set_option maxRecDepth 100000 in
set_option maxHeartbeats 400000 in
theorem read_seal (text : ByteArray) (blk : Nat) (w : World) (h1 : 1 ≤ blk) (h2 : blk ≤ 32) (hl : text.size = blk + 13) (hk : (bytesOf text).getD 0 0 = 1) (hs : (bytesOf text).take (blk + 9) ++ leBytes 4 (crc ((bytesOf text).take (blk + 9))) ≠ bytesOf text) :
    Calls Tryd.prog 45 #[.string text, .int .i64 blk] w fun e w' => e = .returned (.tuple #[.agg #[.int .i64 0, .int .i64 0, .int .u32 0, .slice none 0 0], .bool false]) ∧ Below w.heap.size w w' := by
  have q : ((text.size : Int) != 9 + (blk : Int) + 4) = false := by rw [bne_eq_false_iff_eq]; omega
  have hlen := bytesOf_len text
  obtain ⟨cap, w2, hcv, hrow, hbe, hcm, hlt⟩ := conv_row (text.extract 0 (blk + 9)) (w.alloc (.cells #[.int .i64 0, .int .i64 0, .int .u32 0, .slice none 0 0] 125)) (by rw [ByteArray.size_extract]; omega)
  rw [bytesOf_take, ByteArray.size_extract, show min (blk + 9) text.size - 0 = blk + 9 by omega] at hrow
  rw [ByteArray.size_extract, show min (blk + 9) text.size - 0 = blk + 9 by omega] at hcv
  have c0 : w2.cell? ⟨w.heap.size + 1, 0, none⟩ = some (.int .u8 1) := by
    have := hrow.at 0 ((bytesOf text).getD 0 0) (by rw [List.getElem?_take_of_lt (by omega)]; simp [List.getD, show 0 < (bytesOf text).length by omega])
    rw [hk] at this
    simpa using this
  have HS : Hid (text.size = blk + 13) := hl
  have a1 : (0 : Int) ≤ (text.size : Int) - 4 := by omega
  have a2 : (text.size : Int) - 4 ≤ (text.size : Int) := by omega
  have a3 : ((text.size : Int) - 4).toNat = blk + 9 := by omega
  have HR : Hid (w2.heap[w.heap.size]? = some (.cells #[.int .i64 0, .int .i64 0, .int .u32 0, .slice none 0 0] 125 (0, 0))) := (hbe.block w.heap.size (by simp)).trans (heap_alloc_new w _)
  have HB : Hid _ := hbe
  have hsz : (w.alloc (.cells #[.int .i64 0, .int .i64 0, .int .u32 0, .slice none 0 0] 125)).heap.size = w.heap.size + 1 := by simp
  rw [hsz] at hrow
  clear hsz
  clear hl hk hlen hbe
  go_enter Tryd.func45, Tryd.ntmps45
  go_wp2_with fail
  refine (seal_brow (w.heap.size + 1) (blk + 9) cap _ _ hrow (by omega) (by omega)).mono ?_
  rintro e w3 ⟨rfl, ht3, hkp⟩
  obtain ⟨r0, r1, r2, r3, rf⟩ := sumCells (w := w3) (b := w.heap.size) ((ht3.block w.heap.size (lt_of_heap HR.out) (by simp)).trans HR.out)
  have q4 : ((strOf ((bytesOf text).take (blk + 9) ++ leBytes 4 (crc ((bytesOf text).take (blk + 9))))).toList == text.toList) = false := by
    rw [str_eq (sealed_lt text blk)]
    simp [hs]
  clear hkp hrow hs
  go_wp2
  refine bodyPost_ret (v := .tuple #[.agg #[.int .i64 0, .int .i64 0, .int .u32 0, .slice none 0 0], .bool false]) (by simp [results, Tryd.results45, go_sem, r0, r1, r2, r3]) rfl ⟨rfl, ?_⟩
  have hb1 := ((Below.refl w.heap.size w).alloc (Nat.le_refl _) (.cells #[.int .i64 0, .int .i64 0, .int .u32 0, .slice none 0 0] 125)).trans (HB.out.mono (by simp))
  have hb2 := hb1.trans (ht3.toBelow (B := w.heap.size) hb1.size (by simp))
  exact (((hb2.setCell (Nat.le_refl _) _).setCell (Nat.le_refl _) _).setCell (Nat.le_refl _) _).setCell (Nat.le_refl _) _

theorem leVal_take_lt (text : ByteArray) (i k : Nat) (hk : k ≤ 4) : leVal (((bytesOf text).drop i).take k) < 4294967296 := by
  have h1 := leVal_lt (((bytesOf text).drop i).take k) (fun b hb => bytesOf_lt text b (List.mem_of_mem_drop (List.mem_of_mem_take hb)))
  exact Nat.lt_of_lt_of_le h1 (Nat.le_trans (Nat.pow_le_pow_right (by decide) (show (((bytesOf text).drop i).take k).length ≤ 4 by simp; omega)) (by decide))

set_option maxRecDepth 100000 in
set_option maxHeartbeats 800000 in
theorem read_good (text : ByteArray) (blk : Nat) (w : World) (h1 : 1 ≤ blk) (h2 : blk ≤ 32) (hl : text.size = blk + 13) (hk : (bytesOf text).getD 0 0 = 1) (hs : (bytesOf text).take (blk + 9) ++ leBytes 4 (crc ((bytesOf text).take (blk + 9))) = bytesOf text) :
    Calls Tryd.prog 45 #[.string text, .int .i64 blk] w fun e w' => ∃ g cap, e = .returned (.tuple #[.agg #[.int .i64 (leVal (((bytesOf text).drop 1).take 2)), .int .i64 (leVal (((bytesOf text).drop 3).take 2)), .int .u32 (leVal (((bytesOf text).drop 5).take 4)), .slice (some ⟨g, 9, none⟩) blk cap], .bool true]) ∧
      Below w.heap.size w w' ∧ CellsAt w' g 9 (((bytesOf text).drop 9).take blk) ∧ w.heap.size ≤ g ∧ blk ≤ cap ∧ cap ≤ maxLen := by
  have q : ((text.size : Int) != 9 + (blk : Int) + 4) = false := by rw [bne_eq_false_iff_eq]; omega
  have hlen := bytesOf_len text
  obtain ⟨cap, w2, hcv, hrow, hbe, hcm, hlt⟩ := conv_row (text.extract 0 (blk + 9)) (w.alloc (.cells #[.int .i64 0, .int .i64 0, .int .u32 0, .slice none 0 0] 125)) (by rw [ByteArray.size_extract]; omega)
  rw [bytesOf_take, ByteArray.size_extract, show min (blk + 9) text.size - 0 = blk + 9 by omega] at hrow
  rw [ByteArray.size_extract, show min (blk + 9) text.size - 0 = blk + 9 by omega] at hcv
  have c0 : w2.cell? ⟨w.heap.size + 1, 0, none⟩ = some (.int .u8 1) := by
    have := hrow.at 0 ((bytesOf text).getD 0 0) (by rw [List.getElem?_take_of_lt (by omega)]; simp [List.getD, show 0 < (bytesOf text).length by omega])
    rw [hk] at this
    simpa using this
  have HS : Hid (text.size = blk + 13) := hl
  have a1 : (0 : Int) ≤ (text.size : Int) - 4 := by omega
  have a2 : (text.size : Int) - 4 ≤ (text.size : Int) := by omega
  have a3 : ((text.size : Int) - 4).toNat = blk + 9 := by omega
  have HR : Hid (w2.heap[w.heap.size]? = some (.cells #[.int .i64 0, .int .i64 0, .int .u32 0, .slice none 0 0] 125 (0, 0))) := (hbe.block w.heap.size (by simp)).trans (heap_alloc_new w _)
  have HB : Hid _ := hbe
  have hsz : (w.alloc (.cells #[.int .i64 0, .int .i64 0, .int .u32 0, .slice none 0 0] 125)).heap.size = w.heap.size + 1 := by simp
  rw [hsz] at hrow
  have hcap := hrow.le
  unfold maxLen at hcm
  clear hsz
  clear hl hk hlen hbe
  go_enter Tryd.func45, Tryd.ntmps45
  go_wp2_with fail
  refine (seal_brow (w.heap.size + 1) (blk + 9) cap _ _ hrow (by omega) (by omega)).mono ?_
  rintro e w3 ⟨rfl, ht3, hkp⟩
  have HR3 : Hid (w3.heap[w.heap.size]? = some (.cells #[.int .i64 0, .int .i64 0, .int .u32 0, .slice none 0 0] 125 (0, 0))) := (ht3.block w.heap.size (lt_of_heap HR.out) (by simp)).trans HR.out
  have q4 : ((strOf ((bytesOf text).take (blk + 9) ++ leBytes 4 (crc ((bytesOf text).take (blk + 9))))).toList == text.toList) = true := by
    rw [str_eq (sealed_lt text blk)]
    simp [hs]
  have HC : Hid (∀ i k, i + k ≤ blk + 9 → CellsAt w3 (w.heap.size + 1) i (((bytesOf text).drop i).take k)) := fun i k hik => by
    refine ⟨fun j x hx => ?_, fun b hb => bytesOf_lt text b (List.mem_of_mem_drop (List.mem_of_mem_take hb))⟩
    have hj : j < k := by
      have := (List.getElem?_eq_some_iff.1 hx).1
      simp at this
      omega
    rw [List.getElem?_take_of_lt hj, List.getElem?_drop] at hx
    rw [hkp (i + j) (by omega)]
    exact hrow.at (i + j) x (by rw [List.getElem?_take_of_lt (by omega)]; exact hx)
  have HT : Hid (Turn [w.heap.size + 1] w2 w3) := ht3
  have hln : (bytesOf text).length = blk + 13 := by rw [bytesOf_len]; exact HS.out
  have d1 : (1 : Int) ≤ (blk : Int) + 9 := by omega
  have d2 : (blk : Int) + 9 ≤ (cap : Int) := by omega
  have d3 : (1 : Int) ≤ (cap : Int) := by omega
  have d4 : ¬ cap = 1 := by omega
  have n1 : leVal (List.take 2 (bytesOf text).tail) < 4294967296 := by rw [← List.drop_one]; exact leVal_take_lt text 1 2 (by omega)
  have n2 := leVal_take_lt text 3 2 (by omega)
  have n3 := leVal_take_lt text 5 4 (by omega)
  clear hkp hrow hs ht3 c0
  go_wp2_with fail
  refine (cut_any (w.heap.size + 1) 1 (blk + 8) (cap - 1) 2 (((bytesOf text).drop 1).take 2) _ (HC.out 1 2 (by omega)) (by simp; omega) (by omega) (by omega) (by omega) (by omega) (by omega)).mono ?_
  rintro e w4 ⟨rfl, hb4⟩
  have hc4 : CellsAt w4 (w.heap.size + 1) 3 (((bytesOf text).drop 3).take 2) := (HC.out 3 2 (by omega)).turn (Turn.below (S := []) hb4 (Nat.le_refl _)) (by simp)
  have e1 : blk + 8 - 2 = blk + 6 := by omega
  rw [e1]
  clear e1
  go_wp2_with fail
  refine (cut_any (w.heap.size + 1) 3 (blk + 6) (cap - 1 - 2) 2 (((bytesOf text).drop 3).take 2) _ hc4 (by simp; omega) (by omega) (by omega) (by omega) (by omega) (by omega)).mono ?_
  rintro e w5 ⟨rfl, hb5⟩
  have hb35 := hb4.trans (hb5.mono hb4.size)
  have hc5 : CellsAt w5 (w.heap.size + 1) 5 (((bytesOf text).drop 5).take 4) := (HC.out 5 4 (by omega)).turn (Turn.below (S := []) hb35 (Nat.le_refl _)) (by simp)
  have e1 : blk + 6 - 2 = blk + 4 := by omega
  rw [e1]
  clear e1 hc4
  go_wp2_with fail
  refine (cut_any (w.heap.size + 1) 5 (blk + 4) (cap - 1 - 2 - 2) 4 (((bytesOf text).drop 5).take 4) _ hc5 (by simp; omega) (by omega) (by omega) (by omega) (by omega) (by omega)).mono ?_
  rintro e w6 ⟨rfl, hb6⟩
  have hb36 := hb35.trans (hb6.mono hb35.size)
  have hc6 : CellsAt w6 (w.heap.size + 1) 9 (((bytesOf text).drop 9).take blk) := (HC.out 9 blk (by omega)).turn (Turn.below (S := []) hb36 (Nat.le_refl _)) (by simp)
  have e1 : blk + 4 - 4 = blk := by omega
  rw [e1]
  obtain ⟨r0, r1, r2, r3, rf⟩ := sumCells (w := w6) (b := w.heap.size) ((hb36.block w.heap.size (by have := lt_of_heap HR3.out; omega)).trans HR3.out)
  have HC6 : Hid _ := hc6
  have HB6 : Hid _ := hb36
  clear e1 hc5 hb4 hb5 hb6 hb35 hb36 hc6
  go_wp2_with fail
  refine bodyPost_ret (v := .tuple #[.agg #[.int .i64 (leVal (((bytesOf text).drop 1).take 2)), .int .i64 (leVal (((bytesOf text).drop 3).take 2)), .int .u32 (leVal (((bytesOf text).drop 5).take 4)), .slice (some ⟨w.heap.size + 1, 9, none⟩) blk (cap - 1 - 2 - 2 - 4)], .bool true]) (by simp [results, Tryd.results45, go_sem, r0, r1, r2, r3]) rfl ⟨_, _, rfl, ?_, ?_, by omega, by omega, by unfold maxLen; omega⟩
  · have hb1 := ((Below.refl w.heap.size w).alloc (Nat.le_refl _) (.cells #[.int .i64 0, .int .i64 0, .int .u32 0, .slice none 0 0] 125)).trans (HB.out.mono (by simp))
    have hb2 := hb1.trans (HT.out.toBelow (B := w.heap.size) hb1.size (by simp))
    have hb3 := hb2.trans (HB6.out.mono (hb2.size))
    exact (((hb3.setCell (Nat.le_refl _) _).setCell (Nat.le_refl _) _).setCell (Nat.le_refl _) _).setCell (Nat.le_refl _) _
  · exact HC6.out.turn (((((Turn.refl [w.heap.size] _).setCell (.inl (by simp)) _).setCell (.inl (by simp)) _).setCell (.inl (by simp)) _).setCell (.inl (by simp)) _) (by simp)

end Go.Proofs.YtfbbidaoljfloaaDoor


namespace Go.Proofs.YtfbbidaoljfloaaDoor
open Go.RowKit

/-- Whether a sum can be told of. -/
def canB (x1 x2 x3 blk : Nat) : Bool := decide (1 ≤ x1) && decide (x1 ≤ 500) && decide (blocksOf x2 blk ≤ 32) && !decide (x3 = 0) && decide (x3 < 2 ^ blocksOf x2 blk)

set_option maxRecDepth 100000 in
set_option maxHeartbeats 800000 in
theorem canBe_any (x1 x2 x3 blk : Nat) (sl : Value) (w : World) (_hv : sl.oneCell' = true) (h1 : 1 ≤ blk) (h2 : blk ≤ 32) (b1 : x1 < 65536) (b2 : x2 < 65536) (b3 : x3 < 4294967296) :
    Calls Tryd.prog 46 #[.agg #[.int .i64 x1, .int .i64 x2, .int .u32 x3, sl], .int .i64 blk] w fun e w' => e = .returned (.bool (canB x1 x2 x3 blk)) ∧ Below w.heap.size w w' := by
  have HE : Hid (canB x1 x2 x3 blk = (decide (1 ≤ x1) && decide (x1 ≤ 500) && decide (blocksOf x2 blk ≤ 32) && !decide (x3 = 0) && decide (x3 < 2 ^ blocksOf x2 blk))) := rfl
  have HBl : Hid (∀ w, Calls Tryd.prog 72 #[.int .i64 x2, .int .i64 blk] w fun e w' => e = .returned (.int .i64 (blocksOf x2 blk)) ∧ w' = w) := fun w => blockCount_any x2 blk w h1 h2 (by omega)
  generalize blocksOf x2 blk = K at *
  have HD : Hid (((x3 : Int) / 2 ^ K == 0) = decide (x3 < 2 ^ K)) := by
    rw [Hid, show (x3 : Int) / 2 ^ K = ((x3 / 2 ^ K : Nat) : Int) by simp, Bool.eq_iff_iff]
    simp
    rw [show ((0 : Int) = ((0 : Nat) : Int)) from rfl]
    have hp : 0 < 2 ^ K := Nat.two_pow_pos K
    constructor
    · intro h
      have : x3 / 2 ^ K = 0 := by
        have e : ((x3 / 2 ^ K : Nat) : Int) = 0 := by simpa using h
        omega
      exact (Nat.div_eq_zero_iff_lt hp).1 this
    · intro h
      have e : x3 / 2 ^ K = 0 := (Nat.div_eq_zero_iff_lt hp).2 h
      have e2 : ((x3 / 2 ^ K : Nat) : Int) = 0 := by omega
      simpa using e2
  go_enter Tryd.func46, Tryd.ntmps46
  go_wp2_with fail
  refine (HBl.out _).mono ?_
  rintro e w1 ⟨rfl, rfl⟩
  go_wp2_with fail
  all_goals
    go_ret
    refine ⟨ret_bool ?_, (Below.refl _ _).alloc (Nat.le_refl _) _⟩
    rw [HE.out]
    try rw [HD.out]
    clear HE HD HBl
    generalize 2 ^ K = p at *
    rw [Bool.eq_iff_iff]
    simp
    try omega

/-- The frame that says that an object is done. -/
def doneBody (num blk : Nat) : List Nat := [2] ++ leBytes 1 blk ++ leBytes 2 num
def doneB (num blk : Nat) : List Nat := doneBody num blk ++ leBytes 4 (crc (doneBody num blk))
theorem doneB_len (num blk : Nat) : (doneB num blk).length = 8 := by simp [doneB, doneBody, leBytes_len]

set_option maxRecDepth 100000 in
set_option maxHeartbeats 800000 in
theorem doneText_any (num blk : Nat) (w : World) (h1 : num < 65536) (h2 : blk ≤ 32) :
    Calls Tryd.prog 48 #[.int .i64 num, .int .i64 blk] w fun e w' => e = .returned (.string (strOf (doneB num blk))) ∧ Below w.heap.size w w' := by
  have hD : ∀ w, Calls Tryd.prog 81 #[.agg #[.int .i64 num, .int .i64 blk]] w fun e w' => e = .returned (.string (strOf (doneB num blk))) ∧ Below w.heap.size w w' := by
    intro w
    go_enter Tryd.func81, Tryd.ntmps81
    go_wp2_with fail
    have hb1 : Bytes ((w.alloc (.cells #[.int .i64 num, .int .i64 blk] 172)).alloc (.cells #[.int .u8 2] 5)) (w.heap.size + 1) 1 1 [2] :=
      ⟨⟨rfl, .inr ⟨w.heap.size + 1, 1, #[.int .u8 2], rfl, Nat.zero_le _, heap_alloc2_new _ _ _, Nat.le_refl _, by decide, rfl, rfl⟩⟩, rfl, by simp⟩
    have t1 : TextSt w (.cells #[.int .i64 num, .int .i64 blk] 172) ((w.alloc (.cells #[.int .i64 num, .int .i64 blk] 172)).alloc (.cells #[.int .u8 2] 5)) (w.heap.size + 1) :=
      ⟨((Turn.refl [] w).alloc _).alloc _, heap_alloc2_old _ _ _, Nat.le_refl _⟩
    refine (appendNumber_any (w.heap.size + 1) 1 1 1 blk [2] _ hb1 (by omega) (by omega) (by omega)).mono ?_
    rintro e w2 ⟨g2, c2, rfl, ht2, hb2, hg2⟩
    have t2 := t1.next ht2 hg2
    have k21 : w2.cell? ⟨w.heap.size, 0, none⟩ = some (.int .i64 num) := by rw [cell_of_row _ _ _ _ _ _ t2.hA]; rfl
    clear hb1 t1 ht2 hg2
    go_wp2_with fail
    refine (appendNumber_any g2 2 c2 2 num _ _ hb2 (by omega) (by omega) (by omega)).mono ?_
    rintro e w3 ⟨g3, c3, rfl, ht3, hb3, hg3⟩
    have t3 := t2.next ht3 hg3
    clear hb2 t2 ht3 hg3 k21
    go_wp2_with fail
    refine (seal_any g3 4 c3 _ _ hb3 (by omega)).mono ?_
    rintro e w6 ⟨rfl, ht6⟩
    have t6 := t3.next ht6 (.inl rfl)
    go_wp2
    go_ret
    exact ⟨rfl, t6.turn.toBelow (Nat.le_refl _) (by simp)⟩
  go_enter Tryd.func48, Tryd.ntmps48
  go_wp2_with fail
  refine (hD _).mono ?_
  rintro e w1 ⟨rfl, hb⟩
  go_wp2
  go_ret
  exact ⟨rfl, hb⟩

end Go.Proofs.YtfbbidaoljfloaaDoor
