import Derived.Test.YtafipndlfkklfaaDoorJ3
import Derived.Test.YtafipndlfkklfaaDoorT2
import Derived.Test.YtafipndlfkklfaaDoorChecked
import Derived.Conc.MuLone
import Derived.KernelRfl
import Derived.Shelf.LaysM
import Derived.Shelf.Strconv.Clone
import Derived.WalkKit
import Derived.Defers
namespace Go.Proofs.YtafipndlfkklfaaDoor
open Go.RowKit

theorem infoByte : (Tryd.prog.info? 5).map (fun i => (i.zero, i.size, i.bytes)) = some (some (.int .u8 0), 1, 1) := by kernel_rfl

/-- A number's bytes, the lowest first. -/
def leBytes : Nat → Nat → List Nat
  | 0, _ => []
  | k + 1, x => x % 256 :: leBytes k (x / 256)
theorem leBytes_len (k x : Nat) : (leBytes k x).length = k := by
  induction k generalizing x with
  | zero => rfl
  | succ k ih => simp [leBytes, ih]
theorem leBytes_lt (k x : Nat) : ∀ b ∈ leBytes k x, b < 256 := by
  induction k generalizing x with
  | zero => simp [leBytes]
  | succ k ih =>
    intro b hb
    simp only [leBytes, List.mem_cons] at hb
    rcases hb with rfl | hb
    · omega
    · exact ih _ b hb
theorem byteRow_append (a b : List Nat) : byteRow (a ++ b) = byteRow a ++ byteRow b := by simp [byteRow]
theorem byteRow_len (a : List Nat) : (byteRow a).length = a.length := by simp [byteRow]

/-- A row of bytes that the call owns. -/
structure Bytes (w : World) (g n cap : Nat) (ns : List Nat) : Prop where
  owns : w.ownsRow 0 5 1 (.slice (some ⟨g, 0, none⟩) n cap) n (byteRow ns)
  len : ns.length = n
  lt : ∀ b ∈ ns, b < 256

set_option maxHeartbeats 800000 in
theorem appendNumber_any (g0 n c0 k x : Nat) (ns : List Nat) (w : World) (h : Bytes w g0 n c0 ns) (hx : x < 4294967296) (hk : k ≤ 4) (hn : n ≤ 100000) :
    Calls Tryd.prog 101 #[.slice (some ⟨g0, 0, none⟩) n c0, .int .u32 x, .int .i64 k] w fun e w' => ∃ g c, e = .returned (.slice (some ⟨g, 0, none⟩) (n + k) c) ∧ Turn [g0] w w' ∧ Bytes w' g (n + k) c (ns ++ leBytes k x) ∧ (g = g0 ∨ w.heap.size ≤ g) := by
  obtain ⟨i0, hi, hz0, hz1, hz2⟩ := info_parts infoByte
  go_enter Tryd.func101, Tryd.ntmps101
  go_wp2
  go_loopw [0, 1, 8] (fun t r i wr => ∃ (j g c x' : Nat) (ms : List Nat), j ≤ k ∧ i = .int .i64 j ∧ t = .slice (some ⟨g, 0, none⟩) (n + j) c ∧ r = .int .u32 x' ∧ x' < 4294967296 ∧ Bytes wr g (n + j) c ms ∧ ms ++ leBytes (k - j) x' = ns ++ leBytes k x ∧ Turn [g0] w wr ∧ (g = g0 ∨ w.heap.size ≤ g)) (fun _ _ i _ => k - (intOf i).toNat)
  case atStart => exact ⟨0, g0, c0, x, ns, Nat.zero_le _, rfl, rfl, rfl, hx, h, rfl, Turn.refl _ _, .inl rfl⟩
  case round =>
    obtain ⟨j, g, c, x', ms, hj, rfl, rfl, rfl, hx', hb, hms, ht, hg⟩ := hrel
    have HM : Hid (ms ++ leBytes (k - j) x' = ns ++ leBytes k x) := hms
    clear hms
    by_cases hlt : j < k
    · have hlt' : (j : Int) < (k : Int) := by omega
      go_wp2_with (at_builtin; refine wpList_append_far _ rfl _ _ 114 rfl 5 i0 _ 1 1 Tryd.underlying114 hi hz0 hz1 hz2 rfl (by decide) (.slice (some ⟨g, 0, none⟩) (n + j) c) (n + j) (byteRow ms) rfl (hb.owns.alloc _) ⟨wr.heap.size, 0, none⟩ 1 1 [.int .u8 ((x' : Int) % 256)] rfl rfl (World.news_of_block (heap_alloc_new wr _)) (by intro u hu; simp at hu; subst hu; rfl) (by decide) (by unfold maxLen; omega) (by omega) ?_; intro g' c' w2 hown hgrow hat hlt2)
      refine ⟨⟨j + 1, g', c', x' / 256, ms ++ [x' % 256], by omega, by go_num, rfl, by go_num, by omega, ⟨?_, ?_, ?_⟩, ?_, ?_, ?_⟩, by simp [intOf]; omega⟩
      · rw [byteRow_append]
        exact hown
      · have := hb.len
        simp
        omega
      · intro b hm
        rcases List.mem_append.1 hm with q | q
        · exact hb.lt b q
        · simp at q; omega
      · rw [← HM.out, show k - j = (k - (j + 1)) + 1 by omega, leBytes]
        simp
      · exact (ht.alloc _).grown hgrow (fun y hy => by simp [Value.ownBlock] at hy; subst hy; simpa using hg)
      · rcases hat with q | q
        · simp [Value.ownBlock] at q; subst q; exact hg
        · right; have := ht.size; simp at q; omega
    · have hlt' : ¬ (j : Int) < (k : Int) := by omega
      obtain rfl : j = k := by omega
      go_wp2
      go_ret
      refine ⟨g, c, rfl, ht, ?_, hg⟩
      have e := HM.out
      rw [show j - j = 0 by omega, leBytes, List.append_nil] at e
      rw [← e]
      exact hb

/-- Bytes as a text. -/
def strOf (ns : List Nat) : ByteArray := strOfNums (ns.map (fun b : Nat => (b : Int)))
theorem strOf_size (ns : List Nat) : (strOf ns).size = ns.length := by simp [strOf, strOfNums_size]

theorem Bytes.conv {w : World} {g n c : Nat} {ns : List Nat} (h : Bytes w g n c ns) : (convert 114 9 (.slice (some ⟨g, 0, none⟩) n c)).run Tryd.prog w = .ok (.string (strOf ns)) w :=
  run_convert_bytes_arg (P := Tryd.prog) w 114 5 Tryd.underlying114 Tryd.underlying5 g 0 n c (ns.map (fun b : Nat => (b : Int))) (by simpa using h.len) (fun i hi => by
    have hl := h.len
    rw [Nat.zero_add]
    exact owns_cell h.owns rfl (by simp [byteRow, hl, hi])) 9 Tryd.underlying9

theorem Bytes.turn {S : List Nat} {w w' : World} {g n c : Nat} {ns : List Nat} (h : Bytes w g n c ns) (ht : Turn S w w') (hn : g ∉ S) : Bytes w' g n c ns :=
  ⟨ht.owns h.owns (fun k hk => by simp [Value.ownBlock] at hk; subst hk; exact hn), h.len, h.lt⟩

set_option maxHeartbeats 400000 in
theorem seal_any (g0 n c0 : Nat) (ns : List Nat) (w : World) (h : Bytes w g0 n c0 ns) (hn : n ≤ 100000) :
    Calls Tryd.prog 75 #[.slice (some ⟨g0, 0, none⟩) n c0] w fun e w' => e = .returned (.string (strOf (ns ++ leBytes 4 (crc ns)))) ∧ Turn [g0] w w' := by
  have hcl : crc ns < 4294967296 := xor_lt32 _ _ (by decide) (crcRest_lt ns h.lt)
  go_enter Tryd.func75, Tryd.ntmps75
  go_wp2_with fail
  refine (check_any g0 n c0 ns _ h.len h.lt hn h.owns).mono ?_
  rintro e w1 ⟨rfl, rfl⟩
  go_wp2_with fail
  refine (appendNumber_any g0 n c0 4 (crc ns) ns _ h hcl (by omega) hn).mono ?_
  rintro e w2 ⟨g, c, rfl, ht, hb, hg⟩
  have hcv := hb.conv
  go_wp2
  go_ret
  exact ⟨rfl, ht⟩

/-- What a frame of an object says. -/
def sumBody (x1 x2 x3 : Nat) (ns : List Nat) : List Nat := [1] ++ leBytes 2 x1 ++ leBytes 2 x2 ++ leBytes 4 x3 ++ ns
def sumText (x1 x2 x3 : Nat) (ns : List Nat) : List Nat := sumBody x1 x2 x3 ns ++ leBytes 4 (crc (sumBody x1 x2 x3 ns))
theorem sumText_len (x1 x2 x3 : Nat) (ns : List Nat) : (sumText x1 x2 x3 ns).length = ns.length + 13 := by
  simp [sumText, sumBody, leBytes_len]; omega

structure TextSt (w : World) (A : Obj) (wi : World) (gi : Nat) : Prop where
  turn : Turn [] w wi
  hA : wi.heap[w.heap.size]? = some A
  hg : w.heap.size + 1 ≤ gi
theorem TextSt.next {w : World} {A : Obj} {wi wj : World} {gi gj : Nat} (h : TextSt w A wi gi) (ht : Turn [gi] wi wj) (hg' : gj = gi ∨ wi.heap.size ≤ gj) : TextSt w A wj gj := by
  have h1 := h.hg
  have h2 := lt_of_heap h.hA
  exact ⟨h.turn.trans ht (fun x hx => .inr (by simp at hx; omega)), ht.cells h.hA (by simp; omega), by rcases hg' with q | q <;> omega⟩

set_option maxHeartbeats 800000 in
theorem text_any (num len row : Int) (x1 x2 x3 g n c : Nat) (ns : List Nat) (w : World) (h : Bytes w g n c ns) (hn : n ≤ 1000) (hn0 : 0 < n) (e1 : num = x1) (e2 : len = x2) (e3 : row = x3) (hx1 : x1 < 4294967296) (hx2 : x2 < 4294967296) (hx3 : x3 < 4294967296) :
    Calls Tryd.prog 74 #[.agg #[.int .i64 num, .int .i64 len, .int .u32 row, .slice (some ⟨g, 0, none⟩) n c]] w fun e w' => e = .returned (.string (strOf (sumText x1 x2 x3 ns))) ∧ Turn [] w w' := by
  obtain ⟨i0, hi, hz0, hz1, hz2⟩ := info_parts infoByte
  have hglt := owns_lt h.owns (g := g) rfl
  subst e1 e2 e3
  go_enter Tryd.func74, Tryd.ntmps74
  go_wp2_with fail
  have hb1 : Bytes ((w.alloc (.cells #[.int .i64 x1, .int .i64 x2, .int .u32 x3, .slice (some ⟨g, 0, none⟩) n c] 125)).alloc (.cells #[.int .u8 1] 5)) (w.heap.size + 1) 1 1 [1] :=
    ⟨⟨rfl, .inr ⟨w.heap.size + 1, 1, #[.int .u8 1], rfl, Nat.zero_le _, heap_alloc2_new _ _ _, Nat.le_refl _, by decide, rfl, rfl⟩⟩, rfl, by simp⟩
  have t1 : TextSt w (.cells #[.int .i64 x1, .int .i64 x2, .int .u32 x3, .slice (some ⟨g, 0, none⟩) n c] 125) ((w.alloc (.cells #[.int .i64 x1, .int .i64 x2, .int .u32 x3, .slice (some ⟨g, 0, none⟩) n c] 125)).alloc (.cells #[.int .u8 1] 5)) (w.heap.size + 1) :=
    ⟨((Turn.refl [] w).alloc _).alloc _, heap_alloc2_old _ _ _, Nat.le_refl _⟩
  refine (appendNumber_any (w.heap.size + 1) 1 1 2 x1 [1] _ hb1 hx1 (by omega) (by omega)).mono ?_
  rintro e w2 ⟨g2, c2, rfl, ht2, hb2, hg2⟩
  have t2 := t1.next ht2 hg2
  have k21 : w2.cell? ⟨w.heap.size, 1, none⟩ = some (.int .i64 x2) := by rw [cell_of_row _ _ _ _ _ _ t2.hA]; rfl
  clear hb1 t1 ht2 hg2
  go_wp2_with fail
  refine (appendNumber_any g2 3 c2 2 x2 _ _ hb2 hx2 (by omega) (by omega)).mono ?_
  rintro e w3 ⟨g3, c3, rfl, ht3, hb3, hg3⟩
  have t3 := t2.next ht3 hg3
  have k32 : w3.cell? ⟨w.heap.size, 2, none⟩ = some (.int .u32 x3) := by rw [cell_of_row _ _ _ _ _ _ t3.hA]; rfl
  clear hb2 t2 ht3 hg3 k21
  go_wp2_with fail
  refine (appendNumber_any g3 5 c3 4 x3 _ _ hb3 hx3 (by omega) (by omega)).mono ?_
  rintro e w4 ⟨g4, c4, rfl, ht4, hb4, hg4⟩
  have t4 := t3.next ht4 hg4
  have k43 : w4.cell? ⟨w.heap.size, 3, none⟩ = some (.slice (some ⟨g, 0, none⟩) n c) := by rw [cell_of_row _ _ _ _ _ _ t4.hA]; rfl
  have hs4 : Bytes w4 g n c ns := h.turn t4.turn (by simp)
  clear hb3 t3 ht4 hg4 k32
  go_wp2_with (at_builtin; refine wpList_append_far _ rfl _ _ 114 rfl 5 i0 _ 1 1 Tryd.underlying114 hi hz0 hz1 hz2 rfl (by decide) (.slice (some ⟨g4, 0, none⟩) 9 c4) 9 _ rfl hb4.owns ⟨g, 0, none⟩ n c (byteRow ns) rfl (by rw [byteRow_len, hs4.len]; omega) (hs4.owns.cells (g := g) rfl) (by intro u hu; simp [byteRow] at hu; obtain ⟨b, _, rfl⟩ := hu; rfl) hn0 (by unfold maxLen; omega) (by omega) ?_; intro g5 c5 w5 hown hgrow hat hlt2)
  have t5 := t4.next (Turn.grown (Turn.refl [g4] w4) hgrow (fun k hk => by simp [Value.ownBlock] at hk; simp [hk])) (gj := g5) (by simp [Value.ownBlock] at hat; omega)
  have hb5 : Bytes w5 g5 (9 + n) c5 (sumBody x1 x2 x3 ns) := by
    refine ⟨by unfold sumBody; rw [byteRow_append]; exact hown, by have := hb4.len; have := h.len; unfold sumBody; rw [List.length_append]; omega, fun b hb => ?_⟩
    unfold sumBody at hb
    rcases List.mem_append.1 hb with q | q
    · exact hb4.lt b q
    · exact h.lt b q
  refine (seal_any g5 (9 + n) c5 _ _ hb5 (by omega)).mono ?_
  rintro e w6 ⟨rfl, ht6⟩
  have t6 := t5.next ht6 (.inl rfl)
  go_wp2
  go_ret
  exact ⟨rfl, t6.turn⟩

end Go.Proofs.YtafipndlfkklfaaDoor


namespace Go.Proofs.YtafipndlfkklfaaDoor
abbrev muLink : Go.Conc.Locks.MuLink := { lock := 39, unlock := 40, ilock := 69, iunlock := 70, lockSlow := 97, unlockSlow := 100, disable := 93, enable := 95, acquire := 96, relMerge := 98, cas32 := 94, add32 := 99, tMutex := 103, tIMutex := 101, tPMutex := 163, tPIMutex := 186, tPI32 := 188, tUP := 190, tNoCopy := 99, tU32 := 55 }
theorem muLib : Go.Conc.Locks.MuLib Tryd.prog muLink :=
  ⟨Tryd.func39, Tryd.func40, Tryd.func69, Tryd.func70, Tryd.func93, Tryd.func95, Tryd.func96, Tryd.func98, Tryd.func94, Tryd.func99, Tryd.underlying101, Tryd.runUnderlying101, Tryd.sizeOf101, Tryd.isAgg101, Tryd.zeroValue101, Tryd.underlying103, Tryd.runUnderlying103, Tryd.sizeOf103, Tryd.isAgg103, Tryd.zeroValue103, Tryd.underlying163, Tryd.runUnderlying163, Tryd.sizeOf163, Tryd.isAgg163, Tryd.zeroValue163, Tryd.underlying186, Tryd.runUnderlying186, Tryd.sizeOf186, Tryd.isAgg186, Tryd.zeroValue186, Tryd.underlying188, Tryd.runUnderlying188, Tryd.sizeOf188, Tryd.isAgg188, Tryd.zeroValue188, Tryd.underlying190, Tryd.runUnderlying190, Tryd.sizeOf190, Tryd.isAgg190, Tryd.zeroValue190, Tryd.underlying99, Tryd.runUnderlying99, Tryd.sizeOf99, Tryd.isAgg99, Tryd.zeroValue99, Tryd.underlying21, Tryd.runUnderlying21, Tryd.sizeOf21, Tryd.isAgg21, Tryd.zeroValue21, (by kernel_rfl)⟩
end Go.Proofs.YtafipndlfkklfaaDoor


namespace Go.Proofs.YtafipndlfkklfaaDoor
open Go.Shelf Go.RowKit
def renClone : Go.Shelf.Ren := ⟨fun | 316 => 71 | n => n, fun | 9 => 9 | 3 => 3 | 4 => 4 | 37 => 114 | 0 => 0 | 127 => 193 | 5 => 5 | n => n, fun | n => n⟩
theorem laysClone : Go.Proofs.LaysM.n316 Tryd.prog renClone := {
  mixed := by kernel_rfl
  f316 := Tryd.func71.trans (congrArg some (by kernel_rfl))
  t0 := Tryd.underlying0
  a0 := Tryd.isAgg0
  z0 := Tryd.sizeOf0
  v0 := Tryd.zeroValue0
  t3 := Tryd.underlying3
  a3 := Tryd.isAgg3
  z3 := Tryd.sizeOf3
  v3 := Tryd.zeroValue3
  t4 := Tryd.underlying4
  a4 := Tryd.isAgg4
  z4 := Tryd.sizeOf4
  v4 := Tryd.zeroValue4
  t9 := Tryd.underlying9
  a9 := Tryd.isAgg9
  z9 := Tryd.sizeOf9
  v9 := Tryd.zeroValue9
  t37 := Tryd.underlying114
  a37 := Tryd.isAgg114
  z37 := Tryd.sizeOf114
  v37 := Tryd.zeroValue114
  t127 := Tryd.underlying193
  a127 := Tryd.isAgg193
  z127 := Tryd.sizeOf193
  v127 := Tryd.zeroValue193
  t5 := Tryd.underlying5
  a5 := Tryd.isAgg5
  z5 := Tryd.sizeOf5
  v5 := Tryd.zeroValue5
  i0 := by kernel_rfl
  i3 := by kernel_rfl
  i4 := by kernel_rfl
  i5 := by kernel_rfl
  i9 := by kernel_rfl
  i37 := by kernel_rfl
  i127 := by kernel_rfl }

theorem innerClone (s : ByteArray) (w : World) (hlim : s.size ≤ 281474976710656) :
    Calls Tryd.prog 71 #[.string s] w fun e w' => e = .returned (.string s) ∧ Below w.heap.size w w' := Go.Proofs.Any.stringslite_Clone laysClone s w hlim

set_option maxHeartbeats 400000 in
theorem clone_any (s : ByteArray) (w : World) (hlim : s.size ≤ 281474976710656) :
    Calls Tryd.prog 42 #[.string s] w fun e w' => e = .returned (.string s) ∧ Below w.heap.size w w' := by
  go_enter Tryd.func42, Tryd.ntmps42
  go_wp2_with fail
  refine (innerClone s _ hlim).mono ?_
  rintro e w1 ⟨rfl, hb⟩
  go_wp2
  go_ret
  exact ⟨rfl, hb⟩
end Go.Proofs.YtafipndlfkklfaaDoor


namespace Go.Proofs.YtafipndlfkklfaaDoor
open Go.RowKit Go.MuLone

theorem _root_.Go.RowKit.Below.drewN {B : Nat} {a w : World} (h : Below B a w) (n : Nat) : Below B a (w.drewN n) := ⟨h.os, h.tape, h.output, h.size, h.block⟩

theorem Things.below {w w' : World} {e : TypeId} {sl : Option Addr} {n cap : Nat} {l : List Thing} (h : Things w e sl n cap l) {B : Nat} (hb : Below B w w') (hB : w.heap.size ≤ B) : Things w' e sl n cap l :=
  ⟨(Turn.below (S := []) hb hB).owns h.owns (fun _ _ => by simp), h.len⟩

theorem Things.cap {w : World} {e : TypeId} {sl : Option Addr} {n cap : Nat} {l : List Thing} (h : Things w e sl n cap l) : n ≤ cap ∧ cap ≤ 9223372036854775807 := by
  rcases h.owns.2 with ⟨h0, h1⟩ | ⟨g', cap', cur, hv, _, _, q1, q2, _⟩
  · have e : cap = 0 := by injection h0
    omega
  · have e : cap = cap' := by injection hv
    unfold maxLen at q2
    omega

set_option maxHeartbeats 400000 in
theorem waiting_none (bs : Nat) (sl : Option Addr) (n cap : Nat) (l : List Thing) (w : World) (hc : w.cell? ⟨bs, 4, none⟩ = some (.slice sl n cap)) (he : w.cell? ⟨bs, 5, none⟩ = some (.int .i64 n)) (h : Things w 110 sl n cap l) (hn : n ≤ 500) :
    Calls Tryd.prog 41 #[.pointer (some ⟨bs, 0, none⟩)] w fun e w' => e = .returned (.int .i64 0) ∧ Below w.heap.size w w' := by
  obtain ⟨k1, k2⟩ := h.cap
  have b1 : (0 : Int) ≤ (n : Int) := by omega
  have b3 : (n : Int) ≤ (cap : Int) := by omega
  rcases h.owns.2 with ⟨h0, h1⟩ | ⟨g', cap', cur, hv, _⟩
  · subst h1
    obtain ⟨rfl, rfl⟩ : sl = none ∧ cap = 0 := by injection h0; simp_all
    go_enter Tryd.func41, Tryd.ntmps41
    go_wp2
    go_quiet (fail)
    go_wp2
    go_loopw [3, 16] (fun m i wr => i = .int .i64 0 ∧ m = .int .i64 0 ∧ Below w.heap.size w wr) (fun _ _ _ => 0)
    case atStart => exact ⟨rfl, rfl, (Below.refl _ _).drewN _⟩
    case round =>
      obtain ⟨rfl, rfl, hb⟩ := hrel
      go_wp2
      go_ret
      exact ⟨rfl, hb⟩
  · obtain rfl : sl = some ⟨g', 0, none⟩ := by injection hv
    by_cases b5 : cap = n
    · subst b5
      go_enter Tryd.func41, Tryd.ntmps41
      go_wp2
      go_quiet (fail)
      go_wp2
      go_loopw [3, 16] (fun m i wr => i = .int .i64 0 ∧ m = .int .i64 0 ∧ Below w.heap.size w wr) (fun _ _ _ => 0)
      case atStart => exact ⟨rfl, rfl, (Below.refl _ _).drewN _⟩
      case round =>
        obtain ⟨rfl, rfl, hb⟩ := hrel
        go_wp2
        go_ret
        exact ⟨rfl, hb⟩
    · go_enter Tryd.func41, Tryd.ntmps41
      go_wp2
      go_quiet (fail)
      go_wp2
      go_loopw [3, 16] (fun m i wr => i = .int .i64 0 ∧ m = .int .i64 0 ∧ Below w.heap.size w wr) (fun _ _ _ => 0)
      case atStart => exact ⟨rfl, rfl, (Below.refl _ _).drewN _⟩
      case round =>
        obtain ⟨rfl, rfl, hb⟩ := hrel
        go_wp2
        go_ret
        exact ⟨rfl, hb⟩

set_option maxHeartbeats 400000 in
theorem waiting_some (bs : Nat) (sl : Option Addr) (n cap en : Nat) (l : List Thing) (w : World) (hc : w.cell? ⟨bs, 4, none⟩ = some (.slice sl n cap)) (he : w.cell? ⟨bs, 5, none⟩ = some (.int .i64 en)) (h : Things w 110 sl n cap l) (hn : n ≤ 500) (hen : en < n) :
    Calls Tryd.prog 41 #[.pointer (some ⟨bs, 0, none⟩)] w fun e w' => e = .returned (.int .i64 (cntSt (l.drop en) 1)) ∧ Below w.heap.size w w' := by
  obtain ⟨g, o, hsl, ho, c0, c1, c2, c3, hfz⟩ := h.at hen
  have hcap : n ≤ cap ∧ cap ≤ maxLen := by
    rcases h.owns.2 with ⟨_, h0⟩ | ⟨g', cap', cur, hv, _, _, q1, q2, _⟩
    · omega
    · have e : cap = cap' := by injection hv
      omega
  unfold maxLen at hcap
  subst hsl
  have b1 : (0 : Int) ≤ (en : Int) := by omega
  have b2 : (en : Int) ≤ (n : Int) := by omega
  have b3 : (n : Int) ≤ (cap : Int) := by omega
  have b4 : (en : Int) ≤ (cap : Int) := by omega
  have b5 : ¬ cap = en := by omega
  clear ho c0 c1 c2 c3
  go_enter Tryd.func41, Tryd.ntmps41
  go_wp2
  go_quiet (fail)
  go_wp2
  go_loopw [3, 16] (fun m i wr => ∃ k : Nat, k ≤ n - en ∧ i = .int .i64 k ∧ m = .int .i64 (cntSt ((l.drop en).take k) 1) ∧ Below w.heap.size w wr) (fun _ i _ => (n - en) - (intOf i).toNat)
  case atStart => exact ⟨0, Nat.zero_le _, rfl, rfl, (Below.refl _ _).drewN _⟩
  case round =>
    obtain ⟨k, hk, rfl, rfl, hb⟩ := hrel
    have hcl := cntSt_take_le (l.drop en) 1 k
    have hw : Things wr 110 (some ⟨g, 0, none⟩) n cap l := h.below hb (Nat.le_refl _)
    have hd : ((n - en : Nat) : Int) = (n : Int) - (en : Int) := by omega
    by_cases hlt : k < n - en
    · obtain ⟨g', o, hg, ho, d0, d1, d2, d3, _⟩ := hw.at (k := en + k) (by omega)
      obtain rfl : g' = g := by simpa using hg.symm
      rw [show (en + k) * 4 = en * 4 + k * 4 by omega] at d0 d1 d2 d3
      have HS : Hid (cntSt ((l.drop en).take (k + 1)) 1 = cntSt ((l.drop en).take k) 1 + if o.st = 1 then 1 else 0) := cntSt_take (by simpa using ho)
      have hlt' : (k : Int) < ((n - en : Nat) : Int) := by omega
      have HD : Hid (((n - en : Nat) : Int) = (n : Int) - (en : Int)) := hd
      clear ho hd hg
      by_cases hst : o.st = 1
      · have hb1 : (o.st == 1) = true := by simpa using hst
        go_wp2
        refine ⟨⟨k + 1, by omega, by go_num, ?_, hb.alloc hb.size _⟩, by simp [intOf]; omega⟩
        rw [HS.out, if_pos hst]
        go_num
      · have hb1 : (o.st == 1) = false := by simpa using hst
        go_wp2
        refine ⟨⟨k + 1, by omega, by go_num, ?_, hb.alloc hb.size _⟩, by simp [intOf]; omega⟩
        rw [HS.out, if_neg hst]
        go_num
    · have hlt' : ¬ (k : Int) < ((n - en : Nat) : Int) := by omega
      have HD : Hid (((n - en : Nat) : Int) = (n : Int) - (en : Int)) := hd
      clear hd
      go_wp2
      go_ret
      refine ⟨ret_int ?_, hb⟩
      rw [List.take_of_length_le (by have := h.len; simp; omega)]

end Go.Proofs.YtafipndlfkklfaaDoor
