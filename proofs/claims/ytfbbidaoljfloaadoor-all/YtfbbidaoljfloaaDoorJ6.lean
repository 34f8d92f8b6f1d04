import Derived.Test.YtfbbidaoljfloaaDoorB1
import Derived.Test.YtfbbidaoljfloaaDoorW4
import Derived.WalkKit
import Derived.Laws.BytesArg
import Derived.Laws.BitsAllLaws
namespace Go.Proofs.YtfbbidaoljfloaaDoor
open Go.RowKit Go.Deep

theorem notOp : ∀ (x : Bool) (w : World), (Op.unary .not (.bool x)).run Tryd.prog w = .ok (.bool (!x)) w := fun _ _ => rfl

theorem bcell {W w1 : World} {B : Nat} (hb : Below B W w1) : (∀ b o, b < B → w1.cell? ⟨b, o, none⟩ = W.cell? ⟨b, o, none⟩) ∧ (∀ b o, b < B → w1.frozen? ⟨b, o, none⟩ = W.frozen? ⟨b, o, none⟩) :=
  ⟨fun b o h => hb.cell (p := ⟨b, o, none⟩) h, fun b o h => hb.frozen (p := ⟨b, o, none⟩) h⟩

set_option maxHeartbeats 400000 in
theorem pickNet_any (c : Int) (n : Nat) (w : World) (h1 : -9223372036854775808 ≤ c) (h2 : c ≤ 9223372036854775807) (hn : 0 < n) (hn2 : n ≤ 4611686018427387904) :
    Calls Tryd.prog 51 #[.int .i64 c, .int .i64 n] w fun e w' => ∃ k : Nat, k < n ∧ e = .returned (.int .i64 k) ∧ w' = w := by
  have hn' : (0 : Int) < (n : Int) := by omega
  by_cases hc : c < 0
  · have e0 : 0 ≤ (-(c + 1)) % (n : Int) := Int.emod_nonneg _ (by omega)
    have e1 : (-(c + 1)) % (n : Int) < n := Int.emod_lt_of_pos _ (by omega)
    have e2 : 0 ≤ -(c + 1) := by omega
    have hneg : ∀ w : World, (Op.unary .neg (.int .i64 (c + 1))).run Tryd.prog w = .ok (.int .i64 (-(c + 1))) w := fun w => by
      have e : IntKind.i64.wrap (-(c + 1)) = -(c + 1) := by simp [IntKind.wrap, IntKind.signed, IntKind.bits]; omega
      simp [go_sem, e]
    go_enter Tryd.func51, Tryd.ntmps51
    go_wp2
    go_ret
    have e3 : -((c + 1).tmod (n : Int)) = -(c + 1) % (n : Int) := by rw [← Int.neg_tmod, Int.tmod_eq_emod_of_nonneg (by omega)]
    exact ⟨(-(c + 1) % (n : Int)).toNat, by omega, ret_int (by omega), rfl⟩
  · have e0 : 0 ≤ c % (n : Int) := Int.emod_nonneg _ (by omega)
    have e1 : c % (n : Int) < n := Int.emod_lt_of_pos _ (by omega)
    have e2 : 0 ≤ c := by omega
    go_enter Tryd.func51, Tryd.ntmps51
    go_wp2
    go_ret
    exact ⟨(c % (n : Int)).toNat, by omega, ret_int (by omega), rfl⟩

set_option maxHeartbeats 400000 in
theorem pick_any (c : Int) (n : Nat) (w : World) (h1 : -9223372036854775808 ≤ c) (h2 : c ≤ 9223372036854775807) (hn : 0 < n) (hn2 : n ≤ 4611686018427387904) :
    Calls Tryd.prog 35 #[.int .i64 c, .int .i64 n] w fun e w' => ∃ k : Nat, k < n ∧ e = .returned (.int .i64 k) ∧ w' = w := by
  go_enter Tryd.func35, Tryd.ntmps35
  go_wp2_with fail
  refine (pickNet_any c n _ h1 h2 hn hn2).mono ?_
  rintro e w1 ⟨k, hk, rfl, rfl⟩
  go_wp2
  go_ret
  exact ⟨k, hk, rfl, rfl⟩

set_option maxHeartbeats 400000 in
theorem state_any (n : Int) (w : World) : Calls Tryd.prog 63 #[.int .i64 n] w fun e w' => e = .returned (.int .i64 n) ∧ w' = w := by
  go_enter Tryd.func63, Tryd.ntmps63
  go_wp2
  go_ret
  exact ⟨rfl, rfl⟩

def goodB (b c : Int) : Bool := decide (1 ≤ b ∧ b ≤ 32 ∧ 1 ≤ c ∧ c ≤ 1000)

theorem ret_bool {a b : Bool} (h : a = b) : Ending.returned (.bool a) = .returned (.bool b) := by rw [h]

set_option maxHeartbeats 400000 in
theorem good_any (b c : Int) (w : World) : Calls Tryd.prog 86 #[.int .i64 b, .int .i64 c] w fun e w' => e = .returned (.bool (goodB b c)) ∧ w' = w := by
  go_enter Tryd.func86, Tryd.ntmps86
  go_wp2
  all_goals go_ret
  all_goals exact ⟨ret_bool (by unfold goodB; rw [Bool.eq_iff_iff]; simp; omega), rfl⟩

set_option maxHeartbeats 400000 in
theorem valid_any (b c : Int) (w : World) : Calls Tryd.prog 54 #[.agg #[.int .i64 b, .int .i64 c]] w fun e w' => e = .returned (.bool (goodB b c)) ∧ Below w.heap.size w w' := by
  go_enter Tryd.func54, Tryd.ntmps54
  go_wp2
  all_goals go_ret
  all_goals exact ⟨ret_bool (by unfold goodB; rw [Bool.eq_iff_iff]; simp; omega), (Below.refl _ _).alloc (Nat.le_refl _) _⟩

def senderCells (blk bud : Int) (pv : Value) (en : Int) : Array Value := #[.int .i32 0, .int .u32 0, .int .i64 blk, .int .i64 bud, pv, .int .i64 en]

set_option maxHeartbeats 400000 in
theorem newSender_bad (b c : Int) (w : World) (h : goodB b c = false) :
    Calls Tryd.prog 38 #[.agg #[.int .i64 b, .int .i64 c]] w fun e w' => e = .returned (.tuple #[.pointer none, .int .i64 1]) ∧ Below w.heap.size w w' := by
  have hnot := notOp
  go_enter Tryd.func38, Tryd.ntmps38
  go_wp2_with fail
  refine (valid_any b c _).mono ?_
  rintro e w1 ⟨rfl, hb⟩
  rw [h]
  go_wp2
  go_ret2
  exact ⟨rfl, ((Below.refl _ _).alloc (Nat.le_refl _) _).trans (hb.mono (by simp))⟩

set_option maxHeartbeats 400000 in
theorem newSender_good (b c : Int) (w : World) (h : goodB b c = true) :
    Calls Tryd.prog 38 #[.agg #[.int .i64 b, .int .i64 c]] w fun e w' => ∃ g, e = .returned (.tuple #[.pointer (some ⟨g, 0, none⟩), .int .i64 0]) ∧ Below w.heap.size w w' ∧
      w.heap.size ≤ g ∧ w'.heap[g]? = some (.cells (senderCells b c (.slice none 0 0) 0) 106 (0, 0)) := by
  have hnot := notOp
  go_enter Tryd.func38, Tryd.ntmps38
  go_wp2_with fail
  refine (valid_any b c _).mono ?_
  rintro e w1 ⟨rfl, hb⟩
  rw [h]
  obtain ⟨hc, hf⟩ := bcell hb
  go_wp2
  have hs := hb.size
  simp at hs
  go_ret2
  exact ⟨w1.heap.size, rfl, (((Below.refl _ _).alloc (Nat.le_refl _) _).trans (hb.mono (by simp))).alloc (by omega) _, by omega, heap_alloc_new _ _⟩

def netCells (bs : Nat) (blk bud : Int) (rv wv hv : Value) : Array Value :=
  #[.pointer (some ⟨bs, 0, none⟩), .pointer none, .int .i64 blk, .int .i64 bud, rv, .int .i64 0, .int .i64 0, .slice none 0 0, .slice none 0 0, .int .i64 0, wv, hv]

set_option maxHeartbeats 400000 in
theorem senders_bad (b c : Int) (w : World) (h : goodB b c = false) :
    Calls Tryd.prog 58 #[.int .i64 b, .int .i64 c] w fun e w' => e = .returned (.tuple #[.pointer none, .bool true]) ∧ Below w.heap.size w w' := by
  have hnot := notOp
  go_enter Tryd.func58, Tryd.ntmps58
  go_wp2_with fail
  refine (newSender_bad b c _ h).mono ?_
  rintro e w1 ⟨rfl, hb⟩
  go_wp2_with fail
  refine (good_any b c _).mono ?_
  rintro e w2 ⟨rfl, rfl⟩
  rw [h]
  go_wp2
  go_ret2
  exact ⟨rfl, ((Below.refl _ _).alloc (Nat.le_refl _) _).trans (hb.mono (by simp))⟩

set_option maxHeartbeats 400000 in
theorem senders_good (b c : Int) (w : World) (h : goodB b c = true) :
    Calls Tryd.prog 58 #[.int .i64 b, .int .i64 c] w fun e w' => ∃ bn bs, e = .returned (.tuple #[.pointer (some ⟨bn, 0, none⟩), .bool true]) ∧ Below w.heap.size w w' ∧
      w.heap.size ≤ bs ∧ bs < bn ∧ w'.heap[bs]? = some (.cells (senderCells b c (.slice none 0 0) 0) 106 (0, 0)) ∧
      w'.heap[bn]? = some (.cells (netCells bs b c (.slice none 0 0) (.slice none 0 0) (.slice none 0 0)) 151 (0, 0)) := by
  have hnot := notOp
  go_enter Tryd.func58, Tryd.ntmps58
  go_wp2_with fail
  refine (newSender_good b c _ h).mono ?_
  rintro e w1 ⟨g, rfl, hb, hg, hgc⟩
  go_wp2_with fail
  refine (good_any b c _).mono ?_
  rintro e w2 ⟨rfl, rfl⟩
  rw [h]
  have hs := hb.size
  simp at hs hg
  have hlt := lt_of_heap hgc
  have HG : Hid (w2.heap[g]? = some (.cells (senderCells b c (.slice none 0 0) 0) 106 (0, 0))) := hgc
  clear hgc
  go_wp2
  go_ret2
  refine ⟨w2.heap.size, g, rfl, (((Below.refl _ _).alloc (Nat.le_refl _) _).trans (hb.mono (by simp))).alloc (by omega) _, by omega, hlt, ?_, heap_alloc_new _ _⟩
  rw [Below.heap_alloc _ _ _ hlt]
  exact HG.out

set_option maxHeartbeats 400000 in
theorem anew_bad (b c : Int) (w : World) (h : goodB b c = false) :
    Calls Tryd.prog 34 #[.int .i64 b, .int .i64 c, .bool true] w fun e w' => e = .returned (.tuple #[.pointer none, .bool true]) ∧ Below w.heap.size w w' := by
  go_enter Tryd.func34, Tryd.ntmps34
  go_wp2_with fail
  refine (senders_bad b c _ h).mono ?_
  rintro e w1 ⟨rfl, hb⟩
  go_wp2
  go_ret2
  exact ⟨rfl, hb⟩

set_option maxHeartbeats 400000 in
theorem anew_good (b c : Int) (w : World) (h : goodB b c = true) :
    Calls Tryd.prog 34 #[.int .i64 b, .int .i64 c, .bool true] w fun e w' => ∃ bn bs, e = .returned (.tuple #[.pointer (some ⟨bn, 0, none⟩), .bool true]) ∧ Below w.heap.size w w' ∧
      w.heap.size ≤ bs ∧ bs < bn ∧ w'.heap[bs]? = some (.cells (senderCells b c (.slice none 0 0) 0) 106 (0, 0)) ∧
      w'.heap[bn]? = some (.cells (netCells bs b c (.slice none 0 0) (.slice none 0 0) (.slice none 0 0)) 151 (0, 0)) := by
  go_enter Tryd.func34, Tryd.ntmps34
  go_wp2_with fail
  refine (senders_good b c _ h).mono ?_
  rintro e w1 ⟨bn, bs, rfl, hb, h1, h2, h3, h4⟩
  have H3 := h3
  have HG : Hid (w1.heap[bs]? = some (.cells (senderCells b c (.slice none 0 0) 0) 106 (0, 0))) := h3
  have HN : Hid (w1.heap[bn]? = some (.cells (netCells bs b c (.slice none 0 0) (.slice none 0 0) (.slice none 0 0)) 151 (0, 0))) := h4
  clear h3 h4 H3
  go_wp2
  go_ret2
  exact ⟨bn, bs, rfl, hb, h1, h2, HG.out, HN.out⟩

/-- The letters of a mark, behind the first. -/
def tailOf (n : Nat) : List UInt8 := if n = 0 then [] else UInt8.ofNat (65 + n % 10) :: tailOf (n / 10)
def markOf (n : Nat) : ByteArray := ⟨(109 :: tailOf n).toArray⟩

theorem tailOf_len (n : Nat) : (tailOf n).length ≤ n := by
  induction n using Nat.strongRecOn with
  | ind n ih =>
    unfold tailOf
    split
    · simp
    · have := ih (n / 10) (by omega)
      simp only [List.length_cons]
      omega

theorem mark_step (l : List UInt8) (k : Nat) : (⟨l.toArray⟩ : ByteArray) ++ strOfNums [65 + (k : Int) % 10] = ⟨(l ++ [UInt8.ofNat (65 + k % 10)]).toArray⟩ := by
  apply ByteArray.ext
  have e : (65 + (k : Int) % 10).toNat = 65 + k % 10 := by omega
  simp [strOfNums, e]

set_option maxHeartbeats 400000 in
theorem mark_any (n : Nat) (w : World) (hn : n ≤ 4611686018427387904) :
    Calls Tryd.prog 68 #[.int .i64 n] w fun e w' => e = .returned (.string (markOf n)) ∧ Below w.heap.size w w' := by
  go_enter Tryd.func68, Tryd.ntmps68
  go_wp2
  go_loopw [0, 3] (fun a s wr => ∃ (k : Nat) (l : List UInt8), k ≤ n ∧ a = .int .i64 k ∧ s = .string ⟨l.toArray⟩ ∧ l ++ tailOf k = 109 :: tailOf n ∧ Below w.heap.size w wr) (fun a _ _ => (intOf a).toNat)
  case atStart => exact ⟨n, [109], Nat.le_refl _, rfl, rfl, rfl, Below.refl _ _⟩
  case round =>
    obtain ⟨k, l, hk, rfl, rfl, hl, hb⟩ := hrel
    have HL : Hid (l ++ tailOf k = 109 :: tailOf n) := hl
    clear hl
    by_cases h0 : 0 < k
    · have e0 : (0 : Int) ≤ (k : Int) % 10 := Int.emod_nonneg _ (by omega)
      have e1 : (k : Int) % 10 < 10 := Int.emod_lt_of_pos _ (by omega)
      have hgt : (0 : Int) < (k : Int) := by omega
      have hcv : ∀ (W : World) (x : Int), (convert 114 9 (.slice (some ⟨W.heap.size, 0, none⟩) 1 1)).run Tryd.prog (W.alloc (.cells #[.int .u8 x] 5)) = .ok (.string (strOfNums [x])) (W.alloc (.cells #[.int .u8 x] 5)) := fun W x =>
        run_convert_bytes_arg (P := Tryd.prog) (W.alloc (.cells #[.int .u8 x] 5)) 114 5 Tryd.underlying114 Tryd.underlying5 W.heap.size 0 1 1 [x] rfl (fun i hi => by have e : i = 0 := (by omega); subst e; rw [cell_of_row _ _ _ _ _ _ (heap_alloc_new W _)]; rfl) 9 Tryd.underlying9
      have hsz : ∀ x : Int, (strOfNums [x]).size = 1 := fun _ => rfl
      have hll : l.length ≤ 4611686018427387905 := by
        have h := congrArg List.length HL.out
        have h2 := tailOf_len n
        simp only [List.length_append, List.length_cons] at h
        omega
      go_wp2
      refine ⟨⟨k / 10, l ++ [UInt8.ofNat (65 + k % 10)], by omega, by go_num, ?_, ?_, hb.alloc hb.size _⟩, by simp [intOf]; omega⟩
      · exact congrArg Value.string (mark_step l k)
      · have h := HL.out
        rw [tailOf, if_neg (by omega)] at h
        rw [← h]
        simp
    · obtain rfl : k = 0 := by omega
      go_wp2
      go_ret
      refine ⟨?_, hb⟩
      have h := HL.out
      rw [show tailOf 0 = [] by unfold tailOf; simp, List.append_nil] at h
      subst h
      rfl

end Go.Proofs.YtfbbidaoljfloaaDoor


namespace Go.Proofs.YtfbbidaoljfloaaDoor
open Go.RowKit

/-- One bit out of the rest. -/
def divB (r : Nat) : Nat := if r % 2 = 0 then r / 2 else (r / 2) ^^^ 3988292384
def divN : Nat → Nat → Nat
  | 0, r => r
  | k + 1, r => divB (divN k r)
theorem divB_lt (r : Nat) (h : r < 4294967296) : divB r < 4294967296 := by
  unfold divB
  split
  · omega
  · exact Nat.xor_lt_two_pow (n := 32) (by omega) (by decide)
theorem divN_lt (k r : Nat) (h : r < 4294967296) : divN k r < 4294967296 := by
  induction k with
  | zero => exact h
  | succ k ih => exact divB_lt _ ih
/-- What is left of the division behind some bytes. -/
def crcRest (ns : List Nat) : Nat := ns.foldl (fun r b => divN 8 (r ^^^ b)) 4294967295
def crc (ns : List Nat) : Nat := 4294967295 ^^^ crcRest ns
theorem xor_lt32 (a b : Nat) (ha : a < 4294967296) (hb : b < 4294967296) : a ^^^ b < 4294967296 := Nat.xor_lt_two_pow (n := 32) (by omega) (by omega)
theorem crcRest_lt (ns : List Nat) (h : ∀ b ∈ ns, b < 256) : crcRest ns < 4294967296 := by
  unfold crcRest
  have : ∀ (l : List Nat) (r : Nat), (∀ b ∈ l, b < 256) → r < 4294967296 → l.foldl (fun r b => divN 8 (r ^^^ b)) r < 4294967296 := by
    intro l
    induction l with
    | nil => intro r _ hr; exact hr
    | cons b l ih =>
      intro r hl hr
      have hb := hl b (by simp)
      exact ih _ (fun x hx => hl x (by simp [hx])) (divN_lt _ _ (xor_lt32 _ _ hr (by omega)))
  exact this ns _ h (by decide)
theorem crcRest_take (ns : List Nat) (k : Nat) (hk : k < ns.length) : crcRest (ns.take (k + 1)) = divN 8 (crcRest (ns.take k) ^^^ ns[k]) := by
  unfold crcRest
  rw [List.take_succ_eq_append_getElem hk, List.foldl_append]
  rfl

def byteRow (ns : List Nat) : List Value := ns.map (fun b : Nat => Value.int .u8 (b : Int))

set_option maxHeartbeats 400000 in
theorem divideBit_any (r : Nat) (hr : r < 4294967296) (w : World) :
    Calls Tryd.prog 118 #[.int .u32 r] w fun e w' => e = .returned (.int .u32 (divB r)) ∧ w' = w := by
  have hand : bits BinOp.and IntKind.u32 (r : Int) 1 = ((r &&& 1 : Nat) : Int) := u32_and_nat r 1 hr (by decide)
  rw [Nat.and_one_is_mod] at hand
  have hxor : bits BinOp.xor IntKind.u32 ((r : Int) / 2) 3988292384 = (((r / 2) ^^^ 3988292384 : Nat) : Int) := u32_xor_nat (r / 2) 3988292384 (by omega) (by decide)
  by_cases h0 : r % 2 = 0
  · have hb : (bits BinOp.and IntKind.u32 (r : Int) 1 == 0) = true := by rw [hand, h0]; rfl
    have HE : Hid (divB r = r / 2) := by unfold divB; rw [if_pos h0]; exact rfl
    clear hand hxor h0
    go_enter Tryd.func118, Tryd.ntmps118
    go_wp2
    go_ret
    exact ⟨ret_int (by rw [HE.out]; simp), rfl⟩
  · have hb : (bits BinOp.and IntKind.u32 (r : Int) 1 == 0) = false := by rw [hand, show r % 2 = 1 by omega]; rfl
    have HE : Hid (divB r = (r / 2) ^^^ 3988292384) := by unfold divB; rw [if_neg h0]; exact rfl
    have HX : Hid (bits BinOp.xor IntKind.u32 ((r : Int) / 2) 3988292384 = (((r / 2) ^^^ 3988292384 : Nat) : Int)) := hxor
    clear hand hxor h0
    go_enter Tryd.func118, Tryd.ntmps118
    go_wp2
    go_ret
    refine ⟨ret_int ?_, rfl⟩
    rw [HE.out]
    have := HX.out
    simpa using this

set_option maxHeartbeats 400000 in
theorem check_cells (g n cap : Nat) (ns : List Nat) (w : World) (hl : ns.length = n) (hb : ∀ b ∈ ns, b < 256) (hn : n ≤ 100000) (ho : ∀ (k x : Nat), ns[k]? = some x → w.cell? ⟨g, k, none⟩ = some (.int .u8 (x : Int))) :
    Calls Tryd.prog 102 #[.slice (some ⟨g, 0, none⟩) n cap] w fun e w' => e = .returned (.int .u32 (crc ns)) ∧ w' = w := by
  go_enter Tryd.func102, Tryd.ntmps102
  go_wp2
  go_loop [3, 8] (fun r i => ∃ k : Nat, k ≤ n ∧ i = .int .i64 k ∧ r = .int .u32 (crcRest (ns.take k))) (fun _ i => n - (intOf i).toNat)
  case atStart => exact ⟨0, Nat.zero_le _, rfl, rfl⟩
  case round =>
    obtain ⟨k, hk, rfl, rfl⟩ := hrel
    have hr := crcRest_lt (ns.take k) (fun b hm => hb b (List.mem_of_mem_take hm))
    by_cases hlt : k < n
    · have hlt' : (k : Int) < (n : Int) := by omega
      have hk0 : (0 : Int) ≤ (k : Int) := by omega
      have hbk := hb ns[k] (List.getElem_mem _)
      have hc : w.cell? ⟨g, k, none⟩ = some (.int .u8 (ns[k] : Int)) := ho k ns[k] (by simp)
      clear ho
      have HS : Hid (crcRest (ns.take (k + 1)) = divN 8 (crcRest (ns.take k) ^^^ ns[k])) := crcRest_take ns k (by omega)
      have hx : bits BinOp.xor IntKind.u32 (crcRest (ns.take k) : Int) (ns[k] : Int) = ((crcRest (ns.take k) ^^^ ns[k] : Nat) : Int) := u32_xor_nat _ _ hr (by omega)
      have hxl : crcRest (ns.take k) ^^^ ns[k] < 4294967296 := xor_lt32 _ _ hr (by omega)
      generalize ns[k] = b at *
      generalize crcRest (ns.take k) = r at *
      generalize r ^^^ b = x at *
      go_wp2
      go_loop [3, 16] (fun r i => ∃ j : Nat, j ≤ 8 ∧ i = .int .i64 j ∧ r = .int .u32 (divN j x)) (fun _ i => 8 - (intOf i).toNat)
      case atStart => exact ⟨0, Nat.zero_le _, rfl, rfl⟩
      case round =>
        obtain ⟨j, hj, rfl, rfl⟩ := hrel
        have hdl := divN_lt j x hxl
        by_cases hj8 : j < 8
        · have hj8' : (j : Int) < 8 := by omega
          go_wp2_with fail
          refine (divideBit_any (divN j x) hdl _).mono ?_
          rintro e w1 ⟨rfl, rfl⟩
          go_wp2
          refine ⟨⟨j + 1, by omega, by go_num, rfl⟩, by simp [intOf]; omega⟩
        · have hj8' : ¬ (j : Int) < 8 := by omega
          obtain rfl : j = 8 := by omega
          go_wp2
          go_round
          case rel => exact ⟨k + 1, by omega, by go_num, by rw [HS.out]⟩
          case measure => simp [intOf]; omega
    · have hlt' : ¬ (k : Int) < (n : Int) := by omega
      have HK : Hid (ns.take k = ns) := List.take_of_length_le (by omega)
      go_wp2
      go_ret
      refine ⟨ret_int ?_, rfl⟩
      rw [HK.out]
      exact u32_xor_nat 4294967295 _ (by decide) (crcRest_lt ns hb)

theorem check_any (g n cap : Nat) (ns : List Nat) (w : World) (hl : ns.length = n) (hb : ∀ b ∈ ns, b < 256) (hn : n ≤ 100000) (ho : w.ownsRow 0 5 1 (.slice (some ⟨g, 0, none⟩) n cap) n (byteRow ns)) :
    Calls Tryd.prog 102 #[.slice (some ⟨g, 0, none⟩) n cap] w fun e w' => e = .returned (.int .u32 (crc ns)) ∧ w' = w :=
  check_cells g n cap ns w hl hb hn (fun k x hx => owns_cell ho rfl (by simp [byteRow, hx]))

end Go.Proofs.YtfbbidaoljfloaaDoor


namespace Go.Proofs.YtfbbidaoljfloaaDoor
open Go.RowKit

/-- An object at a sender, the document's or the program's. -/
structure Thing where
  data : ByteArray
  nonce : Int
  st : Int
  sent : Int

def Thing.cells (o : Thing) : List Value := [.string o.data, .int .u64 o.nonce, .int .i64 o.st, .int .i64 o.sent]
def rowCells (l : List Thing) : List Value := l.flatMap Thing.cells

theorem rowCells_nil : rowCells [] = [] := rfl
theorem rowCells_cons (o : Thing) (l : List Thing) : rowCells (o :: l) = o.cells ++ rowCells l := rfl
theorem rowCells_append (a b : List Thing) : rowCells (a ++ b) = rowCells a ++ rowCells b := List.flatMap_append
theorem rowCells_len (l : List Thing) : (rowCells l).length = l.length * 4 := by
  induction l with
  | nil => rfl
  | cons o l ih => rw [rowCells_cons, List.length_append, ih, List.length_cons]; simp [Thing.cells]; omega

theorem rowCells_get {l : List Thing} {i : Nat} {o : Thing} (h : l[i]? = some o) (k : Nat) (hk : k < 4) : (rowCells l)[i * 4 + k]? = o.cells[k]? := by
  induction l generalizing i with
  | nil => simp at h
  | cons p l ih =>
    rw [rowCells_cons]
    cases i with
    | zero =>
      obtain rfl : p = o := by simpa using h
      rw [List.getElem?_append_left (by simp [Thing.cells]; omega)]
      simp
    | succ i =>
      rw [List.getElem?_append_right (by simp [Thing.cells]; omega)]
      have e : (i + 1) * 4 + k - p.cells.length = i * 4 + k := by simp [Thing.cells]; omega
      rw [e]
      exact ih (by simpa using h)

theorem rowCells_set {l : List Thing} {i : Nat} {o o' : Thing} {u : Value} (h : l[i]? = some o) (k : Nat) (hk : k < 4) (ho : o'.cells = o.cells.set k u) : (rowCells l).set (i * 4 + k) u = rowCells (l.set i o') := by
  induction l generalizing i with
  | nil => simp at h
  | cons p l ih =>
    cases i with
    | zero =>
      obtain rfl : p = o := by simpa using h
      simp only [List.set_cons_zero, rowCells_cons, ho]
      rw [List.set_append_left _ _ (by simp [Thing.cells]; omega)]
      simp
    | succ i =>
      simp only [List.set_cons_succ, rowCells_cons]
      rw [List.set_append_right _ _ (by simp [Thing.cells]; omega)]
      have e : (i + 1) * 4 + k - p.cells.length = i * 4 + k := by simp [Thing.cells]; omega
      rw [e, ih (by simpa using h)]

/-- The first one in a state; -1: none. -/
def findI (l : List Thing) (c : Int) : Int := match l.findIdx? (fun o => o.st == c) with | some i => (i : Int) | none => -1
def cntSt (l : List Thing) (c : Int) : Nat := l.countP (fun o => o.st == c)

theorem findI_at {l : List Thing} {c : Int} {k : Nat} {o : Thing} (h : l[k]? = some o) (ho : o.st = c) (hno : ∀ j p, j < k → l[j]? = some p → p.st ≠ c) : findI l c = k := by
  have e : l.findIdx? (fun o => o.st == c) = some k := by
    rw [List.findIdx?_eq_some_iff_getElem]
    obtain ⟨hk, hkk⟩ := List.getElem?_eq_some_iff.1 h
    refine ⟨hk, by rw [hkk]; simpa using ho, fun j hj => ?_⟩
    have := hno j l[j] hj (List.getElem?_eq_getElem (by omega))
    simpa using this
  simp [findI, e]
theorem findI_none {l : List Thing} {c : Int} (hno : ∀ (j : Nat) (p : Thing), l[j]? = some p → p.st ≠ c) : findI l c = -1 := by
  have e : l.findIdx? (fun o => o.st == c) = none := by
    rw [List.findIdx?_eq_none_iff]
    intro x hx
    obtain ⟨j, hj⟩ := List.mem_iff_getElem?.1 hx
    simpa using hno j x hj
  simp [findI, e]

theorem cntSt_take {l : List Thing} {c : Int} {k : Nat} {o : Thing} (h : l[k]? = some o) : cntSt (l.take (k + 1)) c = cntSt (l.take k) c + if o.st = c then 1 else 0 := by
  obtain ⟨hk, hkk⟩ := List.getElem?_eq_some_iff.1 h
  rw [cntSt, List.take_succ_eq_append_getElem hk, List.countP_append, hkk, ← cntSt]
  simp [List.countP_cons]
theorem cntSt_le (l : List Thing) (c : Int) : cntSt l c ≤ l.length := List.countP_le_length
theorem cntSt_take_le (l : List Thing) (c : Int) (k : Nat) : cntSt (l.take k) c ≤ k := Nat.le_trans (cntSt_le _ _) (List.length_take_le _ _)

/-- What is known of a row of things behind a slice. -/
structure Things (w : World) (e : TypeId) (sl : Option Addr) (n cap : Nat) (l : List Thing) : Prop where
  owns : w.ownsRow 0 e 4 (.slice sl n cap) n (rowCells l)
  len : l.length = n

theorem Things.at {w : World} {e : TypeId} {sl : Option Addr} {n cap : Nat} {l : List Thing} (h : Things w e sl n cap l) {k : Nat} (hk : k < n) : ∃ g o, sl = some ⟨g, 0, none⟩ ∧ l[k]? = some o ∧
    w.cell? ⟨g, k * 4, none⟩ = some (.string o.data) ∧ w.cell? ⟨g, k * 4 + 1, none⟩ = some (.int .u64 o.nonce) ∧ w.cell? ⟨g, k * 4 + 2, none⟩ = some (.int .i64 o.st) ∧ w.cell? ⟨g, k * 4 + 3, none⟩ = some (.int .i64 o.sent) ∧
    (∀ j, w.frozen? ⟨g, j, none⟩ = false) := by
  have hl := h.len
  obtain ⟨o, ho⟩ : ∃ o, l[k]? = some o := ⟨l[k], List.getElem?_eq_getElem (by omega)⟩
  rcases h.owns.2 with ⟨_, h0⟩ | ⟨g, cap', cur, hv, _⟩
  · omega
  · have hv' : (Value.slice sl n cap).ownBlock = some g := by rw [hv]; rfl
    obtain rfl : sl = some ⟨g, 0, none⟩ := by injection hv
    refine ⟨g, o, rfl, ho, ?_, ?_, ?_, ?_, fun j => owns_frozen h.owns hv' j⟩
    · exact owns_cell h.owns hv' (j := k * 4 + 0) (by rw [rowCells_get ho 0 (by omega)]; rfl)
    · exact owns_cell h.owns hv' (by rw [rowCells_get ho 1 (by omega)]; rfl)
    · exact owns_cell h.owns hv' (by rw [rowCells_get ho 2 (by omega)]; rfl)
    · exact owns_cell h.owns hv' (by rw [rowCells_get ho 3 (by omega)]; rfl)

set_option maxHeartbeats 400000 in
theorem find_any (bn : Nat) (c : Int) (sl : Option Addr) (n cap : Nat) (l : List Thing) (w : World) (hc : w.cell? ⟨bn, 4, none⟩ = some (.slice sl n cap)) (h : Things w 158 sl n cap l) (hn : n ≤ 100000) :
    Calls Tryd.prog 88 #[.pointer (some ⟨bn, 2, none⟩), .int .i64 c] w fun e w' => e = .returned (.int .i64 (findI l c)) ∧ w' = w := by
  go_enter Tryd.func88, Tryd.ntmps88
  go_wp2
  go_loop [5] (fun i => ∃ k : Nat, k ≤ n ∧ i = .int .i64 k ∧ ∀ j p, j < k → l[j]? = some p → p.st ≠ c) (fun i => n - (intOf i).toNat)
  case atStart => exact ⟨0, Nat.zero_le _, rfl, fun j p hj => by omega⟩
  case round =>
    obtain ⟨k, hk, rfl, hno⟩ := hrel
    have HN : Hid (∀ j p, j < k → l[j]? = some p → p.st ≠ c) := hno
    clear hno
    by_cases hlt : k < n
    · obtain ⟨g, o, rfl, ho, _, _, h2, _, _⟩ := h.at hlt
      have HO : Hid (l[k]? = some o) := ho
      clear ho
      have hlt' : (k : Int) < (n : Int) := by omega
      by_cases he : o.st = c
      · subst he
        go_wp2
        go_ret
        exact ⟨ret_int (findI_at HO.out rfl HN.out).symm, rfl⟩
      · have hb : (o.st == c) = false := by simpa using he
        go_wp2
        refine ⟨⟨k + 1, by omega, by go_num, fun j p hj hp => ?_⟩, by simp [intOf]; omega⟩
        by_cases hjk : j < k
        · exact HN.out j p hjk hp
        · obtain rfl : j = k := by omega
          have := HO.out
          rw [hp] at this
          obtain rfl : p = o := by simpa using this
          exact he
    · have hlt' : ¬ (k : Int) < (n : Int) := by omega
      go_wp2
      go_ret
      refine ⟨ret_int ?_, rfl⟩
      rw [findI_none]
      intro j p hp
      have := h.len
      exact HN.out j p (by have := (List.getElem?_eq_some_iff.1 hp).1; omega) hp

set_option maxHeartbeats 400000 in
theorem in_any (bn : Nat) (c : Int) (sl : Option Addr) (n cap : Nat) (l : List Thing) (w : World) (hc : w.cell? ⟨bn, 4, none⟩ = some (.slice sl n cap)) (h : Things w 158 sl n cap l) (hn : n ≤ 100000) :
    Calls Tryd.prog 107 #[.pointer (some ⟨bn, 2, none⟩), .int .i64 c] w fun e w' => e = .returned (.int .i64 (cntSt l c)) ∧ w' = w := by
  go_enter Tryd.func107, Tryd.ntmps107
  go_wp2
  go_loop [5, 6] (fun m i => ∃ k : Nat, k ≤ n ∧ i = .int .i64 k ∧ m = .int .i64 (cntSt (l.take k) c)) (fun _ i => n - (intOf i).toNat)
  case atStart => exact ⟨0, Nat.zero_le _, rfl, rfl⟩
  case round =>
    obtain ⟨k, hk, rfl, rfl⟩ := hrel
    have hcl := cntSt_take_le l c k
    by_cases hlt : k < n
    · obtain ⟨g, o, rfl, ho, _, _, h2, _, _⟩ := h.at hlt
      have HS : Hid (cntSt (l.take (k + 1)) c = cntSt (l.take k) c + if o.st = c then 1 else 0) := cntSt_take ho
      clear ho
      have hlt' : (k : Int) < (n : Int) := by omega
      by_cases he : o.st = c
      · subst he
        go_wp2
        refine ⟨⟨k + 1, by omega, by go_num, ?_⟩, by simp [intOf]; omega⟩
        rw [HS.out, if_pos rfl]
        go_num
      · have hb : (o.st == c) = false := by simpa using he
        go_wp2
        refine ⟨⟨k + 1, by omega, by go_num, ?_⟩, by simp [intOf]; omega⟩
        rw [HS.out, if_neg he]
        go_num
    · have hlt' : ¬ (k : Int) < (n : Int) := by omega
      go_wp2
      go_ret
      refine ⟨ret_int ?_, rfl⟩
      rw [List.take_of_length_le (by have := h.len; omega)]

end Go.Proofs.YtfbbidaoljfloaaDoor
