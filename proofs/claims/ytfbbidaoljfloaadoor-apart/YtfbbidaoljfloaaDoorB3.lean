import Derived.Test.YtfbbidaoljfloaaDoorB1
import Derived.Test.YtfbbidaoljfloaaDoorW4
import Derived.WalkKit
import Derived.Laws.BytesArg
namespace Go.Proofs.YtfbbidaoljfloaaDoor
open Go.RowKit Go.Deep

theorem notOp : ∀ (x : Bool) (w : World), (Op.unary .not (.bool x)).run Tryd.prog w = .ok (.bool (!x)) w := fun _ _ => rfl

theorem bcell {W w1 : World} {B : Nat} (hb : Below B W w1) : (∀ b o, b < B → w1.cell? ⟨b, o, none⟩ = W.cell? ⟨b, o, none⟩) ∧ (∀ b o, b < B → w1.frozen? ⟨b, o, none⟩ = W.frozen? ⟨b, o, none⟩) :=
  ⟨fun b o h => hb.cell (p := ⟨b, o, none⟩) h, fun b o h => hb.frozen (p := ⟨b, o, none⟩) h⟩

set_option maxHeartbeats 400000 in
theorem pickNet_any (c : Int) (n : Nat) (w : World) (h1 : -9223372036854775808 ≤ c) (h2 : c ≤ 9223372036854775807) (hn : 0 < n) (hn2 : n ≤ 4611686018427387904) :
    Calls Tryd.prog 51 #[.int .i64 c, .int .i64 n] w fun e w' => ∃ k : Nat, k < n ∧ e = .returned (.int .i64 k) ∧ w' = w := by
  have hn' : (0 : Int) < (n : Int) := by omega
  by_cases hc : c < 0
  · have e0 : 0 ≤ (-(c + 1)) % (n : Int) := Int.emod_nonneg _ (by omega)
    have e1 : (-(c + 1)) % (n : Int) < n := Int.emod_lt_of_pos _ (by omega)
    have e2 : 0 ≤ -(c + 1) := by omega
    have hneg : ∀ w : World, (Op.unary .neg (.int .i64 (c + 1))).run Tryd.prog w = .ok (.int .i64 (-(c + 1))) w := fun w => by
      have e : IntKind.i64.wrap (-(c + 1)) = -(c + 1) := by simp [IntKind.wrap, IntKind.signed, IntKind.bits]; omega
      simp [go_sem, e]
    go_enter Tryd.func51, Tryd.ntmps51
    go_wp2
    go_ret
    have e3 : -((c + 1).tmod (n : Int)) = -(c + 1) % (n : Int) := by rw [← Int.neg_tmod, Int.tmod_eq_emod_of_nonneg (by omega)]
    exact ⟨(-(c + 1) % (n : Int)).toNat, by omega, ret_int (by omega), rfl⟩
  · have e0 : 0 ≤ c % (n : Int) := Int.emod_nonneg _ (by omega)
    have e1 : c % (n : Int) < n := Int.emod_lt_of_pos _ (by omega)
    have e2 : 0 ≤ c := by omega
    go_enter Tryd.func51, Tryd.ntmps51
    go_wp2
    go_ret
    exact ⟨(c % (n : Int)).toNat, by omega, ret_int (by omega), rfl⟩

set_option maxHeartbeats 400000 in
theorem pick_any (c : Int) (n : Nat) (w : World) (h1 : -9223372036854775808 ≤ c) (h2 : c ≤ 9223372036854775807) (hn : 0 < n) (hn2 : n ≤ 4611686018427387904) :
    Calls Tryd.prog 35 #[.int .i64 c, .int .i64 n] w fun e w' => ∃ k : Nat, k < n ∧ e = .returned (.int .i64 k) ∧ w' = w := by
  go_enter Tryd.func35, Tryd.ntmps35
  go_wp2_with fail
  refine (pickNet_any c n _ h1 h2 hn hn2).mono ?_
  rintro e w1 ⟨k, hk, rfl, rfl⟩
  go_wp2
  go_ret
  exact ⟨k, hk, rfl, rfl⟩

set_option maxHeartbeats 400000 in
theorem state_any (n : Int) (w : World) : Calls Tryd.prog 63 #[.int .i64 n] w fun e w' => e = .returned (.int .i64 n) ∧ w' = w := by
  go_enter Tryd.func63, Tryd.ntmps63
  go_wp2
  go_ret
  exact ⟨rfl, rfl⟩

def goodB (b c : Int) : Bool := decide (1 ≤ b ∧ b ≤ 32 ∧ 1 ≤ c ∧ c ≤ 1000)

theorem ret_bool {a b : Bool} (h : a = b) : Ending.returned (.bool a) = .returned (.bool b) := by rw [h]

set_option maxHeartbeats 400000 in
theorem good_any (b c : Int) (w : World) : Calls Tryd.prog 86 #[.int .i64 b, .int .i64 c] w fun e w' => e = .returned (.bool (goodB b c)) ∧ w' = w := by
  go_enter Tryd.func86, Tryd.ntmps86
  go_wp2
  all_goals go_ret
  all_goals exact ⟨ret_bool (by unfold goodB; rw [Bool.eq_iff_iff]; simp; omega), rfl⟩

set_option maxHeartbeats 400000 in
theorem valid_any (b c : Int) (w : World) : Calls Tryd.prog 54 #[.agg #[.int .i64 b, .int .i64 c]] w fun e w' => e = .returned (.bool (goodB b c)) ∧ Below w.heap.size w w' := by
  go_enter Tryd.func54, Tryd.ntmps54
  go_wp2
  all_goals go_ret
  all_goals exact ⟨ret_bool (by unfold goodB; rw [Bool.eq_iff_iff]; simp; omega), (Below.refl _ _).alloc (Nat.le_refl _) _⟩

def senderCells (blk bud : Int) (pv : Value) (en : Int) : Array Value := #[.int .i32 0, .int .u32 0, .int .i64 blk, .int .i64 bud, pv, .int .i64 en]

set_option maxHeartbeats 400000 in
theorem newSender_bad (b c : Int) (w : World) (h : goodB b c = false) :
    Calls Tryd.prog 38 #[.agg #[.int .i64 b, .int .i64 c]] w fun e w' => e = .returned (.tuple #[.pointer none, .int .i64 1]) ∧ Below w.heap.size w w' := by
  have hnot := notOp
  go_enter Tryd.func38, Tryd.ntmps38
  go_wp2_with fail
  refine (valid_any b c _).mono ?_
  rintro e w1 ⟨rfl, hb⟩
  rw [h]
  go_wp2
  go_ret2
  exact ⟨rfl, ((Below.refl _ _).alloc (Nat.le_refl _) _).trans (hb.mono (by simp))⟩

set_option maxHeartbeats 400000 in
theorem newSender_good (b c : Int) (w : World) (h : goodB b c = true) :
    Calls Tryd.prog 38 #[.agg #[.int .i64 b, .int .i64 c]] w fun e w' => ∃ g, e = .returned (.tuple #[.pointer (some ⟨g, 0, none⟩), .int .i64 0]) ∧ Below w.heap.size w w' ∧
      w.heap.size ≤ g ∧ w'.heap[g]? = some (.cells (senderCells b c (.slice none 0 0) 0) 106 (0, 0)) := by
  have hnot := notOp
  go_enter Tryd.func38, Tryd.ntmps38
  go_wp2_with fail
  refine (valid_any b c _).mono ?_
  rintro e w1 ⟨rfl, hb⟩
  rw [h]
  obtain ⟨hc, hf⟩ := bcell hb
  go_wp2
  have hs := hb.size
  simp at hs
  go_ret2
  exact ⟨w1.heap.size, rfl, (((Below.refl _ _).alloc (Nat.le_refl _) _).trans (hb.mono (by simp))).alloc (by omega) _, by omega, heap_alloc_new _ _⟩

def netCells (bs : Nat) (blk bud : Int) (rv wv hv : Value) : Array Value :=
  #[.pointer (some ⟨bs, 0, none⟩), .pointer none, .int .i64 blk, .int .i64 bud, rv, .int .i64 0, .int .i64 0, .slice none 0 0, .slice none 0 0, .int .i64 0, wv, hv]

set_option maxHeartbeats 400000 in
theorem senders_bad (b c : Int) (w : World) (h : goodB b c = false) :
    Calls Tryd.prog 58 #[.int .i64 b, .int .i64 c] w fun e w' => e = .returned (.tuple #[.pointer none, .bool true]) ∧ Below w.heap.size w w' := by
  have hnot := notOp
  go_enter Tryd.func58, Tryd.ntmps58
  go_wp2_with fail
  refine (newSender_bad b c _ h).mono ?_
  rintro e w1 ⟨rfl, hb⟩
  go_wp2_with fail
  refine (good_any b c _).mono ?_
  rintro e w2 ⟨rfl, rfl⟩
  rw [h]
  go_wp2
  go_ret2
  exact ⟨rfl, ((Below.refl _ _).alloc (Nat.le_refl _) _).trans (hb.mono (by simp))⟩

set_option maxHeartbeats 400000 in
theorem senders_good (b c : Int) (w : World) (h : goodB b c = true) :
    Calls Tryd.prog 58 #[.int .i64 b, .int .i64 c] w fun e w' => ∃ bn bs, e = .returned (.tuple #[.pointer (some ⟨bn, 0, none⟩), .bool true]) ∧ Below w.heap.size w w' ∧
      w.heap.size ≤ bs ∧ bs < bn ∧ w'.heap[bs]? = some (.cells (senderCells b c (.slice none 0 0) 0) 106 (0, 0)) ∧
      w'.heap[bn]? = some (.cells (netCells bs b c (.slice none 0 0) (.slice none 0 0) (.slice none 0 0)) 151 (0, 0)) := by
  have hnot := notOp
  go_enter Tryd.func58, Tryd.ntmps58
  go_wp2_with fail
  refine (newSender_good b c _ h).mono ?_
  rintro e w1 ⟨g, rfl, hb, hg, hgc⟩
  go_wp2_with fail
  refine (good_any b c _).mono ?_
  rintro e w2 ⟨rfl, rfl⟩
  rw [h]
  have hs := hb.size
  simp at hs hg
  have hlt := lt_of_heap hgc
  have HG : Hid (w2.heap[g]? = some (.cells (senderCells b c (.slice none 0 0) 0) 106 (0, 0))) := hgc
  clear hgc
  go_wp2
  go_ret2
  refine ⟨w2.heap.size, g, rfl, (((Below.refl _ _).alloc (Nat.le_refl _) _).trans (hb.mono (by simp))).alloc (by omega) _, by omega, hlt, ?_, heap_alloc_new _ _⟩
  rw [Below.heap_alloc _ _ _ hlt]
  exact HG.out

set_option maxHeartbeats 400000 in
theorem anew_bad (b c : Int) (w : World) (h : goodB b c = false) :
    Calls Tryd.prog 34 #[.int .i64 b, .int .i64 c, .bool true] w fun e w' => e = .returned (.tuple #[.pointer none, .bool true]) ∧ Below w.heap.size w w' := by
  go_enter Tryd.func34, Tryd.ntmps34
  go_wp2_with fail
  refine (senders_bad b c _ h).mono ?_
  rintro e w1 ⟨rfl, hb⟩
  go_wp2
  go_ret2
  exact ⟨rfl, hb⟩

set_option maxHeartbeats 400000 in
theorem anew_good (b c : Int) (w : World) (h : goodB b c = true) :
    Calls Tryd.prog 34 #[.int .i64 b, .int .i64 c, .bool true] w fun e w' => ∃ bn bs, e = .returned (.tuple #[.pointer (some ⟨bn, 0, none⟩), .bool true]) ∧ Below w.heap.size w w' ∧
      w.heap.size ≤ bs ∧ bs < bn ∧ w'.heap[bs]? = some (.cells (senderCells b c (.slice none 0 0) 0) 106 (0, 0)) ∧
      w'.heap[bn]? = some (.cells (netCells bs b c (.slice none 0 0) (.slice none 0 0) (.slice none 0 0)) 151 (0, 0)) := by
  go_enter Tryd.func34, Tryd.ntmps34
  go_wp2_with fail
  refine (senders_good b c _ h).mono ?_
  rintro e w1 ⟨bn, bs, rfl, hb, h1, h2, h3, h4⟩
  have H3 := h3
  have HG : Hid (w1.heap[bs]? = some (.cells (senderCells b c (.slice none 0 0) 0) 106 (0, 0))) := h3
  have HN : Hid (w1.heap[bn]? = some (.cells (netCells bs b c (.slice none 0 0) (.slice none 0 0) (.slice none 0 0)) 151 (0, 0))) := h4
  clear h3 h4 H3
  go_wp2
  go_ret2
  exact ⟨bn, bs, rfl, hb, h1, h2, HG.out, HN.out⟩

/-- The letters of a mark, behind the first. -/
def tailOf (n : Nat) : List UInt8 := if n = 0 then [] else UInt8.ofNat (65 + n % 10) :: tailOf (n / 10)
def markOf (n : Nat) : ByteArray := ⟨(109 :: tailOf n).toArray⟩

theorem tailOf_len (n : Nat) : (tailOf n).length ≤ n := by
  induction n using Nat.strongRecOn with
  | ind n ih =>
    unfold tailOf
    split
    · simp
    · have := ih (n / 10) (by omega)
      simp only [List.length_cons]
      omega

theorem mark_step (l : List UInt8) (k : Nat) : (⟨l.toArray⟩ : ByteArray) ++ strOfNums [65 + (k : Int) % 10] = ⟨(l ++ [UInt8.ofNat (65 + k % 10)]).toArray⟩ := by
  apply ByteArray.ext
  have e : (65 + (k : Int) % 10).toNat = 65 + k % 10 := by omega
  simp [strOfNums, e]

set_option maxHeartbeats 400000 in
theorem mark_any (n : Nat) (w : World) (hn : n ≤ 4611686018427387904) :
    Calls Tryd.prog 68 #[.int .i64 n] w fun e w' => e = .returned (.string (markOf n)) ∧ Below w.heap.size w w' := by
  go_enter Tryd.func68, Tryd.ntmps68
  go_wp2
  go_loopw [0, 3] (fun a s wr => ∃ (k : Nat) (l : List UInt8), k ≤ n ∧ a = .int .i64 k ∧ s = .string ⟨l.toArray⟩ ∧ l ++ tailOf k = 109 :: tailOf n ∧ Below w.heap.size w wr) (fun a _ _ => (intOf a).toNat)
  case atStart => exact ⟨n, [109], Nat.le_refl _, rfl, rfl, rfl, Below.refl _ _⟩
  case round =>
    obtain ⟨k, l, hk, rfl, rfl, hl, hb⟩ := hrel
    have HL : Hid (l ++ tailOf k = 109 :: tailOf n) := hl
    clear hl
    by_cases h0 : 0 < k
    · have e0 : (0 : Int) ≤ (k : Int) % 10 := Int.emod_nonneg _ (by omega)
      have e1 : (k : Int) % 10 < 10 := Int.emod_lt_of_pos _ (by omega)
      have hgt : (0 : Int) < (k : Int) := by omega
      have hcv : ∀ (W : World) (x : Int), (convert 114 9 (.slice (some ⟨W.heap.size, 0, none⟩) 1 1)).run Tryd.prog (W.alloc (.cells #[.int .u8 x] 5)) = .ok (.string (strOfNums [x])) (W.alloc (.cells #[.int .u8 x] 5)) := fun W x =>
        run_convert_bytes_arg (P := Tryd.prog) (W.alloc (.cells #[.int .u8 x] 5)) 114 5 Tryd.underlying114 Tryd.underlying5 W.heap.size 0 1 1 [x] rfl (fun i hi => by have e : i = 0 := (by omega); subst e; rw [cell_of_row _ _ _ _ _ _ (heap_alloc_new W _)]; rfl) 9 Tryd.underlying9
      have hsz : ∀ x : Int, (strOfNums [x]).size = 1 := fun _ => rfl
      have hll : l.length ≤ 4611686018427387905 := by
        have h := congrArg List.length HL.out
        have h2 := tailOf_len n
        simp only [List.length_append, List.length_cons] at h
        omega
      go_wp2
      refine ⟨⟨k / 10, l ++ [UInt8.ofNat (65 + k % 10)], by omega, by go_num, ?_, ?_, hb.alloc hb.size _⟩, by simp [intOf]; omega⟩
      · exact congrArg Value.string (mark_step l k)
      · have h := HL.out
        rw [tailOf, if_neg (by omega)] at h
        rw [← h]
        simp
    · obtain rfl : k = 0 := by omega
      go_wp2
      go_ret
      refine ⟨?_, hb⟩
      have h := HL.out
      rw [show tailOf 0 = [] by unfold tailOf; simp, List.append_nil] at h
      subst h
      rfl

end Go.Proofs.YtfbbidaoljfloaaDoor
