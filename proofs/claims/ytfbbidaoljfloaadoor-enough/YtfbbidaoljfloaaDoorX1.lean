import Derived.Test.YtfbbidaoljfloaaDoorB3
import Derived.Laws.BitsAllLaws
namespace Go.Proofs.YtfbbidaoljfloaaDoor
open Go.RowKit

/-- One bit out of the rest. -/
def divB (r : Nat) : Nat := if r % 2 = 0 then r / 2 else (r / 2) ^^^ 3988292384
def divN : Nat → Nat → Nat
  | 0, r => r
  | k + 1, r => divB (divN k r)
theorem divB_lt (r : Nat) (h : r < 4294967296) : divB r < 4294967296 := by
  unfold divB
  split
  · omega
  · exact Nat.xor_lt_two_pow (n := 32) (by omega) (by decide)
theorem divN_lt (k r : Nat) (h : r < 4294967296) : divN k r < 4294967296 := by
  induction k with
  | zero => exact h
  | succ k ih => exact divB_lt _ ih
/-- What is left of the division behind some bytes. -/
def crcRest (ns : List Nat) : Nat := ns.foldl (fun r b => divN 8 (r ^^^ b)) 4294967295
def crc (ns : List Nat) : Nat := 4294967295 ^^^ crcRest ns
theorem xor_lt32 (a b : Nat) (ha : a < 4294967296) (hb : b < 4294967296) : a ^^^ b < 4294967296 := Nat.xor_lt_two_pow (n := 32) (by omega) (by omega)
theorem crcRest_lt (ns : List Nat) (h : ∀ b ∈ ns, b < 256) : crcRest ns < 4294967296 := by
  unfold crcRest
  have : ∀ (l : List Nat) (r : Nat), (∀ b ∈ l, b < 256) → r < 4294967296 → l.foldl (fun r b => divN 8 (r ^^^ b)) r < 4294967296 := by
    intro l
    induction l with
    | nil => intro r _ hr; exact hr
    | cons b l ih =>
      intro r hl hr
      have hb := hl b (by simp)
      exact ih _ (fun x hx => hl x (by simp [hx])) (divN_lt _ _ (xor_lt32 _ _ hr (by omega)))
  exact this ns _ h (by decide)
theorem crcRest_take (ns : List Nat) (k : Nat) (hk : k < ns.length) : crcRest (ns.take (k + 1)) = divN 8 (crcRest (ns.take k) ^^^ ns[k]) := by
  unfold crcRest
  rw [List.take_succ_eq_append_getElem hk, List.foldl_append]
  rfl

def byteRow (ns : List Nat) : List Value := ns.map (fun b : Nat => Value.int .u8 (b : Int))

set_option maxHeartbeats 400000 in
theorem divideBit_any (r : Nat) (hr : r < 4294967296) (w : World) :
    Calls Tryd.prog 118 #[.int .u32 r] w fun e w' => e = .returned (.int .u32 (divB r)) ∧ w' = w := by
  have hand : bits BinOp.and IntKind.u32 (r : Int) 1 = ((r &&& 1 : Nat) : Int) := u32_and_nat r 1 hr (by decide)
  rw [Nat.and_one_is_mod] at hand
  have hxor : bits BinOp.xor IntKind.u32 ((r : Int) / 2) 3988292384 = (((r / 2) ^^^ 3988292384 : Nat) : Int) := u32_xor_nat (r / 2) 3988292384 (by omega) (by decide)
  by_cases h0 : r % 2 = 0
  · have hb : (bits BinOp.and IntKind.u32 (r : Int) 1 == 0) = true := by rw [hand, h0]; rfl
    have HE : Hid (divB r = r / 2) := by unfold divB; rw [if_pos h0]; exact rfl
    clear hand hxor h0
    go_enter Tryd.func118, Tryd.ntmps118
    go_wp2
    go_ret
    exact ⟨ret_int (by rw [HE.out]; simp), rfl⟩
  · have hb : (bits BinOp.and IntKind.u32 (r : Int) 1 == 0) = false := by rw [hand, show r % 2 = 1 by omega]; rfl
    have HE : Hid (divB r = (r / 2) ^^^ 3988292384) := by unfold divB; rw [if_neg h0]; exact rfl
    have HX : Hid (bits BinOp.xor IntKind.u32 ((r : Int) / 2) 3988292384 = (((r / 2) ^^^ 3988292384 : Nat) : Int)) := hxor
    clear hand hxor h0
    go_enter Tryd.func118, Tryd.ntmps118
    go_wp2
    go_ret
    refine ⟨ret_int ?_, rfl⟩
    rw [HE.out]
    have := HX.out
    simpa using this

set_option maxHeartbeats 400000 in
theorem check_cells (g n cap : Nat) (ns : List Nat) (w : World) (hl : ns.length = n) (hb : ∀ b ∈ ns, b < 256) (hn : n ≤ 100000) (ho : ∀ (k x : Nat), ns[k]? = some x → w.cell? ⟨g, k, none⟩ = some (.int .u8 (x : Int))) :
    Calls Tryd.prog 102 #[.slice (some ⟨g, 0, none⟩) n cap] w fun e w' => e = .returned (.int .u32 (crc ns)) ∧ w' = w := by
  go_enter Tryd.func102, Tryd.ntmps102
  go_wp2
  go_loop [3, 8] (fun r i => ∃ k : Nat, k ≤ n ∧ i = .int .i64 k ∧ r = .int .u32 (crcRest (ns.take k))) (fun _ i => n - (intOf i).toNat)
  case atStart => exact ⟨0, Nat.zero_le _, rfl, rfl⟩
  case round =>
    obtain ⟨k, hk, rfl, rfl⟩ := hrel
    have hr := crcRest_lt (ns.take k) (fun b hm => hb b (List.mem_of_mem_take hm))
    by_cases hlt : k < n
    · have hlt' : (k : Int) < (n : Int) := by omega
      have hk0 : (0 : Int) ≤ (k : Int) := by omega
      have hbk := hb ns[k] (List.getElem_mem _)
      have hc : w.cell? ⟨g, k, none⟩ = some (.int .u8 (ns[k] : Int)) := ho k ns[k] (by simp)
      clear ho
      have HS : Hid (crcRest (ns.take (k + 1)) = divN 8 (crcRest (ns.take k) ^^^ ns[k])) := crcRest_take ns k (by omega)
      have hx : bits BinOp.xor IntKind.u32 (crcRest (ns.take k) : Int) (ns[k] : Int) = ((crcRest (ns.take k) ^^^ ns[k] : Nat) : Int) := u32_xor_nat _ _ hr (by omega)
      have hxl : crcRest (ns.take k) ^^^ ns[k] < 4294967296 := xor_lt32 _ _ hr (by omega)
      generalize ns[k] = b at *
      generalize crcRest (ns.take k) = r at *
      generalize r ^^^ b = x at *
      go_wp2
      go_loop [3, 16] (fun r i => ∃ j : Nat, j ≤ 8 ∧ i = .int .i64 j ∧ r = .int .u32 (divN j x)) (fun _ i => 8 - (intOf i).toNat)
      case atStart => exact ⟨0, Nat.zero_le _, rfl, rfl⟩
      case round =>
        obtain ⟨j, hj, rfl, rfl⟩ := hrel
        have hdl := divN_lt j x hxl
        by_cases hj8 : j < 8
        · have hj8' : (j : Int) < 8 := by omega
          go_wp2_with fail
          refine (divideBit_any (divN j x) hdl _).mono ?_
          rintro e w1 ⟨rfl, rfl⟩
          go_wp2
          refine ⟨⟨j + 1, by omega, by go_num, rfl⟩, by simp [intOf]; omega⟩
        · have hj8' : ¬ (j : Int) < 8 := by omega
          obtain rfl : j = 8 := by omega
          go_wp2
          go_round
          case rel => exact ⟨k + 1, by omega, by go_num, by rw [HS.out]⟩
          case measure => simp [intOf]; omega
    · have hlt' : ¬ (k : Int) < (n : Int) := by omega
      have HK : Hid (ns.take k = ns) := List.take_of_length_le (by omega)
      go_wp2
      go_ret
      refine ⟨ret_int ?_, rfl⟩
      rw [HK.out]
      exact u32_xor_nat 4294967295 _ (by decide) (crcRest_lt ns hb)

theorem check_any (g n cap : Nat) (ns : List Nat) (w : World) (hl : ns.length = n) (hb : ∀ b ∈ ns, b < 256) (hn : n ≤ 100000) (ho : w.ownsRow 0 5 1 (.slice (some ⟨g, 0, none⟩) n cap) n (byteRow ns)) :
    Calls Tryd.prog 102 #[.slice (some ⟨g, 0, none⟩) n cap] w fun e w' => e = .returned (.int .u32 (crc ns)) ∧ w' = w :=
  check_cells g n cap ns w hl hb hn (fun k x hx => owns_cell ho rfl (by simp [byteRow, hx]))

end Go.Proofs.YtfbbidaoljfloaaDoor
