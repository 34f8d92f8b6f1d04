import Derived.Test.YtfbbidaoljfloaaDoorJ7
import Derived.Test.YtfbbidaoljfloaaDoorB2
import Derived.Test.YtfbbidaoljfloaaDoorB4
import Derived.Defers
namespace Go.Proofs.YtfbbidaoljfloaaDoor
open Go.RowKit Go.MuLone

theorem _root_.Go.RowKit.Below.drewN {B : Nat} {a w : World} (h : Below B a w) (n : Nat) : Below B a (w.drewN n) := ⟨h.os, h.tape, h.output, h.size, h.block⟩

theorem Things.below {w w' : World} {e : TypeId} {sl : Option Addr} {n cap : Nat} {l : List Thing} (h : Things w e sl n cap l) {B : Nat} (hb : Below B w w') (hB : w.heap.size ≤ B) : Things w' e sl n cap l :=
  ⟨(Turn.below (S := []) hb hB).owns h.owns (fun _ _ => by simp), h.len⟩

theorem Things.cap {w : World} {e : TypeId} {sl : Option Addr} {n cap : Nat} {l : List Thing} (h : Things w e sl n cap l) : n ≤ cap ∧ cap ≤ 9223372036854775807 := by
  rcases h.owns.2 with ⟨h0, h1⟩ | ⟨g', cap', cur, hv, _, _, q1, q2, _⟩
  · have e : cap = 0 := by injection h0
    omega
  · have e : cap = cap' := by injection hv
    unfold maxLen at q2
    omega

set_option maxHeartbeats 400000 in
theorem waiting_none (bs : Nat) (sl : Option Addr) (n cap : Nat) (l : List Thing) (w : World) (hc : w.cell? ⟨bs, 4, none⟩ = some (.slice sl n cap)) (he : w.cell? ⟨bs, 5, none⟩ = some (.int .i64 n)) (h : Things w 110 sl n cap l) (hn : n ≤ 500) :
    Calls Tryd.prog 41 #[.pointer (some ⟨bs, 0, none⟩)] w fun e w' => e = .returned (.int .i64 0) ∧ Below w.heap.size w w' := by
  obtain ⟨k1, k2⟩ := h.cap
  have b1 : (0 : Int) ≤ (n : Int) := by omega
  have b3 : (n : Int) ≤ (cap : Int) := by omega
  rcases h.owns.2 with ⟨h0, h1⟩ | ⟨g', cap', cur, hv, _⟩
  · subst h1
    obtain ⟨rfl, rfl⟩ : sl = none ∧ cap = 0 := by injection h0; simp_all
    go_enter Tryd.func41, Tryd.ntmps41
    go_wp2
    go_quiet (fail)
    go_wp2
    go_loopw [3, 16] (fun m i wr => i = .int .i64 0 ∧ m = .int .i64 0 ∧ Below w.heap.size w wr) (fun _ _ _ => 0)
    case atStart => exact ⟨rfl, rfl, (Below.refl _ _).drewN _⟩
    case round =>
      obtain ⟨rfl, rfl, hb⟩ := hrel
      go_wp2
      go_ret
      exact ⟨rfl, hb⟩
  · obtain rfl : sl = some ⟨g', 0, none⟩ := by injection hv
    by_cases b5 : cap = n
    · subst b5
      go_enter Tryd.func41, Tryd.ntmps41
      go_wp2
      go_quiet (fail)
      go_wp2
      go_loopw [3, 16] (fun m i wr => i = .int .i64 0 ∧ m = .int .i64 0 ∧ Below w.heap.size w wr) (fun _ _ _ => 0)
      case atStart => exact ⟨rfl, rfl, (Below.refl _ _).drewN _⟩
      case round =>
        obtain ⟨rfl, rfl, hb⟩ := hrel
        go_wp2
        go_ret
        exact ⟨rfl, hb⟩
    · go_enter Tryd.func41, Tryd.ntmps41
      go_wp2
      go_quiet (fail)
      go_wp2
      go_loopw [3, 16] (fun m i wr => i = .int .i64 0 ∧ m = .int .i64 0 ∧ Below w.heap.size w wr) (fun _ _ _ => 0)
      case atStart => exact ⟨rfl, rfl, (Below.refl _ _).drewN _⟩
      case round =>
        obtain ⟨rfl, rfl, hb⟩ := hrel
        go_wp2
        go_ret
        exact ⟨rfl, hb⟩

set_option maxHeartbeats 400000 in
theorem waiting_some (bs : Nat) (sl : Option Addr) (n cap en : Nat) (l : List Thing) (w : World) (hc : w.cell? ⟨bs, 4, none⟩ = some (.slice sl n cap)) (he : w.cell? ⟨bs, 5, none⟩ = some (.int .i64 en)) (h : Things w 110 sl n cap l) (hn : n ≤ 500) (hen : en < n) :
    Calls Tryd.prog 41 #[.pointer (some ⟨bs, 0, none⟩)] w fun e w' => e = .returned (.int .i64 (cntSt (l.drop en) 1)) ∧ Below w.heap.size w w' := by
  obtain ⟨g, o, hsl, ho, c0, c1, c2, c3, hfz⟩ := h.at hen
  have hcap : n ≤ cap ∧ cap ≤ maxLen := by
    rcases h.owns.2 with ⟨_, h0⟩ | ⟨g', cap', cur, hv, _, _, q1, q2, _⟩
    · omega
    · have e : cap = cap' := by injection hv
      omega
  unfold maxLen at hcap
  subst hsl
  have b1 : (0 : Int) ≤ (en : Int) := by omega
  have b2 : (en : Int) ≤ (n : Int) := by omega
  have b3 : (n : Int) ≤ (cap : Int) := by omega
  have b4 : (en : Int) ≤ (cap : Int) := by omega
  have b5 : ¬ cap = en := by omega
  clear ho c0 c1 c2 c3
  go_enter Tryd.func41, Tryd.ntmps41
  go_wp2
  go_quiet (fail)
  go_wp2
  go_loopw [3, 16] (fun m i wr => ∃ k : Nat, k ≤ n - en ∧ i = .int .i64 k ∧ m = .int .i64 (cntSt ((l.drop en).take k) 1) ∧ Below w.heap.size w wr) (fun _ i _ => (n - en) - (intOf i).toNat)
  case atStart => exact ⟨0, Nat.zero_le _, rfl, rfl, (Below.refl _ _).drewN _⟩
  case round =>
    obtain ⟨k, hk, rfl, rfl, hb⟩ := hrel
    have hcl := cntSt_take_le (l.drop en) 1 k
    have hw : Things wr 110 (some ⟨g, 0, none⟩) n cap l := h.below hb (Nat.le_refl _)
    have hd : ((n - en : Nat) : Int) = (n : Int) - (en : Int) := by omega
    by_cases hlt : k < n - en
    · obtain ⟨g', o, hg, ho, d0, d1, d2, d3, _⟩ := hw.at (k := en + k) (by omega)
      obtain rfl : g' = g := by simpa using hg.symm
      rw [show (en + k) * 4 = en * 4 + k * 4 by omega] at d0 d1 d2 d3
      have HS : Hid (cntSt ((l.drop en).take (k + 1)) 1 = cntSt ((l.drop en).take k) 1 + if o.st = 1 then 1 else 0) := cntSt_take (by simpa using ho)
      have hlt' : (k : Int) < ((n - en : Nat) : Int) := by omega
      have HD : Hid (((n - en : Nat) : Int) = (n : Int) - (en : Int)) := hd
      clear ho hd hg
      by_cases hst : o.st = 1
      · have hb1 : (o.st == 1) = true := by simpa using hst
        go_wp2
        refine ⟨⟨k + 1, by omega, by go_num, ?_, hb.alloc hb.size _⟩, by simp [intOf]; omega⟩
        rw [HS.out, if_pos hst]
        go_num
      · have hb1 : (o.st == 1) = false := by simpa using hst
        go_wp2
        refine ⟨⟨k + 1, by omega, by go_num, ?_, hb.alloc hb.size _⟩, by simp [intOf]; omega⟩
        rw [HS.out, if_neg hst]
        go_num
    · have hlt' : ¬ (k : Int) < ((n - en : Nat) : Int) := by omega
      have HD : Hid (((n - en : Nat) : Int) = (n : Int) - (en : Int)) := hd
      clear hd
      go_wp2
      go_ret
      refine ⟨ret_int ?_, hb⟩
      rw [List.take_of_length_le (by have := h.len; simp; omega)]

end Go.Proofs.YtfbbidaoljfloaaDoor
