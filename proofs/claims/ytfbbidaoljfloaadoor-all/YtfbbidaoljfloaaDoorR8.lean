import Derived.Test.YtfbbidaoljfloaaDoorJ7
import Derived.BigQuiet
namespace Go.Proofs.YtfbbidaoljfloaaDoor
open Go.RowKit

set_option maxRecDepth 100000 in
set_option maxHeartbeats 1000000 in
theorem refTold_no (bn : Nat) (num : Int) (sl : Option Addr) (n cap : Nat) (l : List Thing) (w : World) (hc : w.cell? ⟨bn, 4, none⟩ = some (.slice sl n cap)) (h : Things w 158 sl n cap l) (hn : n ≤ 500)
    (hb : -1 ≤ findI l 2 ∧ findI l 2 ≤ 500) (hno : findI l 2 = -1 ∨ findI l 2 + 1 ≠ num) :
    Calls Tryd.prog 108 #[.pointer (some ⟨bn, 2, none⟩), .int .i64 num] w fun e w' => e = .returned (.tuple #[]) ∧ w' = w := by
  obtain ⟨J, hJ⟩ : ∃ J, J = findI l 2 := ⟨_, rfl⟩
  rw [← hJ] at hb hno
  have HJ : Hid _ := hJ
  clear hJ
  go_enter Tryd.func108, Tryd.ntmps108
  go_wp2_with fail
  refine (find_any bn 2 _ n cap l _ hc h (by omega)).mono ?_
  rintro e w1 ⟨rfl, rfl⟩
  rw [← HJ.out]
  by_cases h0 : J = -1
  · subst h0
    go_wp2_with fail
    exact bodyPost_end (results_none rfl _ _ _) rfl ⟨rfl, rfl⟩
  · have q0 : decide ((0 : Int) ≤ J) = true := by simp; omega
    have q1 : (J + 1 == num) = false := by simp; rcases hno with e | e <;> omega
    go_wp2_with fail
    exact bodyPost_end (results_none rfl _ _ _) rfl ⟨rfl, rfl⟩

set_option maxRecDepth 100000 in
set_option maxHeartbeats 1000000 in
theorem refTold_yes (bn : Nat) (num : Int) (sl : Option Addr) (n cap k : Nat) (l : List Thing) (o : Thing) (w : World) (hc : w.cell? ⟨bn, 4, none⟩ = some (.slice sl n cap)) (h : Things w 158 sl n cap l) (hn : n ≤ 500)
    (hk : k < n) (ho : l[k]? = some o) (hfind : findI l 2 = (k : Int)) (hnum : (k : Int) + 1 = num) (hne : (Value.slice sl n cap).ownBlock ≠ some bn) :
    Calls Tryd.prog 108 #[.pointer (some ⟨bn, 2, none⟩), .int .i64 num] w fun e w' => e = .returned (.tuple #[]) ∧ Turn (Value.slice sl n cap).ownBlock.toList w w' ∧ Things w' 158 sl n cap (l.set k { o with st := 3 }) := by
  obtain ⟨g, o', hsl, ho', c0, c1, c2, c3, hfz⟩ := h.at hk
  obtain rfl : o' = o := by rw [ho] at ho'; simpa using ho'.symm
  have HK : Hid (sl = some ⟨g, 0, none⟩) := hsl
  subst hsl
  subst hnum
  have hgb : g ≠ bn := fun e => hne (by rw [e]; rfl)
  have hgb' : bn ≠ g := fun e => hgb e.symm
  have H1 := Things.set (o' := { o' with st := 3 }) (u := .int .i64 3) h rfl ho 2 (by omega) rfl
  have T2 : Turn [g] w (w.setCell ⟨g, k * 4 + 2, none⟩ (.int .i64 3)) := (Turn.refl [g] w).setCell (.inl (by simp)) _
  have hk0 : (0 : Int) ≤ (k : Int) := by omega
  have hk1 : (k : Int) < (n : Int) := by omega
  have HH1 : Hid _ := H1
  have HT2 : Hid _ := T2
  have hff := hfz (k * 4 + 2)
  have F2 : Hid (findI l 2 = (k : Int)) := hfind
  clear H1 T2 hfz ho ho' HK hfind
  go_enter Tryd.func108, Tryd.ntmps108
  go_wp2_with fail
  refine (find_any bn 2 _ n cap l _ hc h (by omega)).mono ?_
  rintro e w1 ⟨rfl, rfl⟩
  rw [F2.out]
  go_wp2_with fail
  exact bodyPost_end (results_none rfl _ _ _) rfl ⟨rfl, HT2.out, HH1.out⟩
end Go.Proofs.YtfbbidaoljfloaaDoor
