import Derived.Test.YtfbbidaoljfloaaDoorB3
namespace Go.Proofs.YtfbbidaoljfloaaDoor
open Go.RowKit

/-- An object at a sender, the document's or the program's. -/
structure Thing where
  data : ByteArray
  nonce : Int
  st : Int
  sent : Int

def Thing.cells (o : Thing) : List Value := [.string o.data, .int .u64 o.nonce, .int .i64 o.st, .int .i64 o.sent]
def rowCells (l : List Thing) : List Value := l.flatMap Thing.cells

theorem rowCells_nil : rowCells [] = [] := rfl
theorem rowCells_cons (o : Thing) (l : List Thing) : rowCells (o :: l) = o.cells ++ rowCells l := rfl
theorem rowCells_append (a b : List Thing) : rowCells (a ++ b) = rowCells a ++ rowCells b := List.flatMap_append
theorem rowCells_len (l : List Thing) : (rowCells l).length = l.length * 4 := by
  induction l with
  | nil => rfl
  | cons o l ih => rw [rowCells_cons, List.length_append, ih, List.length_cons]; simp [Thing.cells]; omega

theorem rowCells_get {l : List Thing} {i : Nat} {o : Thing} (h : l[i]? = some o) (k : Nat) (hk : k < 4) : (rowCells l)[i * 4 + k]? = o.cells[k]? := by
  induction l generalizing i with
  | nil => simp at h
  | cons p l ih =>
    rw [rowCells_cons]
    cases i with
    | zero =>
      obtain rfl : p = o := by simpa using h
      rw [List.getElem?_append_left (by simp [Thing.cells]; omega)]
      simp
    | succ i =>
      rw [List.getElem?_append_right (by simp [Thing.cells]; omega)]
      have e : (i + 1) * 4 + k - p.cells.length = i * 4 + k := by simp [Thing.cells]; omega
      rw [e]
      exact ih (by simpa using h)

theorem rowCells_set {l : List Thing} {i : Nat} {o o' : Thing} {u : Value} (h : l[i]? = some o) (k : Nat) (hk : k < 4) (ho : o'.cells = o.cells.set k u) : (rowCells l).set (i * 4 + k) u = rowCells (l.set i o') := by
  induction l generalizing i with
  | nil => simp at h
  | cons p l ih =>
    cases i with
    | zero =>
      obtain rfl : p = o := by simpa using h
      simp only [List.set_cons_zero, rowCells_cons, ho]
      rw [List.set_append_left _ _ (by simp [Thing.cells]; omega)]
      simp
    | succ i =>
      simp only [List.set_cons_succ, rowCells_cons]
      rw [List.set_append_right _ _ (by simp [Thing.cells]; omega)]
      have e : (i + 1) * 4 + k - p.cells.length = i * 4 + k := by simp [Thing.cells]; omega
      rw [e, ih (by simpa using h)]

/-- The first one in a state; -1: none. -/
def findI (l : List Thing) (c : Int) : Int := match l.findIdx? (fun o => o.st == c) with | some i => (i : Int) | none => -1
def cntSt (l : List Thing) (c : Int) : Nat := l.countP (fun o => o.st == c)

theorem findI_at {l : List Thing} {c : Int} {k : Nat} {o : Thing} (h : l[k]? = some o) (ho : o.st = c) (hno : ∀ j p, j < k → l[j]? = some p → p.st ≠ c) : findI l c = k := by
  have e : l.findIdx? (fun o => o.st == c) = some k := by
    rw [List.findIdx?_eq_some_iff_getElem]
    obtain ⟨hk, hkk⟩ := List.getElem?_eq_some_iff.1 h
    refine ⟨hk, by rw [hkk]; simpa using ho, fun j hj => ?_⟩
    have := hno j l[j] hj (List.getElem?_eq_getElem (by omega))
    simpa using this
  simp [findI, e]
theorem findI_none {l : List Thing} {c : Int} (hno : ∀ (j : Nat) (p : Thing), l[j]? = some p → p.st ≠ c) : findI l c = -1 := by
  have e : l.findIdx? (fun o => o.st == c) = none := by
    rw [List.findIdx?_eq_none_iff]
    intro x hx
    obtain ⟨j, hj⟩ := List.mem_iff_getElem?.1 hx
    simpa using hno j x hj
  simp [findI, e]

theorem cntSt_take {l : List Thing} {c : Int} {k : Nat} {o : Thing} (h : l[k]? = some o) : cntSt (l.take (k + 1)) c = cntSt (l.take k) c + if o.st = c then 1 else 0 := by
  obtain ⟨hk, hkk⟩ := List.getElem?_eq_some_iff.1 h
  rw [cntSt, List.take_succ_eq_append_getElem hk, List.countP_append, hkk, ← cntSt]
  simp [List.countP_cons]
theorem cntSt_le (l : List Thing) (c : Int) : cntSt l c ≤ l.length := List.countP_le_length
theorem cntSt_take_le (l : List Thing) (c : Int) (k : Nat) : cntSt (l.take k) c ≤ k := Nat.le_trans (cntSt_le _ _) (List.length_take_le _ _)

/-- What is known of a row of things behind a slice. -/
structure Things (w : World) (e : TypeId) (sl : Option Addr) (n cap : Nat) (l : List Thing) : Prop where
  owns : w.ownsRow 0 e 4 (.slice sl n cap) n (rowCells l)
  len : l.length = n

theorem Things.at {w : World} {e : TypeId} {sl : Option Addr} {n cap : Nat} {l : List Thing} (h : Things w e sl n cap l) {k : Nat} (hk : k < n) : ∃ g o, sl = some ⟨g, 0, none⟩ ∧ l[k]? = some o ∧
    w.cell? ⟨g, k * 4, none⟩ = some (.string o.data) ∧ w.cell? ⟨g, k * 4 + 1, none⟩ = some (.int .u64 o.nonce) ∧ w.cell? ⟨g, k * 4 + 2, none⟩ = some (.int .i64 o.st) ∧ w.cell? ⟨g, k * 4 + 3, none⟩ = some (.int .i64 o.sent) ∧
    (∀ j, w.frozen? ⟨g, j, none⟩ = false) := by
  have hl := h.len
  obtain ⟨o, ho⟩ : ∃ o, l[k]? = some o := ⟨l[k], List.getElem?_eq_getElem (by omega)⟩
  rcases h.owns.2 with ⟨_, h0⟩ | ⟨g, cap', cur, hv, _⟩
  · omega
  · have hv' : (Value.slice sl n cap).ownBlock = some g := by rw [hv]; rfl
    obtain rfl : sl = some ⟨g, 0, none⟩ := by injection hv
    refine ⟨g, o, rfl, ho, ?_, ?_, ?_, ?_, fun j => owns_frozen h.owns hv' j⟩
    · exact owns_cell h.owns hv' (j := k * 4 + 0) (by rw [rowCells_get ho 0 (by omega)]; rfl)
    · exact owns_cell h.owns hv' (by rw [rowCells_get ho 1 (by omega)]; rfl)
    · exact owns_cell h.owns hv' (by rw [rowCells_get ho 2 (by omega)]; rfl)
    · exact owns_cell h.owns hv' (by rw [rowCells_get ho 3 (by omega)]; rfl)

set_option maxHeartbeats 400000 in
theorem find_any (bn : Nat) (c : Int) (sl : Option Addr) (n cap : Nat) (l : List Thing) (w : World) (hc : w.cell? ⟨bn, 4, none⟩ = some (.slice sl n cap)) (h : Things w 158 sl n cap l) (hn : n ≤ 100000) :
    Calls Tryd.prog 88 #[.pointer (some ⟨bn, 2, none⟩), .int .i64 c] w fun e w' => e = .returned (.int .i64 (findI l c)) ∧ w' = w := by
  go_enter Tryd.func88, Tryd.ntmps88
  go_wp2
  go_loop [5] (fun i => ∃ k : Nat, k ≤ n ∧ i = .int .i64 k ∧ ∀ j p, j < k → l[j]? = some p → p.st ≠ c) (fun i => n - (intOf i).toNat)
  case atStart => exact ⟨0, Nat.zero_le _, rfl, fun j p hj => by omega⟩
  case round =>
    obtain ⟨k, hk, rfl, hno⟩ := hrel
    have HN : Hid (∀ j p, j < k → l[j]? = some p → p.st ≠ c) := hno
    clear hno
    by_cases hlt : k < n
    · obtain ⟨g, o, rfl, ho, _, _, h2, _, _⟩ := h.at hlt
      have HO : Hid (l[k]? = some o) := ho
      clear ho
      have hlt' : (k : Int) < (n : Int) := by omega
      by_cases he : o.st = c
      · subst he
        go_wp2
        go_ret
        exact ⟨ret_int (findI_at HO.out rfl HN.out).symm, rfl⟩
      · have hb : (o.st == c) = false := by simpa using he
        go_wp2
        refine ⟨⟨k + 1, by omega, by go_num, fun j p hj hp => ?_⟩, by simp [intOf]; omega⟩
        by_cases hjk : j < k
        · exact HN.out j p hjk hp
        · obtain rfl : j = k := by omega
          have := HO.out
          rw [hp] at this
          obtain rfl : p = o := by simpa using this
          exact he
    · have hlt' : ¬ (k : Int) < (n : Int) := by omega
      go_wp2
      go_ret
      refine ⟨ret_int ?_, rfl⟩
      rw [findI_none]
      intro j p hp
      have := h.len
      exact HN.out j p (by have := (List.getElem?_eq_some_iff.1 hp).1; omega) hp

set_option maxHeartbeats 400000 in
theorem in_any (bn : Nat) (c : Int) (sl : Option Addr) (n cap : Nat) (l : List Thing) (w : World) (hc : w.cell? ⟨bn, 4, none⟩ = some (.slice sl n cap)) (h : Things w 158 sl n cap l) (hn : n ≤ 100000) :
    Calls Tryd.prog 107 #[.pointer (some ⟨bn, 2, none⟩), .int .i64 c] w fun e w' => e = .returned (.int .i64 (cntSt l c)) ∧ w' = w := by
  go_enter Tryd.func107, Tryd.ntmps107
  go_wp2
  go_loop [5, 6] (fun m i => ∃ k : Nat, k ≤ n ∧ i = .int .i64 k ∧ m = .int .i64 (cntSt (l.take k) c)) (fun _ i => n - (intOf i).toNat)
  case atStart => exact ⟨0, Nat.zero_le _, rfl, rfl⟩
  case round =>
    obtain ⟨k, hk, rfl, rfl⟩ := hrel
    have hcl := cntSt_take_le l c k
    by_cases hlt : k < n
    · obtain ⟨g, o, rfl, ho, _, _, h2, _, _⟩ := h.at hlt
      have HS : Hid (cntSt (l.take (k + 1)) c = cntSt (l.take k) c + if o.st = c then 1 else 0) := cntSt_take ho
      clear ho
      have hlt' : (k : Int) < (n : Int) := by omega
      by_cases he : o.st = c
      · subst he
        go_wp2
        refine ⟨⟨k + 1, by omega, by go_num, ?_⟩, by simp [intOf]; omega⟩
        rw [HS.out, if_pos rfl]
        go_num
      · have hb : (o.st == c) = false := by simpa using he
        go_wp2
        refine ⟨⟨k + 1, by omega, by go_num, ?_⟩, by simp [intOf]; omega⟩
        rw [HS.out, if_neg he]
        go_num
    · have hlt' : ¬ (k : Int) < (n : Int) := by omega
      go_wp2
      go_ret
      refine ⟨ret_int ?_, rfl⟩
      rw [List.take_of_length_le (by have := h.len; omega)]

end Go.Proofs.YtfbbidaoljfloaaDoor
