import Derived.Test.YtfbbidaoljfloaaDoorJ6
namespace Go.Proofs.YtfbbidaoljfloaaDoor

/-- How the document's objects (os) and the program's (ps) stand to one another; en of them have ended. -/
structure Shape (blk bud en : Nat) (os ps : List Thing) : Prop where
  len : ps.length = os.length
  le : en ≤ os.length
  n500 : os.length ≤ 500
  before : ∀ (i : Nat) (o : Thing), i < en → os[i]? = some o → o.st ≠ 1 ∧ o.st ≠ 2
  stat : ∀ (i : Nat) (o p : Thing), os[i]? = some o → ps[i]? = some p → p.st = o.st ∧ p.sent = o.sent
  after : ∀ (i : Nat) (o p : Thing), en ≤ i → os[i]? = some o → ps[i]? = some p → p = o
  wait : ∀ (i : Nat) (o : Thing), en < i → os[i]? = some o → o.st = 1
  cur : ∀ o : Thing, os[en]? = some o → o.st = 1 ∨ o.st = 2
  sent : ∀ (i : Nat) (o : Thing), en ≤ i → os[i]? = some o → 0 ≤ o.sent ∧ o.sent ≤ (bud : Int) ∧ o.data.size ≤ 32 * blk
  cnt : cntSt (os.drop en) 1 ≤ 8

theorem Shape.nil (blk bud : Nat) : Shape blk bud 0 [] [] :=
  ⟨rfl, Nat.le_refl _, by simp, by simp, by simp, by simp, by simp, by simp, by simp, by simp [cntSt]⟩

variable {blk bud en : Nat} {os ps : List Thing}

theorem Shape.drops (h : Shape blk bud en os ps) : ps.drop en = os.drop en := by
  apply List.ext_getElem?
  intro i
  rw [List.getElem?_drop, List.getElem?_drop]
  have hl := h.len
  by_cases hi : en + i < os.length
  · have e1 : os[en + i]? = some os[en + i] := List.getElem?_eq_getElem hi
    have e2 : ps[en + i]? = some (ps[en + i]'(by omega)) := List.getElem?_eq_getElem (by omega)
    rw [e1, e2, h.after (en + i) _ _ (by omega) e1 e2]
  · rw [List.getElem?_eq_none (by omega), List.getElem?_eq_none (by omega)]

theorem cntSt_append (a b : List Thing) (c : Int) : cntSt (a ++ b) c = cntSt a c + cntSt b c := by simp [cntSt]

theorem Shape.counts (h : Shape blk bud en os ps) : cntSt os 1 = cntSt (os.drop en) 1 := by
  have e := cntSt_append (os.take en) (os.drop en) 1
  rw [List.take_append_drop] at e
  have z : cntSt (os.take en) 1 = 0 := by
    rw [cntSt, List.countP_eq_zero]
    intro a ha
    obtain ⟨j, hj⟩ := List.mem_iff_getElem?.1 ha
    have hlt : j < en := by
      have := (List.getElem?_eq_some_iff.1 hj).1
      rw [List.length_take] at this
      omega
    rw [List.getElem?_take_of_lt hlt] at hj
    simpa using (h.before j a hlt hj).1
  omega

theorem Shape.find_none (h : Shape blk bud en os ps) (he : en = os.length) : findI os 2 = -1 ∧ findI os 1 = -1 := by
  constructor
  · exact findI_none fun j p hp => (h.before j p (by have := (List.getElem?_eq_some_iff.1 hp).1; omega) hp).2
  · exact findI_none fun j p hp => (h.before j p (by have := (List.getElem?_eq_some_iff.1 hp).1; omega) hp).1

theorem Shape.find_some (h : Shape blk bud en os ps) {o : Thing} (ho : os[en]? = some o) : findI os 2 = (en : Int) ∨ (findI os 2 = -1 ∧ findI os 1 = (en : Int)) := by
  rcases h.cur o ho with q | q
  · right
    constructor
    · apply findI_none
      intro j p hp
      rcases Nat.lt_trichotomy j en with hj | hj | hj
      · exact (h.before j p hj hp).2
      · subst hj; rw [ho] at hp; obtain rfl : o = p := by simpa using hp
        omega
      · have := h.wait j p hj hp; omega
    · exact findI_at ho q fun j p hj hp => (h.before j p hj hp).1
  · exact .inl (findI_at ho q fun j p hj hp => (h.before j p hj hp).2)

theorem Shape.submit (h : Shape blk bud en os ps) (data : ByteArray) (nonce : Int) (hn : os.length < 500) (hf : cntSt os 1 < 8) (hd : data.size ≤ 32 * blk) : Shape blk bud en (os ++ [⟨data, nonce, 1, 0⟩]) (ps ++ [⟨data, nonce, 1, 0⟩]) := by
  have hl := h.len
  have hle := h.le
  have new : ∀ (l : List Thing) (i : Nat) (o : Thing), (l ++ [⟨data, nonce, 1, 0⟩])[i]? = some o → (i < l.length ∧ l[i]? = some o) ∨ (i = l.length ∧ o = ⟨data, nonce, 1, 0⟩) := by
    intro l i o hi
    rcases Nat.lt_or_ge i l.length with q | q
    · exact .inl ⟨q, by rwa [List.getElem?_append_left q] at hi⟩
    · right
      rw [List.getElem?_append_right q] at hi
      have : i - l.length = 0 := by
        have := (List.getElem?_eq_some_iff.1 hi).1
        simpa using this
      rw [this] at hi
      exact ⟨by omega, by simpa using hi.symm⟩
  refine ⟨by simp [hl], by simp; omega, by simp; omega, ?_, ?_, ?_, ?_, ?_, ?_, ?_⟩
  · intro i o hi ho
    rcases new _ _ _ ho with ⟨_, q⟩ | ⟨q, _⟩
    · exact h.before i o hi q
    · omega
  · intro i o p ho hp
    rcases new _ _ _ ho with ⟨q1, q⟩ | ⟨q1, rfl⟩ <;> rcases new _ _ _ hp with ⟨r1, r⟩ | ⟨r1, rfl⟩
    · exact h.stat i o p q r
    · omega
    · omega
    · exact ⟨rfl, rfl⟩
  · intro i o p hi ho hp
    rcases new _ _ _ ho with ⟨q1, q⟩ | ⟨q1, rfl⟩ <;> rcases new _ _ _ hp with ⟨r1, r⟩ | ⟨r1, rfl⟩
    · exact h.after i o p hi q r
    · omega
    · omega
    · rfl
  · intro i o hi ho
    rcases new _ _ _ ho with ⟨_, q⟩ | ⟨_, rfl⟩
    · exact h.wait i o hi q
    · rfl
  · intro o ho
    rcases new _ _ _ ho with ⟨_, q⟩ | ⟨_, rfl⟩
    · exact h.cur o q
    · exact .inl rfl
  · intro i o hi ho
    rcases new _ _ _ ho with ⟨_, q⟩ | ⟨_, rfl⟩
    · exact h.sent i o hi q
    · exact ⟨by simp, by simp, hd⟩
  · rw [List.drop_append_of_le_length hle, cntSt_append]
    have := h.counts
    have e : cntSt [(⟨data, nonce, 1, 0⟩ : Thing)] 1 = 1 := rfl
    omega

theorem set_at {l : List Thing} {k i : Nat} {o p : Thing} (h : (l.set k o)[i]? = some p) : (i = k ∧ p = o ∧ k < l.length) ∨ (i ≠ k ∧ l[i]? = some p) := by
  by_cases e : k = i
  · subst e
    obtain ⟨hk, hkk⟩ := List.getElem?_eq_some_iff.1 h
    simp at hkk hk
    exact .inl ⟨rfl, hkk.symm, hk⟩
  · rw [List.getElem?_set_ne e] at h
    exact .inr ⟨fun q => e q.symm, h⟩

theorem Shape.fail (h : Shape blk bud en os ps) {o : Thing} (ho : os[en]? = some o) : Shape blk bud (en + 1) (os.set en { o with st := 4 }) (ps.set en ⟨.empty, 0, 4, o.sent⟩) := by
  have hl := h.len
  have hlt := (List.getElem?_eq_some_iff.1 ho).1
  refine ⟨by simp [hl], by simp; omega, by simpa using h.n500, ?_, ?_, ?_, ?_, ?_, ?_, ?_⟩
  · intro i p hi hp
    rcases set_at hp with ⟨rfl, rfl, _⟩ | ⟨q, hq⟩
    · simp
    · exact h.before i p (by omega) hq
  · intro i a b ha hb
    rcases set_at ha with ⟨q1, rfl, _⟩ | ⟨q1, q⟩ <;> rcases set_at hb with ⟨r1, rfl, _⟩ | ⟨r1, r⟩
    · exact ⟨rfl, rfl⟩
    · exact absurd q1 r1
    · exact absurd r1 q1
    · exact h.stat i a b q r
  · intro i a b hi ha hb
    rcases set_at ha with ⟨q1, _, _⟩ | ⟨q1, q⟩
    · omega
    · rcases set_at hb with ⟨r1, _, _⟩ | ⟨r1, r⟩
      · omega
      · exact h.after i a b (by omega) q r
  · intro i a hi ha
    rcases set_at ha with ⟨q1, _, _⟩ | ⟨q1, q⟩
    · omega
    · exact h.wait i a (by omega) q
  · intro a ha
    rcases set_at ha with ⟨q1, _, _⟩ | ⟨q1, q⟩
    · omega
    · exact .inl (h.wait (en + 1) a (by omega) q)
  · intro i a hi ha
    rcases set_at ha with ⟨q1, _, _⟩ | ⟨q1, q⟩
    · omega
    · exact h.sent i a (by omega) q
  · have e : (os.set en { o with st := 4 }).drop (en + 1) = os.drop (en + 1) := List.drop_set_of_lt (by omega)
    rw [e]
    have := h.cnt
    have e2 : os.drop en = os[en] :: os.drop (en + 1) := List.drop_eq_getElem_cons hlt
    rw [e2, show os[en] :: os.drop (en + 1) = [os[en]] ++ os.drop (en + 1) from rfl, cntSt_append] at this
    omega

theorem Shape.send (h : Shape blk bud en os ps) {o : Thing} (ho : os[en]? = some o) (hb : o.sent < (bud : Int)) : Shape blk bud en (os.set en { o with st := 2, sent := o.sent + 1 }) (ps.set en { o with st := 2, sent := o.sent + 1 }) := by
  have hl := h.len
  have hlt := (List.getElem?_eq_some_iff.1 ho).1
  have hs := h.sent en o (Nat.le_refl _) ho
  refine ⟨by simp [hl], by simpa using h.le, by simpa using h.n500, ?_, ?_, ?_, ?_, ?_, ?_, ?_⟩
  · intro i p hi hp
    rcases set_at hp with ⟨q, _, _⟩ | ⟨q, hq⟩
    · omega
    · exact h.before i p hi hq
  · intro i a b ha hb
    rcases set_at ha with ⟨q1, rfl, _⟩ | ⟨q1, q⟩ <;> rcases set_at hb with ⟨r1, rfl, _⟩ | ⟨r1, r⟩
    · exact ⟨rfl, rfl⟩
    · exact absurd q1 r1
    · exact absurd r1 q1
    · exact h.stat i a b q r
  · intro i a b hi ha hb
    rcases set_at ha with ⟨q1, rfl, _⟩ | ⟨q1, q⟩ <;> rcases set_at hb with ⟨r1, rfl, _⟩ | ⟨r1, r⟩
    · rfl
    · exact absurd q1 r1
    · exact absurd r1 q1
    · exact h.after i a b hi q r
  · intro i a hi ha
    rcases set_at ha with ⟨q1, _, _⟩ | ⟨q1, q⟩
    · omega
    · exact h.wait i a hi q
  · intro a ha
    rcases set_at ha with ⟨_, rfl, _⟩ | ⟨q1, q⟩
    · exact .inr rfl
    · exact absurd rfl q1
  · intro i a hi ha
    rcases set_at ha with ⟨_, rfl, _⟩ | ⟨q1, q⟩
    · exact ⟨by simp; omega, by simp; omega, hs.2.2⟩
    · exact h.sent i a hi q
  · have := h.cnt
    have e2 : os.drop en = os[en] :: os.drop (en + 1) := List.drop_eq_getElem_cons hlt
    have e3 : (os.set en { o with st := 2, sent := o.sent + 1 }).drop en = [{ o with st := 2, sent := o.sent + 1 }] ++ os.drop (en + 1) := by
      rw [List.drop_eq_getElem_cons (by simpa using hlt), List.getElem_set_self, List.drop_set_of_lt (by omega)]
      rfl
    rw [e3, cntSt_append]
    rw [e2, show os[en] :: os.drop (en + 1) = [os[en]] ++ os.drop (en + 1) from rfl, cntSt_append] at this
    have e4 : cntSt [{ o with st := 2, sent := o.sent + 1 }] 1 = 0 := rfl
    omega

end Go.Proofs.YtfbbidaoljfloaaDoor
