import Derived.Test.YtfbbidaoljfloaaDoorY15
namespace Go.Proofs.YtfbbidaoljfloaaDoor
open Go.RowKit Go.MuLone

/-- A sender, as a thing of numbers. -/
structure SV where
  blk : Nat
  bud : Nat
  en : Nat
  l : List Thing

structure SVOk (S : SV) : Prop where
  b1 : 1 ≤ S.blk
  b2 : S.blk ≤ 32
  u1 : 1 ≤ S.bud
  u2 : S.bud ≤ 1000
  le : S.en ≤ S.l.length
  n5 : S.l.length ≤ 500
  cur : ∀ (i : Nat) (o : Thing), S.en ≤ i → S.l[i]? = some o → 0 ≤ o.sent ∧ o.sent ≤ (S.bud : Int) ∧ o.data.size ≤ 32 * S.blk

def SV.done (S : SV) (st : Int) (o : Thing) : SV := { S with en := S.en + 1, l := S.l.set S.en ⟨.empty, 0, st, o.sent⟩ }
def SV.sentOne (S : SV) (o : Thing) : SV := { S with l := S.l.set S.en { o with st := 2, sent := o.sent + 1 } }

structure Send (w : World) (bs : Nat) (sl : Option Addr) (cap : Nat) (S : SV) : Prop where
  at_ : SenderAt w bs S.blk S.bud (.slice sl S.l.length cap) S.en
  things : Things w 110 sl S.l.length cap S.l
  ne : (Value.slice sl S.l.length cap).ownBlock ≠ some bs

def sfoot (bs : Nat) (sl : Option Addr) : List Nat := bs :: (sl.map (·.block)).toList
theorem own_sl (sl : Option Addr) (n cap : Nat) : (Value.slice sl n cap).ownBlock = sl.map (·.block) := by cases sl <;> rfl

structure SAft (w w' : World) (bs : Nat) (sl sl' : Option Addr) (cap' : Nat) (S' : SV) : Prop where
  send : Send w' bs sl' cap' S'
  turn : Turn (sfoot bs sl) w w'
  foot : ∀ g ∈ sfoot bs sl', g ∈ sfoot bs sl ∨ w.heap.size ≤ g

theorem Send.turn {Z : List Nat} {w w' : World} {bs : Nat} {sl : Option Addr} {cap : Nat} {S : SV} (h : Send w bs sl cap S) (ht : Turn Z w w') (hn : ∀ g ∈ sfoot bs sl, g ∉ Z) : Send w' bs sl cap S :=
  ⟨h.at_.turn ht (hn bs (by simp [sfoot])), h.things.turn ht (fun k hk => hn k (by rw [own_sl] at hk; simp [sfoot]; right; simpa using hk)), h.ne⟩
theorem Send.lt {w : World} {bs : Nat} {sl : Option Addr} {cap : Nat} {S : SV} (h : Send w bs sl cap S) : ∀ g ∈ sfoot bs sl, g < w.heap.size := by
  intro g hg
  simp only [sfoot, List.mem_cons, Option.mem_toList] at hg
  rcases hg with rfl | hg
  · exact lt_of_heap h.at_
  · exact (h.things.owns.lt g (by rw [own_sl]; exact hg)).2
theorem sfoot_eq (bs : Nat) (sl : Option Addr) (n cap : Nat) : bs :: (Value.slice sl n cap).ownBlock.toList = sfoot bs sl := by rw [own_sl]; rfl

theorem tickS_none (bs : Nat) (sl : Option Addr) (cap : Nat) (S : SV) (w : World) (h : Send w bs sl cap S) (he : S.en = S.l.length) :
    Calls Tryd.prog 18 #[.pointer (some ⟨bs, 0, none⟩)] w fun e w' => e = .returned (.slice none 0 0) ∧ SAft w w' bs sl sl cap S := by
  have ha := h.at_
  rw [he] at ha
  refine (tick_none bs S.blk S.bud sl S.l.length cap w ha).mono ?_
  rintro e w' ⟨rfl, ht, hs⟩
  have hs' : SenderAt w' bs S.blk S.bud (.slice sl S.l.length cap) S.en := by rw [he]; exact hs
  refine ⟨rfl, ⟨hs', h.things.turn ht (fun k hk => by simp; intro e; exact h.ne (by rw [hk, e])), h.ne⟩, ht.mono (by simp [sfoot]), fun g hg => .inl hg⟩

theorem tickS_fail (bs : Nat) (sl : Option Addr) (cap : Nat) (S : SV) (o : Thing) (w : World) (h : Send w bs sl cap S) (hv : SVOk S) (ho : S.l[S.en]? = some o) (hb : o.sent = S.bud) :
    Calls Tryd.prog 18 #[.pointer (some ⟨bs, 0, none⟩)] w fun e w' => e = .returned (.slice none 0 0) ∧ SAft w w' bs sl sl cap (S.done 4 o) := by
  have hlt := (List.getElem?_eq_some_iff.1 ho).1
  refine (tick_fail bs S.blk S.bud sl S.l.length cap S.en S.l o w h.at_ h.things h.ne hv.n5 hlt ho hb).mono ?_
  rintro e w' ⟨rfl, ht, hs, hth⟩
  have hle : (S.done 4 o).l.length = S.l.length := by simp [SV.done]
  refine ⟨rfl, ⟨?_, ?_, ?_⟩, ?_, fun g hg => .inl hg⟩
  · rw [hle]
    have : SenderAt w' bs S.blk S.bud (.slice sl S.l.length cap) ((S.en + 1 : Nat) : Int) := by simpa using hs
    exact this
  · rw [hle]; exact hth
  · rw [hle]; exact h.ne
  · rw [← sfoot_eq bs sl S.l.length cap]; exact ht

theorem tickS_send (bs : Nat) (sl : Option Addr) (cap : Nat) (S : SV) (o : Thing) (w : World) (h : Send w bs sl cap S) (hv : SVOk S) (ho : S.l[S.en]? = some o) (hb : o.sent < (S.bud : Int)) :
    Calls Tryd.prog 18 #[.pointer (some ⟨bs, 0, none⟩)] w fun e w' => ∃ G, e = .returned (.slice (some ⟨G, 0, none⟩) 1 1) ∧ w.heap.size ≤ G ∧ w'.heap[G]? = some (.cells #[.string (frameOf (S.en + 1) S.blk o)] 9 (0, 0)) ∧ SAft w w' bs sl sl cap (S.sentOne o) := by
  have hlt := (List.getElem?_eq_some_iff.1 ho).1
  obtain ⟨q1, q2, q3⟩ := hv.cur S.en o (Nat.le_refl _) ho
  have hu := hv.u2
  refine (tick_send bs S.blk S.bud sl S.l.length cap S.en S.l o w h.at_ h.things h.ne hv.n5 hlt ho q1 hb (by omega) hv.b1 hv.b2 q3).mono ?_
  rintro e w' ⟨G, rfl, hG, hc, ht, hs, hth⟩
  have hle : (S.sentOne o).l.length = S.l.length := by simp [SV.sentOne]
  refine ⟨G, rfl, hG, hc, ⟨?_, ?_, ?_⟩, ?_, fun g hg => .inl hg⟩
  · rw [hle]; exact hs
  · rw [hle]; exact hth
  · rw [hle]; exact h.ne
  · rw [← sfoot_eq bs sl S.l.length cap]; exact ht

theorem statusS (bs : Nat) (sl : Option Addr) (cap : Nat) (S : SV) (o : Thing) (k : Nat) (w : World) (h : Send w bs sl cap S) (hv : SVOk S) (ho : S.l[k]? = some o) :
    Calls Tryd.prog 22 #[.pointer (some ⟨bs, 0, none⟩), .int .i64 ((k : Int) + 1)] w fun e w' => e = .returned (.tuple #[.agg #[.int .i64 o.st, .int .i64 o.sent], .int .i64 0]) ∧ SAft w w' bs sl sl cap S := by
  have hlt := (List.getElem?_eq_some_iff.1 ho).1
  refine (status_good bs S.blk S.bud sl S.l.length cap k S.en S.l o w h.at_ h.things h.ne hv.n5 hlt ho).mono ?_
  rintro e w' ⟨rfl, ht, hs⟩
  exact ⟨rfl, ⟨hs, h.things.turn ht (fun k hk => by simp; intro e; exact h.ne (by rw [hk, e])), h.ne⟩, ht.mono (by simp [sfoot]), fun g hg => .inl hg⟩

theorem submitS (bs : Nat) (sl : Option Addr) (cap : Nat) (S : SV) (data : ByteArray) (nonce : Int) (w : World) (h : Send w bs sl cap S) (hv : SVOk S) (hd : data.size ≤ 32 * S.blk) (hn : S.l.length < 500) (hf : cntSt (S.l.drop S.en) 1 < 8) :
    Calls Tryd.prog 17 #[.pointer (some ⟨bs, 0, none⟩), .string data, .int .u64 nonce] w fun e w' => e = .returned (.tuple #[.int .i64 ((S.l.length : Int) + 1), .int .i64 0]) ∧ ∃ sl' cap', SAft w w' bs sl sl' cap' { S with l := S.l ++ [⟨data, nonce, 1, 0⟩] } := by
  have hb1 := hv.b1
  have hb2 := hv.b2
  refine (submit_yes bs S.blk S.bud data nonce sl S.l.length cap S.en S.l w h.at_ h.things h.ne (by omega) (by omega) (by omega) hn hv.le hf).mono ?_
  rintro e w' ⟨rfl, ht, g', cap', hs, hth, hat⟩
  have hle : (S.l ++ [(⟨data, nonce, 1, 0⟩ : Thing)]).length = S.l.length + 1 := by simp
  refine ⟨rfl, some ⟨g', 0, none⟩, cap', ⟨?_, ?_, ?_⟩, ?_, ?_⟩
  · show SenderAt w' bs S.blk S.bud (.slice (some ⟨g', 0, none⟩) (S.l ++ [_]).length cap') S.en
    rw [hle]; exact hs
  · show Things w' _ (some ⟨g', 0, none⟩) (S.l ++ [_]).length cap' _
    rw [hle]; exact hth
  · intro e
    simp [Value.ownBlock] at e
    rcases hat with q | q
    · rw [e] at q; exact h.ne q
    · have := lt_of_heap h.at_; omega
  · rw [← sfoot_eq bs sl S.l.length cap]; exact ht
  · intro g hg
    simp [sfoot] at hg
    rcases hg with q | q
    · simp [sfoot, q]
    · subst q
      rcases hat with q | q
      · left
        rw [own_sl] at q
        simp [sfoot]
        right; simpa using q
      · exact .inr q

end Go.Proofs.YtfbbidaoljfloaaDoor
