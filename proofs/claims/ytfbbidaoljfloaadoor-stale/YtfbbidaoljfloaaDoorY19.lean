import Derived.Test.YtfbbidaoljfloaaDoorY17
import Derived.Test.YtfbbidaoljfloaaDoorM1
namespace Go.Proofs.YtfbbidaoljfloaaDoor
open Go.RowKit Go.MuLone

/-- A network: a sender, a receiver, apart from one another. -/
structure NetAt (w : World) (bs br : Nat) (sl : Option Addr) (cap : Nat) (R : RC) (S : SV) (V : RV) : Prop where
  send : Send w bs sl cap S
  recv : Recv w br R V
  lk : R.lk = 0
  apart : ∀ g ∈ sfoot bs sl, g ∉ R.foot br
  sok : SVOk S
  rok : RVOk V
  tab : Tab w
  z1 : 0 ∉ sfoot bs sl
  z2 : 0 ∉ R.foot br

def Net (w : World) (bs br : Nat) (F : List Nat) (S : SV) (V : RV) : Prop := ∃ sl cap R, NetAt w bs br sl cap R S V ∧ F = sfoot bs sl ++ R.foot br

structure NAft (w w' : World) (bs br : Nat) (F F' : List Nat) (S : SV) (V : RV) : Prop where
  net : Net w' bs br F' S V
  turn : Turn F w w'
  foot : ∀ g ∈ F', g ∈ F ∨ w.heap.size ≤ g

theorem Net.lt {w : World} {bs br : Nat} {F : List Nat} {S : SV} {V : RV} (h : Net w bs br F S V) : ∀ g ∈ F, g < w.heap.size := by
  obtain ⟨sl, cap, R, hn, rfl⟩ := h
  intro g hg
  rcases List.mem_append.1 hg with q | q
  · exact hn.send.lt g q
  · exact hn.recv.lt g q
theorem Net.turn {Z : List Nat} {w w' : World} {bs br : Nat} {F : List Nat} {S : SV} {V : RV} (h : Net w bs br F S V) (ht : Turn Z w w') (hn : ∀ g ∈ F, g ∉ Z) (h0 : 0 ∉ Z) : Net w' bs br F S V := by
  obtain ⟨sl, cap, R, hh, rfl⟩ := h
  exact ⟨sl, cap, R, ⟨hh.send.turn ht (fun g hg => hn g (by simp [hg])), hh.recv.turn ht (fun g hg => hn g (by simp [hg])), hh.lk, hh.apart, hh.sok, hh.rok, hh.tab.turn ht h0, hh.z1, hh.z2⟩, rfl⟩
theorem Net.tab {w : World} {bs br : Nat} {F : List Nat} {S : SV} {V : RV} (h : Net w bs br F S V) : Tab w := by
  obtain ⟨_, _, _, hn, _⟩ := h
  exact hn.tab
theorem Net.pos {w : World} {bs br : Nat} {F : List Nat} {S : SV} {V : RV} (h : Net w bs br F S V) : 0 < w.heap.size := World.block_lt_of_cell? w _ (h.tab 0 0 rfl)
theorem Net.rok {w : World} {bs br : Nat} {F : List Nat} {S : SV} {V : RV} (h : Net w bs br F S V) : RVOk V := by
  obtain ⟨_, _, _, hn, _⟩ := h
  exact hn.rok
theorem Net.sok {w : World} {bs br : Nat} {F : List Nat} {S : SV} {V : RV} (h : Net w bs br F S V) : SVOk S := by
  obtain ⟨_, _, _, hn, _⟩ := h
  exact hn.sok

theorem NetAt.sender {w w' : World} {bs br : Nat} {sl sl' : Option Addr} {cap cap' : Nat} {R : RC} {S S' : SV} {V : RV} (h : NetAt w bs br sl cap R S V) (ha : SAft w w' bs sl sl' cap' S') (hv : SVOk S') : NAft w w' bs br (sfoot bs sl ++ R.foot br) (sfoot bs sl' ++ R.foot br) S' V := by
  have hpos : 0 < w.heap.size := World.block_lt_of_cell? w _ (h.tab 0 0 rfl)
  have hr : Recv w' br R V := h.recv.turn ha.turn (fun g hg hm => h.apart g hm hg)
  refine ⟨⟨sl', cap', R, ⟨ha.send, hr, h.lk, fun g hg hm => ?_, hv, h.rok, h.tab.turn ha.turn h.z1, fun hm => ?_, h.z2⟩, rfl⟩, ha.turn.mono (fun x hx => by simp [hx]), fun g hg => ?_⟩
  · rcases ha.foot g hg with q | q
    · exact h.apart g q hm
    · have := h.recv.lt g hm; omega
  · rcases ha.foot 0 hm with q | q
    · exact h.z1 q
    · omega
  · rcases List.mem_append.1 hg with q | q
    · rcases ha.foot g q with q | q
      · simp [q]
      · exact .inr q
    · simp [q]

theorem NetAt.receiver {w w' : World} {bs br : Nat} {sl : Option Addr} {cap : Nat} {R R' : RC} {S : SV} {V V' : RV} (h : NetAt w bs br sl cap R S V) (ha : Aft w w' br R R' V') (hv : RVOk V') : NAft w w' bs br (sfoot bs sl ++ R.foot br) (sfoot bs sl ++ R'.foot br) S V' := by
  have hpos : 0 < w.heap.size := World.block_lt_of_cell? w _ (h.tab 0 0 rfl)
  have hs : Send w' bs sl cap S := h.send.turn ha.turn (fun g hg hm => h.apart g hg hm)
  refine ⟨⟨sl, cap, R', ⟨hs, ha.recv, ha.lk.trans h.lk, fun g hg hm => ?_, h.sok, hv, h.tab.turn ha.turn h.z2, h.z1, fun hm => ?_⟩, rfl⟩, ha.turn.mono (fun x hx => by simp [hx]), fun g hg => ?_⟩
  · rcases ha.foot g hm with q | q
    · exact h.apart g hg q
    · have := h.send.lt g hg; omega
  · rcases ha.foot 0 hm with q | q
    · exact h.z2 q
    · omega
  · rcases List.mem_append.1 hg with q | q
    · simp [q]
    · rcases ha.foot g q with q | q
      · simp [q]
      · exact .inr q

theorem SVOk.done {S : SV} (h : SVOk S) {o : Thing} (st : Int) (ho : S.l[S.en]? = some o) : SVOk (S.done st o) := by
  have hlt := (List.getElem?_eq_some_iff.1 ho).1
  refine ⟨h.b1, h.b2, h.u1, h.u2, by simp [SV.done]; omega, by simp [SV.done]; exact h.n5, fun i p hi hp => ?_⟩
  have hi' : S.en + 1 ≤ i := hi
  have hp' : (S.l.set S.en ⟨.empty, 0, st, o.sent⟩)[i]? = some p := hp
  rw [List.getElem?_set_ne (by omega)] at hp'
  exact h.cur i p (by omega) hp'
theorem SVOk.sentOne {S : SV} (h : SVOk S) {o : Thing} (ho : S.l[S.en]? = some o) (hb : o.sent < (S.bud : Int)) : SVOk (S.sentOne o) := by
  have hlt := (List.getElem?_eq_some_iff.1 ho).1
  obtain ⟨q1, q2, q3⟩ := h.cur S.en o (Nat.le_refl _) ho
  refine ⟨h.b1, h.b2, h.u1, h.u2, by simp [SV.sentOne]; exact h.le, by simp [SV.sentOne]; exact h.n5, fun i p hi hp => ?_⟩
  have hp' : (S.l.set S.en { o with st := 2, sent := o.sent + 1 })[i]? = some p := hp
  by_cases hie : i = S.en
  · subst hie
    rw [List.getElem?_set_self hlt] at hp'
    cases hp'
    exact ⟨by show 0 ≤ o.sent + 1; omega, by show o.sent + 1 ≤ (S.bud : Int); omega, q3⟩
  · rw [List.getElem?_set_ne (fun e => hie e.symm)] at hp'
    exact h.cur i p hi hp'
theorem SVOk.more {S : SV} (h : SVOk S) (data : ByteArray) (nonce : Int) (hd : data.size ≤ 32 * S.blk) (hn : S.l.length < 500) : SVOk { S with l := S.l ++ [⟨data, nonce, 1, 0⟩] } := by
  refine ⟨h.b1, h.b2, h.u1, h.u2, by simp; have := h.le; omega, by simp; omega, fun i p hi hp => ?_⟩
  have hp' : (S.l ++ [⟨data, nonce, 1, 0⟩])[i]? = some p := hp
  by_cases hil : i < S.l.length
  · rw [List.getElem?_append_left hil] at hp'
    exact h.cur i p hi hp'
  · rw [List.getElem?_append_right (by omega)] at hp'
    have : i - S.l.length = 0 := by
      have := (List.getElem?_eq_some_iff.1 hp').1
      simp at this
      omega
    rw [this] at hp'
    simp at hp'
    subst hp'
    exact ⟨Int.le_refl _, by show (0 : Int) ≤ _; omega, hd⟩

theorem nTick_none {w : World} {bs br : Nat} {F : List Nat} {S : SV} {V : RV} (h : Net w bs br F S V) (he : S.en = S.l.length) :
    Calls Tryd.prog 18 #[.pointer (some ⟨bs, 0, none⟩)] w fun e w' => e = .returned (.slice none 0 0) ∧ ∃ F', NAft w w' bs br F F' S V := by
  obtain ⟨sl, cap, R, hn, rfl⟩ := h
  refine (tickS_none bs sl cap S w hn.send he).mono ?_
  rintro e w' ⟨rfl, ha⟩
  exact ⟨rfl, _, hn.sender ha hn.sok⟩
theorem nTick_fail {w : World} {bs br : Nat} {F : List Nat} {S : SV} {V : RV} {o : Thing} (h : Net w bs br F S V) (ho : S.l[S.en]? = some o) (hb : o.sent = S.bud) :
    Calls Tryd.prog 18 #[.pointer (some ⟨bs, 0, none⟩)] w fun e w' => e = .returned (.slice none 0 0) ∧ ∃ F', NAft w w' bs br F F' (S.done 4 o) V := by
  obtain ⟨sl, cap, R, hn, rfl⟩ := h
  refine (tickS_fail bs sl cap S o w hn.send hn.sok ho hb).mono ?_
  rintro e w' ⟨rfl, ha⟩
  exact ⟨rfl, _, hn.sender ha (hn.sok.done 4 ho)⟩
theorem nTick_send {w : World} {bs br : Nat} {F : List Nat} {S : SV} {V : RV} {o : Thing} (h : Net w bs br F S V) (ho : S.l[S.en]? = some o) (hb : o.sent < (S.bud : Int)) :
    Calls Tryd.prog 18 #[.pointer (some ⟨bs, 0, none⟩)] w fun e w' => ∃ G, e = .returned (.slice (some ⟨G, 0, none⟩) 1 1) ∧ w.heap.size ≤ G ∧ w'.heap[G]? = some (.cells #[.string (frameOf (S.en + 1) S.blk o)] 9 (0, 0)) ∧ ∃ F', NAft w w' bs br F F' (S.sentOne o) V ∧ G ∉ F' := by
  obtain ⟨sl, cap, R, hn, rfl⟩ := h
  refine (tickS_send bs sl cap S o w hn.send hn.sok ho hb).mono ?_
  rintro e w' ⟨G, rfl, hG, hc, ha⟩
  refine ⟨G, rfl, hG, hc, _, hn.sender ha (hn.sok.sentOne ho hb), fun hm => ?_⟩
  rcases List.mem_append.1 hm with q | q
  · have := hn.send.lt G q; omega
  · have := hn.recv.lt G q; omega
theorem nStatus {w : World} {bs br : Nat} {F : List Nat} {S : SV} {V : RV} {o : Thing} (k : Nat) (h : Net w bs br F S V) (ho : S.l[k]? = some o) :
    Calls Tryd.prog 22 #[.pointer (some ⟨bs, 0, none⟩), .int .i64 ((k : Int) + 1)] w fun e w' => e = .returned (.tuple #[.agg #[.int .i64 o.st, .int .i64 o.sent], .int .i64 0]) ∧ ∃ F', NAft w w' bs br F F' S V := by
  obtain ⟨sl, cap, R, hn, rfl⟩ := h
  refine (statusS bs sl cap S o k w hn.send hn.sok ho).mono ?_
  rintro e w' ⟨rfl, ha⟩
  exact ⟨rfl, _, hn.sender ha hn.sok⟩
theorem nSubmit {w : World} {bs br : Nat} {F : List Nat} {S : SV} {V : RV} (data : ByteArray) (nonce : Int) (h : Net w bs br F S V) (hd : data.size ≤ 32 * S.blk) (hl : S.l.length < 500) (hf : cntSt (S.l.drop S.en) 1 < 8) :
    Calls Tryd.prog 17 #[.pointer (some ⟨bs, 0, none⟩), .string data, .int .u64 nonce] w fun e w' => e = .returned (.tuple #[.int .i64 ((S.l.length : Int) + 1), .int .i64 0]) ∧ ∃ F', NAft w w' bs br F F' { S with l := S.l ++ [⟨data, nonce, 1, 0⟩] } V := by
  obtain ⟨sl, cap, R, hn, rfl⟩ := h
  refine (submitS bs sl cap S data nonce w hn.send hn.sok hd hl hf).mono ?_
  rintro e w' ⟨rfl, sl', cap', ha⟩
  exact ⟨rfl, _, hn.sender ha (hn.sok.more data nonce hd hl)⟩

structure NAns (w w' : World) (F' : List Nat) (e : Ending) (a : Option (List Nat)) : Prop where
  none_ : a = none → e = .returned (.slice none 0 0)
  some_ : ∀ d, a = some d → ∃ G, e = .returned (.slice (some ⟨G, 0, none⟩) 1 1) ∧ w'.heap[G]? = some (.cells #[.string (strOf d)] 9 (0, 0)) ∧ w.heap.size ≤ G ∧ G ∉ F'

theorem nHandle {w : World} {bs br : Nat} {F : List Nat} {S : SV} {V : RV} (text : ByteArray) (h : Net w bs br F S V) (hm : text.size ≤ 4611686018427387904) :
    Calls Tryd.prog 20 #[.pointer (some ⟨br, 0, none⟩), .string text] w fun e w' => ∃ F', NAft w w' bs br F F' S (V.handle (bytesOf text)).1 ∧ NAns w w' F' e (V.handle (bytesOf text)).2 := by
  obtain ⟨sl, cap, R, hn, rfl⟩ := h
  refine (rhandle_any br R V text w hn.recv hn.lk hn.rok hn.tab hn.z2 hm).mono ?_
  rintro e w' ⟨R', ha, hans⟩
  refine ⟨_, hn.receiver ha (hn.rok.handle _ (bytesOf_lt text)), ⟨hans.none_, fun d hd => ?_⟩⟩
  obtain ⟨G, q1, q2, q3, q4⟩ := hans.some_ d hd
  refine ⟨G, q1, q2, q3, fun hm => ?_⟩
  rcases List.mem_append.1 hm with q | q
  · have := hn.send.lt G q; omega
  · exact q4 q
theorem nRank {w : World} {bs br : Nat} {F : List Nat} {S : SV} {V : RV} (h : Net w bs br F S V) :
    Calls Tryd.prog 29 #[.pointer (some ⟨br, 0, none⟩)] w fun e w' => e = .returned (.agg #[.int .i64 V.num, .int .i64 V.rnk, .int .i64 V.bks]) ∧ ∃ F', NAft w w' bs br F F' S V := by
  obtain ⟨sl, cap, R, hn, rfl⟩ := h
  refine (rank_any br R V w hn.recv hn.lk).mono ?_
  rintro e w' ⟨rfl, R', ha⟩
  exact ⟨rfl, _, hn.receiver ha hn.rok⟩
theorem nTake_none {w : World} {bs br : Nat} {F : List Nat} {S : SV} {V : RV} (h : Net w bs br F S V) (hr : V.ready = []) :
    Calls Tryd.prog 24 #[.pointer (some ⟨br, 0, none⟩)] w fun e w' => e = .returned (.tuple #[.string .empty, .int .i64 0, .int .i64 5]) ∧ ∃ F', NAft w w' bs br F F' S V := by
  obtain ⟨sl, cap, R, hn, rfl⟩ := h
  refine (take_none br R V w hn.recv hn.lk hr).mono ?_
  rintro e w' ⟨rfl, R', ha⟩
  exact ⟨rfl, _, hn.receiver ha hn.rok⟩
theorem RVOk.less {V : RV} (h : RVOk V) {p : ByteArray × Nat} {l : Parcels} (hr : V.ready = p :: l) : RVOk { V with ready := l } :=
  ⟨h.b1, h.b2, h.num, h.bks, h.set, h.cnt, h.shape, by have := h.ready; rw [hr] at this; simp at this; show l.length ≤ cntD V.dlv; omega, h.zero⟩
theorem nTake_some {w : World} {bs br : Nat} {F : List Nat} {S : SV} {V : RV} {p : ByteArray × Nat} {l : Parcels} (h : Net w bs br F S V) (hr : V.ready = p :: l) :
    Calls Tryd.prog 24 #[.pointer (some ⟨br, 0, none⟩)] w fun e w' => e = .returned (.tuple #[.string p.1, .int .i64 p.2, .int .i64 0]) ∧ ∃ F', NAft w w' bs br F F' S { V with ready := l } := by
  obtain ⟨sl, cap, R, hn, rfl⟩ := h
  refine (take_some br R V p l w hn.recv hn.lk hn.rok hr).mono ?_
  rintro e w' ⟨rfl, R', ha⟩
  exact ⟨rfl, _, hn.receiver ha (hn.rok.less hr)⟩

theorem NAft.trans {w w1 w2 : World} {bs br : Nat} {F F1 F2 : List Nat} {S1 S2 : SV} {V1 V2 : RV} (h : NAft w w1 bs br F F1 S1 V1) (k : NAft w1 w2 bs br F1 F2 S2 V2) : NAft w w2 bs br F F2 S2 V2 :=
  ⟨k.net, h.turn.trans k.turn h.foot, fun g hg => by
    rcases k.foot g hg with q | q
    · exact h.foot g q
    · exact .inr (Nat.le_trans h.turn.size q)⟩

end Go.Proofs.YtfbbidaoljfloaaDoor
