import Derived.Test.YtfbbidaoljfloaaDoorY14
import Derived.Test.YtfbbidaoljfloaaDoorJ26
namespace Go.Proofs.YtfbbidaoljfloaaDoor
open Go.RowKit Go.MuLone

/-- A receiver to which nothing has come. -/
def RV.fresh (blk : Nat) : RV := ⟨blk, 0, 0, 0, 0, emptyS, 0, fun _ => false, []⟩
def RC.fresh (blk : Nat) : RC := ⟨0, blk, 0, 0, 0, 0, fun _ => 0, fun _ => .slice none 0 0, 0, fun _ => false, .slice none 0 0⟩

theorem RC.arr_set (R R' : RC) (j : Nat) (v : Value) (hR : ∀ i, i < 574 → R'.cell i = if i = j then v else R.cell i) : R.arr.setIfInBounds j v = R'.arr := by
  apply Array.ext
  · rw [Array.size_setIfInBounds, R.arr_size, R'.arr_size]
  · intro i h1 h2
    rw [R'.arr_size] at h2
    have e1 : (R'.arr)[i]? = some (R'.cell i) := R'.arr_get h2
    have e2 : (R.arr)[i]? = some (R.cell i) := R.arr_get h2
    have e3 : (R.arr.setIfInBounds j v)[i]? = some (R'.cell i) := by
      rw [hR i h2]
      by_cases hi : i = j
      · subst hi
        rw [Array.getElem?_setIfInBounds_self_of_lt (by rw [R.arr_size]; exact h2), if_pos rfl]
      · rw [Array.getElem?_setIfInBounds_ne (fun q => hi q.symm), e2, if_neg hi]
    exact ((Array.getElem?_eq_some_iff.1 e3).2).trans ((Array.getElem?_eq_some_iff.1 e1).2).symm

theorem zero_arr : Tryd.zeroCells123 = (RC.fresh 0).arr := by kernel_rfl
theorem fresh_arr (blk : Nat) : (Tryd.zeroCells123).setIfInBounds 2 (.int .i64 blk) = (RC.fresh blk).arr := by
  rw [zero_arr]
  exact RC.arr_set _ _ 2 _ (fun i _ => by by_cases hi : i = 2 <;> simp [RC.cell, RC.fresh, hi])

theorem fresh_ok (blk : Nat) (h1 : 1 ≤ blk) (h2 : blk ≤ 32) : RVOk (RV.fresh blk) :=
  ⟨h1, h2, Nat.zero_le _, Nat.zero_le _, emptyS_ok _ _, (emptyS_cnt _).symm, fun h => absurd h (by show ¬ 1 ≤ 0; omega), Nat.zero_le _, rfl⟩

theorem fresh_recv (blk : Nat) (w : World) (br : Nat) (h : w.heap[br]? = some (.cells (RC.fresh blk).arr 123 (0, 0))) : Recv w br (RC.fresh blk) (RV.fresh blk) ∧ (RC.fresh blk).foot br = [br] ∧ (RC.fresh blk).lk = 0 := by
  have hbl : (RC.fresh blk).blocks = [] := by
    rw [List.eq_nil_iff_forall_not_mem]
    intro g hg
    obtain ⟨j, _, e⟩ := RC.mem_blocks.1 hg
    cases e
  refine ⟨⟨⟨h, fun j _ => rfl, fun j _ => .inl ⟨rfl, rfl⟩, fun i j g _ _ _ e => by cases e⟩, rfl, rfl, rfl, rfl, rfl, rfl, rfl, World.ownsRow_nil _ _ _ _, (fun e => by cases e), by rw [hbl]; simp⟩, ?_, rfl⟩
  unfold RC.foot
  rw [hbl]
  rfl

set_option maxRecDepth 100000 in
set_option maxHeartbeats 800000 in
theorem newReceiver_good (b : Nat) (c : Int) (w : World) (h : goodB b c = true) :
    Calls Tryd.prog 31 #[.agg #[.int .i64 b, .int .i64 c]] w fun e w' => ∃ br, e = .returned (.tuple #[.pointer (some ⟨br, 0, none⟩), .int .i64 0]) ∧ Below w.heap.size w w' ∧ w.heap.size ≤ br ∧ Recv w' br (RC.fresh b) (RV.fresh b) := by
  have hnot := notOp
  go_enter Tryd.func31, Tryd.ntmps31
  go_wp2_with fail
  refine (valid_any b c _).mono ?_
  rintro e w1 ⟨rfl, hb1⟩
  rw [h]
  obtain ⟨hc, hf⟩ := bcell hb1
  go_wp2_with fail
  have hs := hb1.size
  simp at hs
  go_ret2
  refine ⟨w1.heap.size, rfl, (((Below.refl _ _).alloc (Nat.le_refl _) _).trans (hb1.mono (by simp))).alloc (by omega) _, by omega, ?_⟩
  refine (fresh_recv b _ _ ?_).1
  rw [← fresh_arr]
  exact heap_alloc_new w1 _

end Go.Proofs.YtfbbidaoljfloaaDoor


namespace Go.Proofs.YtfbbidaoljfloaaDoor
open Go.RowKit Go.MuLone

/-- A sender, as a thing of numbers. -/
structure SV where
  blk : Nat
  bud : Nat
  en : Nat
  l : List Thing

structure SVOk (S : SV) : Prop where
  b1 : 1 ≤ S.blk
  b2 : S.blk ≤ 32
  u1 : 1 ≤ S.bud
  u2 : S.bud ≤ 1000
  le : S.en ≤ S.l.length
  n5 : S.l.length ≤ 500
  cur : ∀ (i : Nat) (o : Thing), S.en ≤ i → S.l[i]? = some o → 0 ≤ o.sent ∧ o.sent ≤ (S.bud : Int) ∧ o.data.size ≤ 32 * S.blk

def SV.done (S : SV) (st : Int) (o : Thing) : SV := { S with en := S.en + 1, l := S.l.set S.en ⟨.empty, 0, st, o.sent⟩ }
def SV.sentOne (S : SV) (o : Thing) : SV := { S with l := S.l.set S.en { o with st := 2, sent := o.sent + 1 } }

structure Send (w : World) (bs : Nat) (sl : Option Addr) (cap : Nat) (S : SV) : Prop where
  at_ : SenderAt w bs S.blk S.bud (.slice sl S.l.length cap) S.en
  things : Things w 110 sl S.l.length cap S.l
  ne : (Value.slice sl S.l.length cap).ownBlock ≠ some bs

def sfoot (bs : Nat) (sl : Option Addr) : List Nat := bs :: (sl.map (·.block)).toList
theorem own_sl (sl : Option Addr) (n cap : Nat) : (Value.slice sl n cap).ownBlock = sl.map (·.block) := by cases sl <;> rfl

structure SAft (w w' : World) (bs : Nat) (sl sl' : Option Addr) (cap' : Nat) (S' : SV) : Prop where
  send : Send w' bs sl' cap' S'
  turn : Turn (sfoot bs sl) w w'
  foot : ∀ g ∈ sfoot bs sl', g ∈ sfoot bs sl ∨ w.heap.size ≤ g

theorem Send.turn {Z : List Nat} {w w' : World} {bs : Nat} {sl : Option Addr} {cap : Nat} {S : SV} (h : Send w bs sl cap S) (ht : Turn Z w w') (hn : ∀ g ∈ sfoot bs sl, g ∉ Z) : Send w' bs sl cap S :=
  ⟨h.at_.turn ht (hn bs (by simp [sfoot])), h.things.turn ht (fun k hk => hn k (by rw [own_sl] at hk; simp [sfoot]; right; simpa using hk)), h.ne⟩
theorem Send.lt {w : World} {bs : Nat} {sl : Option Addr} {cap : Nat} {S : SV} (h : Send w bs sl cap S) : ∀ g ∈ sfoot bs sl, g < w.heap.size := by
  intro g hg
  simp only [sfoot, List.mem_cons, Option.mem_toList] at hg
  rcases hg with rfl | hg
  · exact lt_of_heap h.at_
  · exact (h.things.owns.lt g (by rw [own_sl]; exact hg)).2
theorem sfoot_eq (bs : Nat) (sl : Option Addr) (n cap : Nat) : bs :: (Value.slice sl n cap).ownBlock.toList = sfoot bs sl := by rw [own_sl]; rfl

theorem tickS_none (bs : Nat) (sl : Option Addr) (cap : Nat) (S : SV) (w : World) (h : Send w bs sl cap S) (he : S.en = S.l.length) :
    Calls Tryd.prog 18 #[.pointer (some ⟨bs, 0, none⟩)] w fun e w' => e = .returned (.slice none 0 0) ∧ SAft w w' bs sl sl cap S := by
  have ha := h.at_
  rw [he] at ha
  refine (tick_none bs S.blk S.bud sl S.l.length cap w ha).mono ?_
  rintro e w' ⟨rfl, ht, hs⟩
  have hs' : SenderAt w' bs S.blk S.bud (.slice sl S.l.length cap) S.en := by rw [he]; exact hs
  refine ⟨rfl, ⟨hs', h.things.turn ht (fun k hk => by simp; intro e; exact h.ne (by rw [hk, e])), h.ne⟩, ht.mono (by simp [sfoot]), fun g hg => .inl hg⟩

theorem tickS_fail (bs : Nat) (sl : Option Addr) (cap : Nat) (S : SV) (o : Thing) (w : World) (h : Send w bs sl cap S) (hv : SVOk S) (ho : S.l[S.en]? = some o) (hb : o.sent = S.bud) :
    Calls Tryd.prog 18 #[.pointer (some ⟨bs, 0, none⟩)] w fun e w' => e = .returned (.slice none 0 0) ∧ SAft w w' bs sl sl cap (S.done 4 o) := by
  have hlt := (List.getElem?_eq_some_iff.1 ho).1
  refine (tick_fail bs S.blk S.bud sl S.l.length cap S.en S.l o w h.at_ h.things h.ne hv.n5 hlt ho hb).mono ?_
  rintro e w' ⟨rfl, ht, hs, hth⟩
  have hle : (S.done 4 o).l.length = S.l.length := by simp [SV.done]
  refine ⟨rfl, ⟨?_, ?_, ?_⟩, ?_, fun g hg => .inl hg⟩
  · rw [hle]
    have : SenderAt w' bs S.blk S.bud (.slice sl S.l.length cap) ((S.en + 1 : Nat) : Int) := by simpa using hs
    exact this
  · rw [hle]; exact hth
  · rw [hle]; exact h.ne
  · rw [← sfoot_eq bs sl S.l.length cap]; exact ht

theorem tickS_send (bs : Nat) (sl : Option Addr) (cap : Nat) (S : SV) (o : Thing) (w : World) (h : Send w bs sl cap S) (hv : SVOk S) (ho : S.l[S.en]? = some o) (hb : o.sent < (S.bud : Int)) :
    Calls Tryd.prog 18 #[.pointer (some ⟨bs, 0, none⟩)] w fun e w' => ∃ G, e = .returned (.slice (some ⟨G, 0, none⟩) 1 1) ∧ w.heap.size ≤ G ∧ w'.heap[G]? = some (.cells #[.string (frameOf (S.en + 1) S.blk o)] 9 (0, 0)) ∧ SAft w w' bs sl sl cap (S.sentOne o) := by
  have hlt := (List.getElem?_eq_some_iff.1 ho).1
  obtain ⟨q1, q2, q3⟩ := hv.cur S.en o (Nat.le_refl _) ho
  have hu := hv.u2
  refine (tick_send bs S.blk S.bud sl S.l.length cap S.en S.l o w h.at_ h.things h.ne hv.n5 hlt ho q1 hb (by omega) hv.b1 hv.b2 q3).mono ?_
  rintro e w' ⟨G, rfl, hG, hc, ht, hs, hth⟩
  have hle : (S.sentOne o).l.length = S.l.length := by simp [SV.sentOne]
  refine ⟨G, rfl, hG, hc, ⟨?_, ?_, ?_⟩, ?_, fun g hg => .inl hg⟩
  · rw [hle]; exact hs
  · rw [hle]; exact hth
  · rw [hle]; exact h.ne
  · rw [← sfoot_eq bs sl S.l.length cap]; exact ht

theorem statusS (bs : Nat) (sl : Option Addr) (cap : Nat) (S : SV) (o : Thing) (k : Nat) (w : World) (h : Send w bs sl cap S) (hv : SVOk S) (ho : S.l[k]? = some o) :
    Calls Tryd.prog 22 #[.pointer (some ⟨bs, 0, none⟩), .int .i64 ((k : Int) + 1)] w fun e w' => e = .returned (.tuple #[.agg #[.int .i64 o.st, .int .i64 o.sent], .int .i64 0]) ∧ SAft w w' bs sl sl cap S := by
  have hlt := (List.getElem?_eq_some_iff.1 ho).1
  refine (status_good bs S.blk S.bud sl S.l.length cap k S.en S.l o w h.at_ h.things h.ne hv.n5 hlt ho).mono ?_
  rintro e w' ⟨rfl, ht, hs⟩
  exact ⟨rfl, ⟨hs, h.things.turn ht (fun k hk => by simp; intro e; exact h.ne (by rw [hk, e])), h.ne⟩, ht.mono (by simp [sfoot]), fun g hg => .inl hg⟩

theorem submitS (bs : Nat) (sl : Option Addr) (cap : Nat) (S : SV) (data : ByteArray) (nonce : Int) (w : World) (h : Send w bs sl cap S) (hv : SVOk S) (hd : data.size ≤ 32 * S.blk) (hn : S.l.length < 500) (hf : cntSt (S.l.drop S.en) 1 < 8) :
    Calls Tryd.prog 17 #[.pointer (some ⟨bs, 0, none⟩), .string data, .int .u64 nonce] w fun e w' => e = .returned (.tuple #[.int .i64 ((S.l.length : Int) + 1), .int .i64 0]) ∧ ∃ sl' cap', SAft w w' bs sl sl' cap' { S with l := S.l ++ [⟨data, nonce, 1, 0⟩] } := by
  have hb1 := hv.b1
  have hb2 := hv.b2
  refine (submit_yes bs S.blk S.bud data nonce sl S.l.length cap S.en S.l w h.at_ h.things h.ne (by omega) (by omega) (by omega) hn hv.le hf).mono ?_
  rintro e w' ⟨rfl, ht, g', cap', hs, hth, hat⟩
  have hle : (S.l ++ [(⟨data, nonce, 1, 0⟩ : Thing)]).length = S.l.length + 1 := by simp
  refine ⟨rfl, some ⟨g', 0, none⟩, cap', ⟨?_, ?_, ?_⟩, ?_, ?_⟩
  · show SenderAt w' bs S.blk S.bud (.slice (some ⟨g', 0, none⟩) (S.l ++ [_]).length cap') S.en
    rw [hle]; exact hs
  · show Things w' _ (some ⟨g', 0, none⟩) (S.l ++ [_]).length cap' _
    rw [hle]; exact hth
  · intro e
    simp [Value.ownBlock] at e
    rcases hat with q | q
    · rw [e] at q; exact h.ne q
    · have := lt_of_heap h.at_; omega
  · rw [← sfoot_eq bs sl S.l.length cap]; exact ht
  · intro g hg
    simp [sfoot] at hg
    rcases hg with q | q
    · simp [sfoot, q]
    · subst q
      rcases hat with q | q
      · left
        rw [own_sl] at q
        simp [sfoot]
        right; simpa using q
      · exact .inr q

end Go.Proofs.YtfbbidaoljfloaaDoor


namespace Go.Proofs.YtfbbidaoljfloaaDoor
open Go.RowKit Go.MuLone

def sendB (l : List Thing) (en : Nat) : Bool := match l[en]? with | some o => o.st == 2 | none => false

set_option maxRecDepth 100000 in
set_option maxHeartbeats 800000 in
theorem sending_any (bs : Nat) (blk bud : Int) (sl : Option Addr) (n cap en : Nat) (l : List Thing) (w : World) (hs : HeldAt w bs blk bud (.slice sl n cap) en) (h : Things w 110 sl n cap l) (hen : en ≤ n) (hn : n ≤ 500) :
    Calls Tryd.prog 49 #[.pointer (some ⟨bs, 0, none⟩)] w fun e w' => e = .returned (.bool (sendB l en)) ∧ ∃ m, w' = w.drewN m := by
  obtain ⟨s0, s2, s3, s4, s5, sf, slt⟩ := hs.cellsAt
  clear hs
  by_cases hlt : en < n
  · obtain ⟨g, o, hsl, ho, c0, c1, c2, c3, hfz⟩ := h.at hlt
    subst hsl
    have HO : Hid (sendB l en = (o.st == 2)) := by rw [Hid, sendB, ho]
    have q1 : decide (en < n) = true := by simpa using hlt
    have k0 : (0 : Int) ≤ (en : Int) := by omega
    have k1 : (en : Int) < (n : Int) := by omega
    clear ho
    go_enter Tryd.func49, Tryd.ntmps49
    go_wp2_with fail
    go_quiet (fail)
    go_wp2_with fail
    go_ret
    refine ⟨?_, nq, rfl⟩
    rw [HO.out]
    rfl
  · obtain rfl : en = n := by omega
    have q1 : decide (en < en) = false := by simp
    have HE : Hid (sendB l en = false) := by rw [Hid, sendB, List.getElem?_eq_none (by have := h.len; omega)]
    go_enter Tryd.func49, Tryd.ntmps49
    go_wp2_with fail
    go_quiet (fail)
    go_wp2_with fail
    go_ret
    refine ⟨?_, nq, rfl⟩
    rw [HE.out]
    rfl

theorem sending_as (b : Bool) (bs : Nat) (blk bud : Int) (sl : Option Addr) (n cap en : Nat) (l : List Thing) (w : World) (hb : sendB l en = b) (hs : HeldAt w bs blk bud (.slice sl n cap) en) (h : Things w 110 sl n cap l) (hen : en ≤ n) (hn : n ≤ 500) :
    Calls Tryd.prog 49 #[.pointer (some ⟨bs, 0, none⟩)] w fun e w' => e = .returned (.bool b) ∧ ∃ m, w' = w.drewN m := by
  rw [← hb]
  exact sending_any bs blk bud sl n cap en l w hs h hen hn

/-- What a sender makes of a text. -/
def SV.handle (S : SV) (bs : List Nat) : SV := match S.l[S.en]? with | some o => if o.st = 2 ∧ bs = doneB (S.en + 1) S.blk then S.done 3 o else S | none => S

theorem doneB_lt (num blk : Nat) : ∀ b ∈ doneB num blk, b < 256 := by
  intro b hb
  simp only [doneB, doneBody, List.mem_append, List.mem_singleton] at hb
  rcases hb with ((q | q) | q) | q
  · omega
  · exact leBytes_lt _ _ b q
  · exact leBytes_lt _ _ b q
  · exact leBytes_lt _ _ b q

theorem HeldAt.below {w w' : World} {bs : Nat} {blk bud : Int} {pv : Value} {en : Int} (h : HeldAt w bs blk bud pv en) (hb : Below w.heap.size w w') : HeldAt w' bs blk bud pv en := HeldAt.turn (S := []) h (Turn.below hb (Nat.le_refl _)) (by simp)

set_option maxRecDepth 100000 in
set_option maxHeartbeats 1600000 in
theorem handleS_not (bs : Nat) (sl : Option Addr) (cap : Nat) (S : SV) (text : ByteArray) (w : World) (h : Send w bs sl cap S) (hv : SVOk S) (hnot : sendB S.l S.en = false) :
    Calls Tryd.prog 21 #[.pointer (some ⟨bs, 0, none⟩), .string text] w fun e w' => e = .returned (.tuple #[]) ∧ SAft w w' bs sl sl cap S := by
  obtain ⟨s0, s2, s3, s4, s5, sf, slt⟩ := h.at_.cellsAt
  have hA := h.at_.held
  have hth : Things (w.setCell ⟨bs, 0, none⟩ (.int .i32 1)) 110 sl S.l.length cap S.l := h.things.turn ((Turn.refl [bs] w).setCell (.inl (by simp)) _) (fun k hk => by simp; exact fun e => h.ne (by rw [hk, e]))
  have HA : Hid _ := hA
  have HH : Hid _ := h
  have HT : Hid _ := hth
  clear hA h hth
  go_enter_defers Tryd.func21, Tryd.ntmps21
  go_wp2_with fail
  refine (lock_free muLib ⟨bs, 0, none⟩ _ s0 (sf _)).mono ?_
  rintro e w1 ⟨rfl, rfl⟩
  go_wp2_with fail
  have HQ : Hid (∀ n, Calls Tryd.prog 49 #[.pointer (some ⟨bs, 0, none⟩)] ((w.setCell ⟨bs, 0, none⟩ (.int .i32 1)).drewN n) fun e w' => e = .returned (.bool false) ∧ ∃ m, w' = ((w.setCell ⟨bs, 0, none⟩ (.int .i32 1)).drewN n).drewN m) := fun n =>
    sending_as false bs S.blk S.bud sl S.l.length cap S.en S.l _ hnot HA.out ⟨HT.out.owns, HT.out.len⟩ hv.le hv.n5
  go_quiet ((go_at_call 49; exact Calls.quiet_of (HQ.out _)))
  go_wp2_with fail
  have hA2 : HeldAt ((w.setCell ⟨bs, 0, none⟩ (.int .i32 1)).drewN nq) bs S.blk S.bud (.slice sl S.l.length cap) S.en := HA.out
  obtain ⟨z0, _, _, _, _, zf, _⟩ := hA2.cellsAt
  refine leaves_cons (f := 40) (args := #[.pointer (some ⟨bs, 0, none⟩)]) (by simp) (by simp [go_sem]) ?_
  refine (unlock_deferred muLib ⟨bs, 0, none⟩ .returning _ z0 (zf _)).mono ?_
  rintro e u' w'' ⟨rfl, rfl, rfl⟩
  have hTT : Turn [bs] w (((w.setCell ⟨bs, 0, none⟩ (.int .i32 1)).drewN nq).setCell ⟨bs, 0, none⟩ (.int .i32 0)) := (((Turn.refl [bs] w).setCell (.inl (by simp)) _).drewN nq).setCell (.inl (by simp)) _
  exact ⟨_, results_none rfl _ _ _, rfl, ⟨hA2.free, HH.out.things.turn hTT (fun k hk => by simp; intro e; exact HH.out.ne (by rw [hk, e])), HH.out.ne⟩, hTT.mono (by simp [sfoot]), fun g hg => .inl hg⟩

end Go.Proofs.YtfbbidaoljfloaaDoor


namespace Go.Proofs.YtfbbidaoljfloaaDoor
open Go.RowKit

theorem sumText_lt (x1 x2 x3 : Nat) (ns : List Nat) (h : ∀ b ∈ ns, b < 256) : ∀ b ∈ sumText x1 x2 x3 ns, b < 256 := by
  intro b hb
  simp only [sumText, sumBody, List.mem_append, List.mem_singleton] at hb
  rcases hb with ((((q | q) | q) | q) | q) | q
  · omega
  · exact leBytes_lt _ _ b q
  · exact leBytes_lt _ _ b q
  · exact leBytes_lt _ _ b q
  · exact h b q
  · exact leBytes_lt _ _ b q

theorem sumBody_len (x1 x2 x3 : Nat) (ns : List Nat) : (sumBody x1 x2 x3 ns).length = ns.length + 9 := by simp [sumBody, leBytes_len]; omega

/-- What is written is read. -/
theorem readS_text {x1 x2 x3 : Nat} {ns : List Nat} (h1 : x1 < 65536) (h2 : x2 < 65536) (h3 : x3 < 4294967296) : readS (sumText x1 x2 x3 ns) ns.length = some (x1, x2, x3, ns) := by
  have hbl := sumBody_len x1 x2 x3 ns
  have ht : (sumText x1 x2 x3 ns).take (ns.length + 9) = sumBody x1 x2 x3 ns := by
    unfold sumText
    rw [← hbl]
    exact List.take_left
  have l1 := leVal_leBytes 2 x1 (by omega)
  have l2 := leVal_leBytes 2 x2 (by omega)
  have l3 := leVal_leBytes 4 x3 (by omega)
  have d1 : ((sumText x1 x2 x3 ns).drop 1).take 2 = leBytes 2 x1 := by
    simp [sumText, sumBody, leBytes]
  have d3 : ((sumText x1 x2 x3 ns).drop 3).take 2 = leBytes 2 x2 := by
    simp [sumText, sumBody, leBytes]
  have d5 : ((sumText x1 x2 x3 ns).drop 5).take 4 = leBytes 4 x3 := by
    simp [sumText, sumBody, leBytes]
  have d9 : ((sumText x1 x2 x3 ns).drop 9).take ns.length = ns := by
    have e : (sumText x1 x2 x3 ns).drop 9 = ns ++ leBytes 4 (crc (sumBody x1 x2 x3 ns)) := by
      simp [sumText, sumBody, leBytes]
    rw [e]
    exact List.take_left
  unfold readS
  rw [if_pos ⟨by rw [sumText_len], by simp [sumText, sumBody, List.getD], by rw [ht]; rfl⟩, d1, d3, d5, d9, l1, l2, l3]

/-- The sum of a row. -/
def sumRow (data : ByteArray) (blk row : Nat) : List Nat := sumUp data blk row data.size
theorem sumRow_len (data : ByteArray) (blk row : Nat) : (sumRow data blk row).length = blk := sumUp_len _ _ _ _
theorem sumRow_lt (data : ByteArray) (blk row : Nat) : ∀ b ∈ sumRow data blk row, b < 256 := sumUp_lt _ _ _ _

theorem xor_swap (a b c d : Nat) : (a ^^^ b) ^^^ (c ^^^ d) = (a ^^^ c) ^^^ (b ^^^ d) := by
  apply Nat.eq_of_testBit_eq
  intro i
  simp only [Nat.testBit_xor]
  cases a.testBit i <;> cases b.testBit i <;> cases c.testBit i <;> cases d.testBit i <;> rfl

theorem getD_xorL {a b : List Nat} (h : a.length = b.length) (k : Nat) : (Rx.xorL a b).getD k 0 = a.getD k 0 ^^^ b.getD k 0 := by
  unfold Rx.xorL
  by_cases hk : k < a.length
  · have hk2 : k < b.length := by omega
    have e : (List.zipWith (fun x1 x2 => x1 ^^^ x2) a b)[k]? = some (a[k] ^^^ b[k]) := by
      rw [List.getElem?_eq_getElem (by simp; omega), List.getElem_zipWith]
    show ((List.zipWith (fun x1 x2 => x1 ^^^ x2) a b)[k]?).getD 0 = _
    rw [e]
    simp [List.getD, hk, hk2]
  · have hk2 : ¬ k < b.length := by omega
    have e : (List.zipWith (fun x1 x2 => x1 ^^^ x2) a b)[k]? = none := List.getElem?_eq_none (by simp; omega)
    show ((List.zipWith (fun x1 x2 => x1 ^^^ x2) a b)[k]?).getD 0 = _
    rw [e]
    simp [List.getD, hk, hk2]

theorem list_getD_ext {a b : List Nat} (h : a.length = b.length) (hk : ∀ k, k < a.length → a.getD k 0 = b.getD k 0) : a = b := by
  apply List.ext_getElem h
  intro i h1 h2
  have := hk i h1
  simpa [List.getD, h1, h2] using this

theorem getD_set (l : List Nat) (i k v : Nat) (hi : i < l.length) : (l.set i v).getD k 0 = if k = i then v else l.getD k 0 := by
  by_cases h : k = i
  · subst h
    simp [List.getD, hi]
  · rw [if_neg h]
    have h' : ¬ i = k := fun e => h e.symm
    simp [List.getD, h']

/-- Of two rows laid over one another the sum is the sums laid over one another. -/
theorem sumUp_xor (data : ByteArray) (blk a b : Nat) (hb : 0 < blk) : ∀ i, sumUp data blk (a ^^^ b) i = Rx.xorL (sumUp data blk a i) (sumUp data blk b i) := by
  intro i
  induction i with
  | zero =>
    unfold sumUp
    apply list_getD_ext
    · simp [Rx.xorL]
    · intro k hk
      rw [getD_xorL (by simp)]
      have : k < blk := by simpa using hk
      simp [List.getD, this]
  | succ i ih =>
    have hm : i % blk < blk := Nat.mod_lt _ hb
    have la := sumUp_len data blk a i
    have lb := sumUp_len data blk b i
    have lab := sumUp_len data blk (a ^^^ b) i
    have La := sumUp_len data blk a (i + 1)
    have Lb := sumUp_len data blk b (i + 1)
    have Lab := sumUp_len data blk (a ^^^ b) (i + 1)
    apply list_getD_ext
    · rw [Rx.xorL_len (by omega)]; omega
    · intro k hk
      rw [getD_xorL (by omega)]
      unfold sumUp
      rw [Nat.testBit_xor]
      have e := ih
      cases ha : a.testBit (i / blk) <;> cases hbb : b.testBit (i / blk)
      · simp only [Bool.xor_self, Bool.false_eq_true, if_false]
        rw [ih, getD_xorL (by omega)]
      · simp only [Bool.xor_true, Bool.not_false, if_true, Bool.false_eq_true, if_false]
        rw [getD_set _ _ _ _ (by omega), getD_set _ _ _ _ (by omega), ih, getD_xorL (by omega), getD_xorL (by omega)]
        by_cases hki : k = i % blk
        · rw [if_pos hki, if_pos hki, hki, Nat.xor_assoc]
        · rw [if_neg hki, if_neg hki]
      · simp only [Bool.xor_false, if_true, Bool.false_eq_true, if_false]
        rw [getD_set _ _ _ _ (by omega), getD_set _ _ _ _ (by omega), ih, getD_xorL (by omega), getD_xorL (by omega)]
        by_cases hki : k = i % blk
        · rw [if_pos hki, if_pos hki, hki, Nat.xor_assoc, Nat.xor_assoc, Nat.xor_comm (byteAt data i)]
        · rw [if_neg hki, if_neg hki]
      · simp only [Bool.xor_self, Bool.false_eq_true, if_false, if_true]
        rw [getD_set _ _ _ _ (by omega), getD_set _ _ _ _ (by omega), ih, getD_xorL (by omega)]
        by_cases hki : k = i % blk
        · rw [if_pos hki, if_pos hki, hki, xor_swap, Nat.xor_self, Nat.xor_zero]
        · rw [if_neg hki, if_neg hki]

theorem sumRow_xor (data : ByteArray) (blk a b : Nat) (hb : 0 < blk) : sumRow data blk (a ^^^ b) = Rx.xorL (sumRow data blk a) (sumRow data blk b) := sumUp_xor data blk a b hb _

/-- A set of sums of this object. -/
def GoodSet (data : ByteArray) (blk : Nat) (S : Rx.SetV) : Prop := ∀ j, (S j).1 ≠ 0 → (S j).2 = sumRow data blk (S j).1

theorem addF_good {data : ByteArray} {blk : Nat} (hb : 0 < blk) (k : Nat) : ∀ (S : Rx.SetV) (r : Nat), GoodSet data blk S → GoodSet data blk (Rx.addF k S r (sumRow data blk r)).1 := by
  induction k with
  | zero => intro S r h; exact h
  | succ k ih =>
    intro S r h
    unfold Rx.addF
    by_cases h0 : r = 0
    · rw [if_pos h0]; exact h
    · rw [if_neg h0]
      by_cases h1 : (S (Rx.low r)).1 = 0
      · rw [if_pos h1]
        intro j hj
        show (Rx.setAt S (Rx.low r) (r, sumRow data blk r) j).2 = sumRow data blk (Rx.setAt S (Rx.low r) (r, sumRow data blk r) j).1
        have hj' : (Rx.setAt S (Rx.low r) (r, sumRow data blk r) j).1 ≠ 0 := hj
        by_cases hjl : j = Rx.low r
        · rw [hjl, Rx.setAt_same]
        · rw [Rx.setAt_other _ _ hjl] at hj' ⊢
          exact h j hj'
      · rw [if_neg h1, h _ h1, ← sumRow_xor data blk _ _ hb]
        exact ih S _ h

/-- A row that comes to nothing. -/
def redF : Nat → Rx.SetV → Nat → Bool
  | 0, _, _ => false
  | k + 1, S, r => if r = 0 then true else if (S (Rx.low r)).1 = 0 then false else redF k S (r ^^^ (S (Rx.low r)).1)

theorem redF_set {j : Nat} {p : Nat × List Nat} (k : Nat) : ∀ (S : Rx.SetV) (r : Nat), (S j).1 = 0 → redF k S r = true → redF k (Rx.setAt S j p) r = true := by
  induction k with
  | zero => intro S r _ h; cases h
  | succ k ih =>
    intro S r hj h
    unfold redF at h ⊢
    by_cases h0 : r = 0
    · rw [if_pos h0]
    · rw [if_neg h0] at h ⊢
      by_cases h1 : (S (Rx.low r)).1 = 0
      · rw [if_pos h1] at h; cases h
      · rw [if_neg h1] at h
        have hne : Rx.low r ≠ j := fun e => h1 (by rw [e]; exact hj)
        rw [Rx.setAt_other _ _ hne, if_neg h1]
        exact ih S _ hj h

theorem redF_more (k : Nat) : ∀ (S : Rx.SetV) (r : Nat), redF k S r = true → redF (k + 1) S r = true := by
  induction k with
  | zero => intro S r h; cases h
  | succ k ih =>
    intro S r h
    rw [redF] at h ⊢
    by_cases h0 : r = 0
    · rw [if_pos h0]
    · rw [if_neg h0] at h ⊢
      by_cases h1 : (S (Rx.low r)).1 = 0
      · rw [if_pos h1] at h; cases h
      · rw [if_neg h1] at h ⊢
        exact ih S _ h

theorem addF_keeps (k : Nat) : ∀ (S : Rx.SetV) (r : Nat) (b : List Nat) {j : Nat}, (S j).1 ≠ 0 → (Rx.addF k S r b).1 j = S j := by
  induction k with
  | zero => intro S r b j _; rfl
  | succ k ih =>
    intro S r b j hj
    unfold Rx.addF
    by_cases h0 : r = 0
    · rw [if_pos h0]
    · rw [if_neg h0]
      by_cases h1 : (S (Rx.low r)).1 = 0
      · rw [if_pos h1]
        exact Rx.setAt_other _ _ (fun e => hj (by rw [e]; exact h1))
      · rw [if_neg h1]
        exact ih S _ _ hj

/-- A row that was taken in comes to nothing. -/
theorem redF_added {blk K : Nat} (hK : K ≤ 32) (k : Nat) : ∀ (S : Rx.SetV) (r : Nat) (b : List Nat), Rx.SetOk blk K S → r < 2 ^ K → (r = 0 ∨ 33 ≤ k + Rx.low r) → 1 ≤ k → redF (k + 1) (Rx.addF k S r b).1 r = true := by
  induction k with
  | zero => intro S r b _ _ _ h; omega
  | succ k ih =>
    intro S r b h hr hf _
    unfold Rx.addF
    by_cases h0 : r = 0
    · rw [redF, if_pos h0]
    · rw [if_neg h0]
      by_cases h1 : (S (Rx.low r)).1 = 0
      · rw [if_pos h1, redF, if_neg h0]
        show (if (Rx.setAt S (Rx.low r) (r, b) (Rx.low r)).1 = 0 then false else redF (k + 1) (Rx.setAt S (Rx.low r) (r, b)) (r ^^^ (Rx.setAt S (Rx.low r) (r, b) (Rx.low r)).1)) = true
        rw [Rx.setAt_same, if_neg h0, Nat.xor_self]
        simp [redF]
      · rw [if_neg h1]
        obtain ⟨q1, q2, q3, q4⟩ := h.row _ h1
        obtain ⟨n1, n2⟩ := Rx.next_row hK h0 hr h1 q1 q2
        have hlow := Rx.low_ltK hK h0 hr
        have hrec := ih S (r ^^^ (S (Rx.low r)).1) (Rx.xorL b (S (Rx.low r)).2) h n1 (by
          rcases n2 with q | q
          · exact .inl q
          · exact .inr (by omega)) (by omega)
        rw [redF, if_neg h0]
        have hkeep : ((Rx.addF k S (r ^^^ (S (Rx.low r)).1) (Rx.xorL b (S (Rx.low r)).2)).1 (Rx.low r)) = S (Rx.low r) := addF_keeps k S _ _ h1
        rw [hkeep, if_neg h1]
        exact hrec

/-- The blocks, alone. -/
theorem outF_good {data : ByteArray} {blk : Nat} (hb : 0 < blk) (k : Nat) : ∀ (S : Rx.SetV) (j o : Nat), GoodSet data blk S → (S j).2 = sumRow data blk (S j).1 → (∀ t, o.testBit t = true → (S t).1 ≠ 0 ∧ t ≠ j) → o < 4294967296 → GoodSet data blk (Rx.outF k S j o) ∧ (∀ t, t ≠ j → Rx.outF k S j o t = S t) ∧ (Rx.outF k S j o j).2 = sumRow data blk (Rx.outF k S j o j).1 := by
  induction k with
  | zero => intro S j o h hj _ _; exact ⟨h, fun _ _ => rfl, hj⟩
  | succ k ih =>
    intro S j o h hj hbits ho
    unfold Rx.outF
    by_cases h0 : o = 0
    · rw [if_pos h0]; exact ⟨h, fun _ _ => rfl, hj⟩
    · rw [if_neg h0]
      obtain ⟨q1, q2⟩ := hbits _ (Rx.low_bit h0 ho)
      have hnew : (Rx.setAt S j ((S j).1 ^^^ (S (Rx.low o)).1, Rx.xorL (S j).2 (S (Rx.low o)).2) j).2 = sumRow data blk (Rx.setAt S j ((S j).1 ^^^ (S (Rx.low o)).1, Rx.xorL (S j).2 (S (Rx.low o)).2) j).1 := by
        rw [Rx.setAt_same]
        show Rx.xorL (S j).2 (S (Rx.low o)).2 = sumRow data blk ((S j).1 ^^^ (S (Rx.low o)).1)
        rw [sumRow_xor data blk _ _ hb, hj, h _ q1]
      have hg : GoodSet data blk (Rx.setAt S j ((S j).1 ^^^ (S (Rx.low o)).1, Rx.xorL (S j).2 (S (Rx.low o)).2)) := fun t ht => by
        by_cases htj : t = j
        · rw [htj]; exact hnew
        · rw [Rx.setAt_other _ _ htj] at ht ⊢; exact h t ht
      obtain ⟨r1, r2, r3⟩ := ih _ j (o ^^^ 2 ^ Rx.low o) hg hnew (fun t ht => by
        rw [clear_bits h0 ho] at ht
        simp at ht
        obtain ⟨p1, p2⟩ := hbits t ht.1
        exact ⟨by rw [Rx.setAt_other _ _ p2]; exact p1, p2⟩) (Nat.lt_trans (clear_lt h0 ho) ho)
      exact ⟨r1, fun t ht => by rw [r2 t ht, Rx.setAt_other _ _ ht], r3⟩

/-- The row that is left: the lowest block alone. -/
theorem outF_row (k : Nat) : ∀ (S : Rx.SetV) (j o : Nat), (∀ t, o.testBit t = true → (S t).1 = 2 ^ t ∧ t ≠ j) → o < 4294967296 → (o = 0 ∨ 33 ≤ k + Rx.low o) → (Rx.outF k S j o j).1 = (S j).1 ^^^ o := by
  induction k with
  | zero =>
    intro S j o _ ho hf
    have : o = 0 := by
      rcases hf with q | q
      · exact q
      · apply Classical.byContradiction
        intro h0
        have := Rx.low_lt h0 ho
        omega
    rw [this]
    simp [Rx.outF]
  | succ k ih =>
    intro S j o hbits ho hf
    unfold Rx.outF
    by_cases h0 : o = 0
    · rw [if_pos h0, h0]; simp
    · rw [if_neg h0]
      obtain ⟨q1, q2⟩ := hbits _ (Rx.low_bit h0 ho)
      rw [ih _ j (o ^^^ 2 ^ Rx.low o) (fun t ht => by
        rw [clear_bits h0 ho] at ht
        simp at ht
        obtain ⟨p1, p2⟩ := hbits t ht.1
        exact ⟨by rw [Rx.setAt_other _ _ p2]; exact p1, p2⟩) (Nat.lt_trans (clear_lt h0 ho) ho) (by
        rcases clear_low h0 ho with q | q
        · exact .inl q
        · right; omega), Rx.setAt_same]
      show ((S j).1 ^^^ (S (Rx.low o)).1) ^^^ (o ^^^ 2 ^ Rx.low o) = (S j).1 ^^^ o
      rw [q1, xor_swap, Nat.xor_comm (2 ^ Rx.low o) (2 ^ Rx.low o), Nat.xor_self, Nat.xor_zero]

/-- From block m on each stands alone. -/
structure Alone (data : ByteArray) (blk K m : Nat) (S : Rx.SetV) : Prop where
  ok : Rx.SetOk blk K S
  nz : ∀ t, t < K → (S t).1 ≠ 0
  good : GoodSet data blk S
  one : ∀ t, m ≤ t → t < K → (S t).1 = 2 ^ t

theorem alone_step {data : ByteArray} {blk K m : Nat} {S : Rx.SetV} (hb : 0 < blk) (hK : K ≤ 32) (hm : m < K) (h : Alone data blk K (m + 1) S) : Alone data blk K m (Rx.aloneF S m) := by
  have hnm := h.nz m hm
  obtain ⟨a1, a2, a3, a4⟩ := h.ok.row m hnm
  have h32 := Rx.lt32 hK a1
  have hbm : (S m).1.testBit m = true := by have := Rx.low_bit hnm h32; rwa [a2] at this
  have hp : 2 ^ m < 4294967296 := Nat.lt_of_lt_of_le (Nat.pow_lt_pow_right (by decide) (show m < 32 by omega)) (by decide)
  have hxl : (S m).1 ^^^ 2 ^ m < 4294967296 := Rx.xor_lt32' h32 hp
  have hbits : ∀ t, ((S m).1 ^^^ 2 ^ m).testBit t = true → m < t ∧ t < K := fun t ht => by
    rw [Nat.testBit_xor, Nat.testBit_two_pow] at ht
    have htK : t < K := by
      apply Classical.byContradiction
      intro hn
      have e1 : (S m).1.testBit t = false := Nat.testBit_lt_two_pow (Nat.lt_of_lt_of_le a1 (Nat.pow_le_pow_right (by decide) (by omega)))
      have e2 : ¬ m = t := by omega
      simp [e1, e2] at ht
    refine ⟨?_, htK⟩
    rcases Nat.lt_trichotomy m t with q | q | q
    · exact q
    · subst q; simp [hbm] at ht
    · have e1 : (S m).1.testBit t = false := Rx.low_below hnm h32 (by omega)
      have e2 : ¬ m = t := by omega
      simp [e1, e2] at ht
  have hf : (S m).1 ^^^ 2 ^ m = 0 ∨ 33 ≤ 33 + Rx.low ((S m).1 ^^^ 2 ^ m) := .inr (by omega)
  obtain ⟨r1, r2, r3⟩ := outF_good (data := data) hb 33 S m ((S m).1 ^^^ 2 ^ m) h.good (h.good m hnm) (fun t ht => ⟨h.nz t (hbits t ht).2, by have := (hbits t ht).1; omega⟩) hxl
  have r4 := outF_row 33 S m ((S m).1 ^^^ 2 ^ m) (fun t ht => ⟨h.one t (by have := (hbits t ht).1; omega) (hbits t ht).2, by have := (hbits t ht).1; omega⟩) hxl hf
  rw [← Nat.xor_assoc, Nat.xor_self, Nat.zero_xor] at r4
  have hpm : (2 : Nat) ^ m ≠ 0 := by have := Nat.two_pow_pos m; omega
  refine ⟨⟨fun t ht => ?_⟩, fun t ht => ?_, r1, fun t h1 h2 => ?_⟩
  · by_cases htm : t = m
    · subst htm
      show (Rx.outF 33 S t ((S t).1 ^^^ 2 ^ t) t).1 < 2 ^ K ∧ Rx.low (Rx.outF 33 S t ((S t).1 ^^^ 2 ^ t) t).1 = t ∧ (Rx.outF 33 S t ((S t).1 ^^^ 2 ^ t) t).2.length = blk ∧ ∀ x ∈ (Rx.outF 33 S t ((S t).1 ^^^ 2 ^ t) t).2, x < 256
      rw [r3, r4]
      refine ⟨Nat.pow_lt_pow_right (by decide) hm, Rx.low_unique hp (by simp) (fun i hi => ?_), sumRow_len _ _ _, sumRow_lt _ _ _⟩
      rw [Nat.testBit_two_pow]
      simp
      omega
    · have e : Rx.aloneF S m t = S t := r2 t htm
      rw [e] at ht ⊢
      exact h.ok.row t ht
  · by_cases htm : t = m
    · subst htm
      show (Rx.outF 33 S t ((S t).1 ^^^ 2 ^ t) t).1 ≠ 0
      rw [r4]; exact hpm
    · have e : Rx.aloneF S m t = S t := r2 t htm
      rw [e]; exact h.nz t ht
  · by_cases htm : t = m
    · subst htm; exact r4
    · have e : Rx.aloneF S m t = S t := r2 t htm
      rw [e]; exact h.one t (by omega) h2

theorem alone_down {data : ByteArray} {blk K : Nat} (hb : 0 < blk) (hK : K ≤ 32) (m : Nat) : ∀ (S : Rx.SetV), m ≤ K → Alone data blk K m S → Alone data blk K 0 (Rx.downF m S) := by
  induction m with
  | zero => intro S _ h; exact h
  | succ m ih =>
    intro S hm h
    exact ih _ (by omega) (alone_step hb hK (by omega) h)

theorem flatMap_same {f g : Nat → List Nat} (K : Nat) (h : ∀ j, j < K → f j = g j) : (List.range K).flatMap f = (List.range K).flatMap g := by
  induction K with
  | zero => rfl
  | succ K ih =>
    rw [List.range_succ, List.flatMap_append, List.flatMap_append, ih (fun j hj => h j (by omega))]
    simp [h K (by omega)]

theorem joinF_blocks {data : ByteArray} {blk K : Nat} {S : Rx.SetV} (hb : 0 < blk) (hK : K ≤ 32) (hok : Rx.SetOk blk K S) (hnz : ∀ t, t < K → (S t).1 ≠ 0) (hg : GoodSet data blk S) : Rx.joinF S K = (List.range K).flatMap (fun j => sumRow data blk (2 ^ j)) := by
  have ha := alone_down (data := data) hb hK K S (Nat.le_refl _) ⟨hok, hnz, hg, fun t h1 h2 => by omega⟩
  unfold Rx.joinF
  apply flatMap_same
  intro j hjK
  rw [ha.good j (ha.nz j hjK), ha.one j (Nat.zero_le _) hjK]

/-- Block j, alone. -/
theorem sumUp_one (data : ByteArray) (blk j : Nat) (hb : 0 < blk) : ∀ (i k : Nat), k < blk → (sumUp data blk (2 ^ j) i).getD k 0 = if j * blk + k < i then byteAt data (j * blk + k) else 0 := by
  intro i
  induction i with
  | zero =>
    intro k hk
    rw [if_neg (by omega)]
    simp [sumUp, List.getD, hk]
  | succ i ih =>
    intro k hk
    have hm : i % blk < blk := Nat.mod_lt _ hb
    have hdm := Nat.div_add_mod i blk
    unfold sumUp
    rw [Nat.testBit_two_pow]
    by_cases hj : j = i / blk
    · rw [if_pos (by simpa using hj), getD_set _ _ _ _ (by rw [sumUp_len]; exact hm)]
      have e : j * blk + i % blk = i := by rw [hj, Nat.mul_comm]; exact hdm
      by_cases hk2 : k = i % blk
      · rw [if_pos hk2, ih _ hm, hk2, e, if_neg (by omega), if_pos (by omega), Nat.zero_xor]
      · rw [if_neg hk2, ih k hk]
        by_cases hlt : j * blk + k < i
        · rw [if_pos hlt, if_pos (by omega)]
        · rw [if_neg hlt, if_neg (by omega)]
    · rw [if_neg (by simpa using hj), ih k hk]
      have hne : j * blk + k ≠ i := fun e => hj (by
        rw [← e, Nat.mul_comm, Nat.mul_add_div hb, Nat.div_eq_of_lt hk]
        omega)
      by_cases hlt : j * blk + k < i
      · rw [if_pos hlt, if_pos (by omega)]
      · rw [if_neg hlt, if_neg (by omega)]

theorem byteAt_none {data : ByteArray} {i : Nat} (h : ¬ i < data.size) : byteAt data i = 0 := by unfold byteAt; rw [dif_neg h]
theorem sumRow_one (data : ByteArray) (blk j k : Nat) (hb : 0 < blk) (hk : k < blk) : (sumRow data blk (2 ^ j)).getD k 0 = byteAt data (j * blk + k) := by
  unfold sumRow
  rw [sumUp_one data blk j hb _ k hk]
  by_cases h : j * blk + k < data.size
  · rw [if_pos h]
  · rw [if_neg h, byteAt_none h]

theorem blocks_len (data : ByteArray) (blk K : Nat) : ((List.range K).flatMap (fun j => sumRow data blk (2 ^ j))).length = K * blk := by
  induction K with
  | zero => simp
  | succ K ih => rw [List.range_succ, List.flatMap_append, List.length_append, ih]; simp [sumRow_len, Nat.succ_mul]
theorem blocks_at (data : ByteArray) (blk K : Nat) (hb : 0 < blk) : ∀ i, i < K * blk → ((List.range K).flatMap (fun j => sumRow data blk (2 ^ j))).getD i 0 = byteAt data i := by
  induction K with
  | zero => intro i hi; omega
  | succ K ih =>
    intro i hi
    rw [List.range_succ, List.flatMap_append]
    have hl := blocks_len data blk K
    simp only [List.getD]
    by_cases h : i < K * blk
    · rw [List.getElem?_append_left (by omega)]
      exact ih i h
    · rw [List.getElem?_append_right (by omega), hl]
      have e := sumRow_one data blk K (i - K * blk) hb (by rw [Nat.succ_mul] at hi; omega)
      rw [show K * blk + (i - K * blk) = i by omega] at e
      simpa [List.getD] using e

theorem bytesOf_at (data : ByteArray) (i : Nat) : (bytesOf data).getD i 0 = byteAt data i := by
  unfold bytesOf byteAt
  by_cases h : i < data.size
  · have h' : i < data.data.toList.length := by simpa using h
    rw [dif_pos h]
    simp only [List.getD, List.getElem?_map, List.getElem?_eq_getElem h', Option.map_some, Option.getD_some]
    rfl
  · have h' : ¬ i < data.data.toList.length := by simpa using h
    rw [dif_neg h]
    simp only [List.getD, List.getElem?_map]
    rw [List.getElem?_eq_none (by omega)]
    rfl

theorem strOf_bytesOf (data : ByteArray) : strOf (bytesOf data) = data := bytesOf_inj (bytesOf_strOf _ (bytesOf_lt data))

/-- THE OBJECT COMES OUT. -/
theorem joinF_data {data : ByteArray} {blk K : Nat} {S : Rx.SetV} (hb : 0 < blk) (hK : K ≤ 32) (hc : data.size ≤ K * blk) (hok : Rx.SetOk blk K S) (hnz : ∀ t, t < K → (S t).1 ≠ 0) (hg : GoodSet data blk S) : strOf ((Rx.joinF S K).take data.size) = data := by
  have e : (Rx.joinF S K).take data.size = bytesOf data := by
    rw [joinF_blocks hb hK hok hnz hg]
    have hl := blocks_len data blk K
    apply list_getD_ext
    · rw [List.length_take, hl, bytesOf_len]; omega
    · intro k hk
      have hk2 : k < data.size := by
        rw [List.length_take] at hk
        omega
      rw [bytesOf_at, ← blocks_at data blk K hb k (by omega)]
      simp only [List.getD]
      rw [List.getElem?_take_of_lt hk2]
  rw [e, strOf_bytesOf]

end Go.Proofs.YtfbbidaoljfloaaDoor


namespace Go.Proofs.YtfbbidaoljfloaaDoor
open Go.RowKit Go.MuLone

/-- A network: a sender, a receiver, apart from one another. -/
structure NetAt (w : World) (bs br : Nat) (sl : Option Addr) (cap : Nat) (R : RC) (S : SV) (V : RV) : Prop where
  send : Send w bs sl cap S
  recv : Recv w br R V
  lk : R.lk = 0
  apart : ∀ g ∈ sfoot bs sl, g ∉ R.foot br
  sok : SVOk S
  rok : RVOk V
  tab : Tab w
  z1 : 0 ∉ sfoot bs sl
  z2 : 0 ∉ R.foot br

def Net (w : World) (bs br : Nat) (F : List Nat) (S : SV) (V : RV) : Prop := ∃ sl cap R, NetAt w bs br sl cap R S V ∧ F = sfoot bs sl ++ R.foot br

structure NAft (w w' : World) (bs br : Nat) (F F' : List Nat) (S : SV) (V : RV) : Prop where
  net : Net w' bs br F' S V
  turn : Turn F w w'
  foot : ∀ g ∈ F', g ∈ F ∨ w.heap.size ≤ g

theorem Net.lt {w : World} {bs br : Nat} {F : List Nat} {S : SV} {V : RV} (h : Net w bs br F S V) : ∀ g ∈ F, g < w.heap.size := by
  obtain ⟨sl, cap, R, hn, rfl⟩ := h
  intro g hg
  rcases List.mem_append.1 hg with q | q
  · exact hn.send.lt g q
  · exact hn.recv.lt g q
theorem Net.turn {Z : List Nat} {w w' : World} {bs br : Nat} {F : List Nat} {S : SV} {V : RV} (h : Net w bs br F S V) (ht : Turn Z w w') (hn : ∀ g ∈ F, g ∉ Z) (h0 : 0 ∉ Z) : Net w' bs br F S V := by
  obtain ⟨sl, cap, R, hh, rfl⟩ := h
  exact ⟨sl, cap, R, ⟨hh.send.turn ht (fun g hg => hn g (by simp [hg])), hh.recv.turn ht (fun g hg => hn g (by simp [hg])), hh.lk, hh.apart, hh.sok, hh.rok, hh.tab.turn ht h0, hh.z1, hh.z2⟩, rfl⟩
theorem Net.tab {w : World} {bs br : Nat} {F : List Nat} {S : SV} {V : RV} (h : Net w bs br F S V) : Tab w := by
  obtain ⟨_, _, _, hn, _⟩ := h
  exact hn.tab
theorem Net.pos {w : World} {bs br : Nat} {F : List Nat} {S : SV} {V : RV} (h : Net w bs br F S V) : 0 < w.heap.size := World.block_lt_of_cell? w _ (h.tab 0 0 rfl)
theorem Net.rok {w : World} {bs br : Nat} {F : List Nat} {S : SV} {V : RV} (h : Net w bs br F S V) : RVOk V := by
  obtain ⟨_, _, _, hn, _⟩ := h
  exact hn.rok
theorem Net.sok {w : World} {bs br : Nat} {F : List Nat} {S : SV} {V : RV} (h : Net w bs br F S V) : SVOk S := by
  obtain ⟨_, _, _, hn, _⟩ := h
  exact hn.sok

theorem NetAt.sender {w w' : World} {bs br : Nat} {sl sl' : Option Addr} {cap cap' : Nat} {R : RC} {S S' : SV} {V : RV} (h : NetAt w bs br sl cap R S V) (ha : SAft w w' bs sl sl' cap' S') (hv : SVOk S') : NAft w w' bs br (sfoot bs sl ++ R.foot br) (sfoot bs sl' ++ R.foot br) S' V := by
  have hpos : 0 < w.heap.size := World.block_lt_of_cell? w _ (h.tab 0 0 rfl)
  have hr : Recv w' br R V := h.recv.turn ha.turn (fun g hg hm => h.apart g hm hg)
  refine ⟨⟨sl', cap', R, ⟨ha.send, hr, h.lk, fun g hg hm => ?_, hv, h.rok, h.tab.turn ha.turn h.z1, fun hm => ?_, h.z2⟩, rfl⟩, ha.turn.mono (fun x hx => by simp [hx]), fun g hg => ?_⟩
  · rcases ha.foot g hg with q | q
    · exact h.apart g q hm
    · have := h.recv.lt g hm; omega
  · rcases ha.foot 0 hm with q | q
    · exact h.z1 q
    · omega
  · rcases List.mem_append.1 hg with q | q
    · rcases ha.foot g q with q | q
      · simp [q]
      · exact .inr q
    · simp [q]

theorem NetAt.receiver {w w' : World} {bs br : Nat} {sl : Option Addr} {cap : Nat} {R R' : RC} {S : SV} {V V' : RV} (h : NetAt w bs br sl cap R S V) (ha : Aft w w' br R R' V') (hv : RVOk V') : NAft w w' bs br (sfoot bs sl ++ R.foot br) (sfoot bs sl ++ R'.foot br) S V' := by
  have hpos : 0 < w.heap.size := World.block_lt_of_cell? w _ (h.tab 0 0 rfl)
  have hs : Send w' bs sl cap S := h.send.turn ha.turn (fun g hg hm => h.apart g hg hm)
  refine ⟨⟨sl, cap, R', ⟨hs, ha.recv, ha.lk.trans h.lk, fun g hg hm => ?_, h.sok, hv, h.tab.turn ha.turn h.z2, h.z1, fun hm => ?_⟩, rfl⟩, ha.turn.mono (fun x hx => by simp [hx]), fun g hg => ?_⟩
  · rcases ha.foot g hm with q | q
    · exact h.apart g hg q
    · have := h.send.lt g hg; omega
  · rcases ha.foot 0 hm with q | q
    · exact h.z2 q
    · omega
  · rcases List.mem_append.1 hg with q | q
    · simp [q]
    · rcases ha.foot g q with q | q
      · simp [q]
      · exact .inr q

theorem SVOk.done {S : SV} (h : SVOk S) {o : Thing} (st : Int) (ho : S.l[S.en]? = some o) : SVOk (S.done st o) := by
  have hlt := (List.getElem?_eq_some_iff.1 ho).1
  refine ⟨h.b1, h.b2, h.u1, h.u2, by simp [SV.done]; omega, by simp [SV.done]; exact h.n5, fun i p hi hp => ?_⟩
  have hi' : S.en + 1 ≤ i := hi
  have hp' : (S.l.set S.en ⟨.empty, 0, st, o.sent⟩)[i]? = some p := hp
  rw [List.getElem?_set_ne (by omega)] at hp'
  exact h.cur i p (by omega) hp'
theorem SVOk.sentOne {S : SV} (h : SVOk S) {o : Thing} (ho : S.l[S.en]? = some o) (hb : o.sent < (S.bud : Int)) : SVOk (S.sentOne o) := by
  have hlt := (List.getElem?_eq_some_iff.1 ho).1
  obtain ⟨q1, q2, q3⟩ := h.cur S.en o (Nat.le_refl _) ho
  refine ⟨h.b1, h.b2, h.u1, h.u2, by simp [SV.sentOne]; exact h.le, by simp [SV.sentOne]; exact h.n5, fun i p hi hp => ?_⟩
  have hp' : (S.l.set S.en { o with st := 2, sent := o.sent + 1 })[i]? = some p := hp
  by_cases hie : i = S.en
  · subst hie
    rw [List.getElem?_set_self hlt] at hp'
    cases hp'
    exact ⟨by show 0 ≤ o.sent + 1; omega, by show o.sent + 1 ≤ (S.bud : Int); omega, q3⟩
  · rw [List.getElem?_set_ne (fun e => hie e.symm)] at hp'
    exact h.cur i p hi hp'
theorem SVOk.more {S : SV} (h : SVOk S) (data : ByteArray) (nonce : Int) (hd : data.size ≤ 32 * S.blk) (hn : S.l.length < 500) : SVOk { S with l := S.l ++ [⟨data, nonce, 1, 0⟩] } := by
  refine ⟨h.b1, h.b2, h.u1, h.u2, by simp; have := h.le; omega, by simp; omega, fun i p hi hp => ?_⟩
  have hp' : (S.l ++ [⟨data, nonce, 1, 0⟩])[i]? = some p := hp
  by_cases hil : i < S.l.length
  · rw [List.getElem?_append_left hil] at hp'
    exact h.cur i p hi hp'
  · rw [List.getElem?_append_right (by omega)] at hp'
    have : i - S.l.length = 0 := by
      have := (List.getElem?_eq_some_iff.1 hp').1
      simp at this
      omega
    rw [this] at hp'
    simp at hp'
    subst hp'
    exact ⟨Int.le_refl _, by show (0 : Int) ≤ _; omega, hd⟩

theorem nTick_none {w : World} {bs br : Nat} {F : List Nat} {S : SV} {V : RV} (h : Net w bs br F S V) (he : S.en = S.l.length) :
    Calls Tryd.prog 18 #[.pointer (some ⟨bs, 0, none⟩)] w fun e w' => e = .returned (.slice none 0 0) ∧ ∃ F', NAft w w' bs br F F' S V := by
  obtain ⟨sl, cap, R, hn, rfl⟩ := h
  refine (tickS_none bs sl cap S w hn.send he).mono ?_
  rintro e w' ⟨rfl, ha⟩
  exact ⟨rfl, _, hn.sender ha hn.sok⟩
theorem nTick_fail {w : World} {bs br : Nat} {F : List Nat} {S : SV} {V : RV} {o : Thing} (h : Net w bs br F S V) (ho : S.l[S.en]? = some o) (hb : o.sent = S.bud) :
    Calls Tryd.prog 18 #[.pointer (some ⟨bs, 0, none⟩)] w fun e w' => e = .returned (.slice none 0 0) ∧ ∃ F', NAft w w' bs br F F' (S.done 4 o) V := by
  obtain ⟨sl, cap, R, hn, rfl⟩ := h
  refine (tickS_fail bs sl cap S o w hn.send hn.sok ho hb).mono ?_
  rintro e w' ⟨rfl, ha⟩
  exact ⟨rfl, _, hn.sender ha (hn.sok.done 4 ho)⟩
theorem nTick_send {w : World} {bs br : Nat} {F : List Nat} {S : SV} {V : RV} {o : Thing} (h : Net w bs br F S V) (ho : S.l[S.en]? = some o) (hb : o.sent < (S.bud : Int)) :
    Calls Tryd.prog 18 #[.pointer (some ⟨bs, 0, none⟩)] w fun e w' => ∃ G, e = .returned (.slice (some ⟨G, 0, none⟩) 1 1) ∧ w.heap.size ≤ G ∧ w'.heap[G]? = some (.cells #[.string (frameOf (S.en + 1) S.blk o)] 9 (0, 0)) ∧ ∃ F', NAft w w' bs br F F' (S.sentOne o) V ∧ G ∉ F' := by
  obtain ⟨sl, cap, R, hn, rfl⟩ := h
  refine (tickS_send bs sl cap S o w hn.send hn.sok ho hb).mono ?_
  rintro e w' ⟨G, rfl, hG, hc, ha⟩
  refine ⟨G, rfl, hG, hc, _, hn.sender ha (hn.sok.sentOne ho hb), fun hm => ?_⟩
  rcases List.mem_append.1 hm with q | q
  · have := hn.send.lt G q; omega
  · have := hn.recv.lt G q; omega
theorem nStatus {w : World} {bs br : Nat} {F : List Nat} {S : SV} {V : RV} {o : Thing} (k : Nat) (h : Net w bs br F S V) (ho : S.l[k]? = some o) :
    Calls Tryd.prog 22 #[.pointer (some ⟨bs, 0, none⟩), .int .i64 ((k : Int) + 1)] w fun e w' => e = .returned (.tuple #[.agg #[.int .i64 o.st, .int .i64 o.sent], .int .i64 0]) ∧ ∃ F', NAft w w' bs br F F' S V := by
  obtain ⟨sl, cap, R, hn, rfl⟩ := h
  refine (statusS bs sl cap S o k w hn.send hn.sok ho).mono ?_
  rintro e w' ⟨rfl, ha⟩
  exact ⟨rfl, _, hn.sender ha hn.sok⟩
theorem nSubmit {w : World} {bs br : Nat} {F : List Nat} {S : SV} {V : RV} (data : ByteArray) (nonce : Int) (h : Net w bs br F S V) (hd : data.size ≤ 32 * S.blk) (hl : S.l.length < 500) (hf : cntSt (S.l.drop S.en) 1 < 8) :
    Calls Tryd.prog 17 #[.pointer (some ⟨bs, 0, none⟩), .string data, .int .u64 nonce] w fun e w' => e = .returned (.tuple #[.int .i64 ((S.l.length : Int) + 1), .int .i64 0]) ∧ ∃ F', NAft w w' bs br F F' { S with l := S.l ++ [⟨data, nonce, 1, 0⟩] } V := by
  obtain ⟨sl, cap, R, hn, rfl⟩ := h
  refine (submitS bs sl cap S data nonce w hn.send hn.sok hd hl hf).mono ?_
  rintro e w' ⟨rfl, sl', cap', ha⟩
  exact ⟨rfl, _, hn.sender ha (hn.sok.more data nonce hd hl)⟩

structure NAns (w w' : World) (F' : List Nat) (e : Ending) (a : Option (List Nat)) : Prop where
  none_ : a = none → e = .returned (.slice none 0 0)
  some_ : ∀ d, a = some d → ∃ G, e = .returned (.slice (some ⟨G, 0, none⟩) 1 1) ∧ w'.heap[G]? = some (.cells #[.string (strOf d)] 9 (0, 0)) ∧ w.heap.size ≤ G ∧ G ∉ F'

theorem nHandle {w : World} {bs br : Nat} {F : List Nat} {S : SV} {V : RV} (text : ByteArray) (h : Net w bs br F S V) (hm : text.size ≤ 4611686018427387904) :
    Calls Tryd.prog 20 #[.pointer (some ⟨br, 0, none⟩), .string text] w fun e w' => ∃ F', NAft w w' bs br F F' S (V.handle (bytesOf text)).1 ∧ NAns w w' F' e (V.handle (bytesOf text)).2 := by
  obtain ⟨sl, cap, R, hn, rfl⟩ := h
  refine (rhandle_any br R V text w hn.recv hn.lk hn.rok hn.tab hn.z2 hm).mono ?_
  rintro e w' ⟨R', ha, hans⟩
  refine ⟨_, hn.receiver ha (hn.rok.handle _ (bytesOf_lt text)), ⟨hans.none_, fun d hd => ?_⟩⟩
  obtain ⟨G, q1, q2, q3, q4⟩ := hans.some_ d hd
  refine ⟨G, q1, q2, q3, fun hm => ?_⟩
  rcases List.mem_append.1 hm with q | q
  · have := hn.send.lt G q; omega
  · exact q4 q
theorem nRank {w : World} {bs br : Nat} {F : List Nat} {S : SV} {V : RV} (h : Net w bs br F S V) :
    Calls Tryd.prog 29 #[.pointer (some ⟨br, 0, none⟩)] w fun e w' => e = .returned (.agg #[.int .i64 V.num, .int .i64 V.rnk, .int .i64 V.bks]) ∧ ∃ F', NAft w w' bs br F F' S V := by
  obtain ⟨sl, cap, R, hn, rfl⟩ := h
  refine (rank_any br R V w hn.recv hn.lk).mono ?_
  rintro e w' ⟨rfl, R', ha⟩
  exact ⟨rfl, _, hn.receiver ha hn.rok⟩
theorem nTake_none {w : World} {bs br : Nat} {F : List Nat} {S : SV} {V : RV} (h : Net w bs br F S V) (hr : V.ready = []) :
    Calls Tryd.prog 24 #[.pointer (some ⟨br, 0, none⟩)] w fun e w' => e = .returned (.tuple #[.string .empty, .int .i64 0, .int .i64 5]) ∧ ∃ F', NAft w w' bs br F F' S V := by
  obtain ⟨sl, cap, R, hn, rfl⟩ := h
  refine (take_none br R V w hn.recv hn.lk hr).mono ?_
  rintro e w' ⟨rfl, R', ha⟩
  exact ⟨rfl, _, hn.receiver ha hn.rok⟩
theorem RVOk.less {V : RV} (h : RVOk V) {p : ByteArray × Nat} {l : Parcels} (hr : V.ready = p :: l) : RVOk { V with ready := l } :=
  ⟨h.b1, h.b2, h.num, h.bks, h.set, h.cnt, h.shape, by have := h.ready; rw [hr] at this; simp at this; show l.length ≤ cntD V.dlv; omega, h.zero⟩
theorem nTake_some {w : World} {bs br : Nat} {F : List Nat} {S : SV} {V : RV} {p : ByteArray × Nat} {l : Parcels} (h : Net w bs br F S V) (hr : V.ready = p :: l) :
    Calls Tryd.prog 24 #[.pointer (some ⟨br, 0, none⟩)] w fun e w' => e = .returned (.tuple #[.string p.1, .int .i64 p.2, .int .i64 0]) ∧ ∃ F', NAft w w' bs br F F' S { V with ready := l } := by
  obtain ⟨sl, cap, R, hn, rfl⟩ := h
  refine (take_some br R V p l w hn.recv hn.lk hn.rok hr).mono ?_
  rintro e w' ⟨rfl, R', ha⟩
  exact ⟨rfl, _, hn.receiver ha (hn.rok.less hr)⟩

theorem NAft.trans {w w1 w2 : World} {bs br : Nat} {F F1 F2 : List Nat} {S1 S2 : SV} {V1 V2 : RV} (h : NAft w w1 bs br F F1 S1 V1) (k : NAft w1 w2 bs br F1 F2 S2 V2) : NAft w w2 bs br F F2 S2 V2 :=
  ⟨k.net, h.turn.trans k.turn h.foot, fun g hg => by
    rcases k.foot g hg with q | q
    · exact h.foot g q
    · exact .inr (Nat.le_trans h.turn.size q)⟩

end Go.Proofs.YtfbbidaoljfloaaDoor
