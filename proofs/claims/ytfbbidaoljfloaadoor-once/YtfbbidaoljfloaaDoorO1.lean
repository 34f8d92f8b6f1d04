import Derived.Test.YtfbbidaoljfloaaDoorK4
namespace Go.Proofs.YtfbbidaoljfloaaDoor
open Go.RowKit Go.MuLone

/-- A frame of an object that the receiver has left behind. -/
theorem frame_gone {V : RV} {num row : Nat} {data : ByteArray} (hv : RVOk V) (hdl : V.dlv num = false) (hlt : num < V.num) (h1 : 1 ≤ num) (h5 : num ≤ 500) (hd : data.size ≤ 32 * V.blk) (hr0 : row ≠ 0) (hr : row < 2 ^ blocksOf data.size V.blk) :
    V.handle (fText num V.blk row data) = (V, none) := by
  have hb1 := hv.b1
  have hb2 := hv.b2
  have hK := blocksOf_le data.size V.blk hb1 hd
  have hr32 := Rx.lt32 hK hr
  have hrd : readS (fText num V.blk row data) V.blk = some (num, data.size, row, sumRow data V.blk row) := by
    have := readS_text (x1 := num) (x2 := data.size) (x3 := row) (ns := sumRow data V.blk row) (by omega) (by omega) hr32
    rw [sumRow_len] at this
    exact this
  have hc : canB num data.size row V.blk = true := canB_iff.2 ⟨h1, h5, hK, hr0, hr⟩
  have hf : V.first num data.size = V := by unfold RV.first; rw [if_neg (by omega)]
  have hgo : V.gone num data.size row (sumRow data V.blk row) = V := by
    unfold RV.gone RV.gather
    rw [if_neg (by rw [hdl]; exact Bool.false_ne_true), hf, if_pos (.inl hlt)]
  unfold RV.handle
  rw [hrd]
  simp only
  rw [if_pos hc, hgo, if_neg (by rw [hdl]; exact Bool.false_ne_true)]

theorem doneB_inj {a b blk : Nat} (ha : a < 65536) (hb : b < 65536) (h : doneB a blk = doneB b blk) : a = b := by
  have h2 : doneBody a blk = doneBody b blk := by
    have := congrArg (List.take 4) h
    unfold doneB at this
    have l1 : (doneBody a blk).length = 4 := by simp [doneBody, leBytes_len]
    have l2 : (doneBody b blk).length = 4 := by simp [doneBody, leBytes_len]
    rw [List.take_append_of_le_length (by omega), List.take_append_of_le_length (by omega), List.take_of_length_le (by omega), List.take_of_length_le (by omega)] at this
    exact this
  unfold doneBody at h2
  simp [leBytes] at h2
  omega

theorem get_snoc {α : Type} {l : List α} {x o : α} {n : Nat} (h : (l ++ [x])[n]? = some o) : l[n]? = some o ∨ (n = l.length ∧ o = x) := by
  rcases Nat.lt_or_ge n l.length with q | q
  · rw [List.getElem?_append_left q] at h; exact .inl h
  · have hk := (List.getElem?_eq_some_iff.1 h).1
    simp at hk
    obtain rfl : n = l.length := by omega
    exact .inr ⟨rfl, by simpa using h.symm⟩
theorem get_snoc_old {α : Type} {l : List α} {x o : α} {n : Nat} (h : l[n]? = some o) : (l ++ [x])[n]? = some o := by
  rw [List.getElem?_append_left (List.getElem?_eq_some_iff.1 h).1]; exact h
theorem get_set {α : Type} {l : List α} {x o : α} {i n : Nat} (h : (l.set i x)[n]? = some o) : (n = i ∧ o = x) ∨ (n ≠ i ∧ l[n]? = some o) := by
  by_cases e : n = i
  · subst e
    have hk := (List.getElem?_eq_some_iff.1 h).1
    simp at hk
    rw [List.getElem?_set_self hk] at h
    exact .inl ⟨rfl, by simpa using h.symm⟩
  · rw [List.getElem?_set_ne (Ne.symm e)] at h
    exact .inr ⟨e, h⟩

structure OnB (blk bud : Nat) (ds : List ByteArray) (S : SV) (V : RV) (down up : List ByteArray) : Prop where
  sblk : S.blk = blk
  sbud : S.bud = bud
  vblk : V.blk = blk
  len : S.l.length = ds.length
  dsz : ∀ (n : Nat) (d : ByteArray), ds[n]? = some d → d.size ≤ 32 * blk
  dat : ∀ (n : Nat) (o : Thing), S.en ≤ n → S.l[n]? = some o → ds[n]? = some o.data
  fin : ∀ (n : Nat) (o : Thing), n < S.en → S.l[n]? = some o → (o.st = 3 ∧ o.sent ≤ (bud : Int) ∧ V.dlv (n + 1) = true) ∨ (o.st = 4 ∧ o.sent = (bud : Int))
  cur : ∀ (n : Nat) (o : Thing), S.en ≤ n → S.l[n]? = some o → (o.st = 1 ∧ o.sent = 0) ∨ (n = S.en ∧ o.st = 2)
  cnt : cntSt (S.l.drop S.en) 1 ≤ 8
  dn : ∀ t ∈ down, ∃ (n row : Nat) (d : ByteArray), ds[n]? = some d ∧ row ≠ 0 ∧ row < 2 ^ blocksOf d.size blk ∧ bytesOf t = fText (n + 1) blk row d
  up : ∀ t ∈ up, ∃ n : Nat, n < 500 ∧ V.dlv (n + 1) = true ∧ bytesOf t = doneB (n + 1) blk
  vnum : V.num ≤ ds.length
  trk : ∀ (n : Nat) (d : ByteArray), V.num = n + 1 → ds[n]? = some d → V.dlv (n + 1) = false → Track V (n + 1) d
  dle : ∀ n : Nat, V.dlv n = true → n ≤ V.num

theorem OnB.start (blk bud : Nat) : OnB blk bud [] (SV.fresh blk bud) (RV.fresh blk) [] [] :=
  ⟨rfl, rfl, rfl, rfl, by simp, by simp [SV.fresh], by simp [SV.fresh], by simp [SV.fresh], by simp [SV.fresh, cntSt], by simp, by simp, by simp [RV.fresh], by simp, by simp [RV.fresh]⟩

theorem OnB.submit {blk bud : Nat} {ds : List ByteArray} {S : SV} {V : RV} {down up : List ByteArray} (h : OnB blk bud ds S V down up) (d : ByteArray) (nonce : Int) (hd : d.size ≤ 32 * blk) (hc : cntSt (S.l.drop S.en) 1 < 8) (hle : S.en ≤ S.l.length) :
    OnB blk bud (ds ++ [d]) { S with l := S.l ++ [⟨d, nonce, 1, 0⟩] } V down up := by
  refine ⟨h.sblk, h.sbud, h.vblk, by simp [h.len], fun n x hx => ?_, fun n o hn ho => ?_, fun n o hn ho => ?_, fun n o hn ho => ?_, ?_, fun t ht => ?_, h.up, by have := h.vnum; simp; omega, fun n x hn hx => ?_, h.dle⟩
  · rcases get_snoc hx with q | ⟨_, rfl⟩
    · exact h.dsz n x q
    · exact hd
  · rcases get_snoc ho with q | ⟨rfl, rfl⟩
    · exact get_snoc_old (h.dat n o hn q)
    · rw [h.len]; simp
  · rcases get_snoc ho with q | ⟨rfl, rfl⟩
    · exact h.fin n o hn q
    · have hn' : S.l.length < S.en := hn
      omega
  · rcases get_snoc ho with q | ⟨rfl, rfl⟩
    · exact h.cur n o hn q
    · exact .inl ⟨rfl, rfl⟩
  · show cntSt ((S.l ++ [_]).drop S.en) 1 ≤ 8
    rw [List.drop_append_of_le_length hle]
    unfold cntSt at hc ⊢
    rw [List.countP_append]
    simp
    omega
  · obtain ⟨n, row, x, q1, q2⟩ := h.dn t ht
    exact ⟨n, row, x, get_snoc_old q1, q2⟩
  · have hv := h.vnum
    rcases get_snoc hx with q | ⟨rfl, rfl⟩
    · exact h.trk n x hn q
    · omega

theorem cnt_tail {l : List Thing} {i : Nat} : cntSt (l.drop (i + 1)) 1 ≤ cntSt (l.drop i) 1 := by
  unfold cntSt
  rw [show l.drop (i + 1) = (l.drop i).drop 1 by rw [List.drop_drop]]
  exact (List.drop_sublist 1 _).countP_le

theorem OnB.ended {blk bud : Nat} {ds : List ByteArray} {S : SV} {V : RV} {down up : List ByteArray} (h : OnB blk bud ds S V down up) {o : Thing} {st : Int} (hst : (st = 3 ∧ o.sent ≤ (bud : Int) ∧ V.dlv (S.en + 1) = true) ∨ (st = 4 ∧ o.sent = (bud : Int))) :
    OnB blk bud ds (S.done st o) V down up := by
  refine ⟨h.sblk, h.sbud, h.vblk, by show (S.l.set S.en _).length = _; rw [List.length_set]; exact h.len, h.dsz, fun n p hn hp => ?_, fun n p hn hp => ?_, fun n p hn hp => ?_, ?_, h.dn, h.up, h.vnum, h.trk, h.dle⟩
  · have hn : S.en + 1 ≤ n := hn
    rcases get_set hp with ⟨rfl, _⟩ | ⟨_, q⟩
    · omega
    · exact h.dat n p (by omega) q
  · have hn : n < S.en + 1 := hn
    rcases get_set hp with ⟨rfl, rfl⟩ | ⟨q1, q⟩
    · exact hst
    · exact h.fin n p (by omega) q
  · have hn : S.en + 1 ≤ n := hn
    rcases get_set hp with ⟨rfl, _⟩ | ⟨q1, q⟩
    · omega
    · rcases h.cur n p (by omega) q with q | ⟨q, _⟩
      · exact .inl q
      · omega
  · show cntSt ((S.l.set S.en _).drop (S.en + 1)) 1 ≤ 8
    rw [List.drop_set_of_lt (by omega)]
    exact Nat.le_trans cnt_tail h.cnt

theorem OnB.sent {blk bud : Nat} {ds : List ByteArray} {S : SV} {V : RV} {down up : List ByteArray} (h : OnB blk bud ds S V down up) {o : Thing} (ho : S.l[S.en]? = some o) :
    OnB blk bud ds (S.sentOne o) V (down ++ [frameOf (S.en + 1) S.blk o]) up := by
  have hlt := (List.getElem?_eq_some_iff.1 ho).1
  have hdo := h.dat S.en o (Nat.le_refl _) ho
  refine ⟨h.sblk, h.sbud, h.vblk, by show (S.l.set S.en _).length = _; rw [List.length_set]; exact h.len, h.dsz, fun n p hn hp => ?_, fun n p hn hp => ?_, fun n p hn hp => ?_, ?_, fun t ht => ?_, h.up, h.vnum, h.trk, h.dle⟩
  · rcases get_set hp with ⟨rfl, rfl⟩ | ⟨_, q⟩
    · exact hdo
    · exact h.dat n p hn q
  · rcases get_set hp with ⟨rfl, _⟩ | ⟨q1, q⟩
    · have hn : S.en < S.en := hn
      omega
    · exact h.fin n p hn q
  · rcases get_set hp with ⟨rfl, rfl⟩ | ⟨q1, q⟩
    · exact .inr ⟨rfl, rfl⟩
    · exact h.cur n p hn q
  · show cntSt ((S.l.set S.en _).drop S.en) 1 ≤ 8
    rw [List.drop_eq_getElem_cons (by rw [List.length_set]; exact hlt), List.drop_set_of_lt (by omega)]
    have := cnt_tail (l := S.l) (i := S.en)
    have := h.cnt
    unfold cntSt at *
    rw [List.countP_cons]
    simp
    omega
  · rcases List.mem_append.1 ht with q | q
    · exact h.dn t q
    · obtain rfl := List.mem_singleton.1 q
      refine ⟨S.en, _, o.data, hdo, ?_, ?_, by rw [fText_frame, h.sblk]⟩
      · exact rowOf_ne _ _ _ (blocksOf_pos _ _)
      · exact Dz.rowOf_lt _ _ _ (blocksOf_pos _ _)

theorem OnB.back {blk bud : Nat} {ds : List ByteArray} {S : SV} {V : RV} {down up : List ByteArray} (h : OnB blk bud ds S V down up) (hs : SVOk S) {u : ByteArray} (hu : u ∈ up) : OnB blk bud ds (S.handle (bytesOf u)) V down up := by
  unfold SV.handle
  cases ho : S.l[S.en]? with
  | none => exact h
  | some o =>
    simp only
    have hlt := (List.getElem?_eq_some_iff.1 ho).1
    split
    · rename_i hc
      obtain ⟨n, q1, q2, q3⟩ := h.up u hu
      have h5 := hs.n5
      have e : n = S.en := by
        have := doneB_inj (a := n + 1) (b := S.en + 1) (blk := blk) (by omega) (by omega) (by rw [← q3, hc.2, h.sblk])
        omega
      subst e
      have hb := (hs.cur S.en o (Nat.le_refl _) ho).2.1
      rw [h.sbud] at hb
      exact h.ended (o := o) (.inl ⟨rfl, hb, q2⟩)
    · exact h

theorem OnB.recv {blk bud : Nat} {ds : List ByteArray} {S : SV} {V V2 : RV} {down up : List ByteArray} (h : OnB blk bud ds S V down up) (hb : V2.blk = V.blk) (hm : ∀ n, V.dlv n = true → V2.dlv n = true) (hv : V2.num ≤ ds.length)
    (ht : ∀ (n : Nat) (d : ByteArray), V2.num = n + 1 → ds[n]? = some d → V2.dlv (n + 1) = false → Track V2 (n + 1) d) (hd : ∀ n, V2.dlv n = true → n ≤ V2.num) : OnB blk bud ds S V2 down up :=
  ⟨h.sblk, h.sbud, hb.trans h.vblk, h.len, h.dsz, h.dat, fun n o hn ho => by
    rcases h.fin n o hn ho with ⟨q1, q2, q3⟩ | q
    · exact .inl ⟨q1, q2, hm _ q3⟩
    · exact .inr q, h.cur, h.cnt, h.dn, fun t ht => by
    obtain ⟨n, q1, q2, q3⟩ := h.up t ht
    exact ⟨n, q1, hm _ q2, q3⟩, hv, ht, hd⟩

structure OnR (V : RV) (got : Nat → Bool) (last : Nat) : Prop where
  ready : V.ready = []
  le : last ≤ V.num
  eq : last = V.num → 1 ≤ V.num → V.dlv V.num = true
  got : ∀ n, V.dlv n = true → got n = true
theorem OnR.start (blk : Nat) : OnR (RV.fresh blk) (fun _ => false) 0 := ⟨rfl, Nat.zero_le _, by simp [RV.fresh], by simp [RV.fresh]⟩

structure OnN (V : RV) (ds : List ByteArray) (got : Nat → Bool) (last n : Nat) (d : ByteArray) : Prop where
  ready : V.ready = [(d, n + 1)]
  ds : ds[n]? = some d
  lt : last < n + 1
  num : V.num = n + 1
  dlv : V.dlv (n + 1) = true
  got : ∀ m, V.dlv m = true → m ≠ n + 1 → got m = true
def OnT (V : RV) (ds : List ByteArray) (got : Nat → Bool) (last : Nat) : Prop := OnR V got last ∨ ∃ n d, OnN V ds got last n d

/-- A frame arrives. -/
theorem OnB.handle {blk bud : Nat} {ds : List ByteArray} {S : SV} {V : RV} {down up : List ByteArray} {got : Nat → Bool} {last : Nat} (h : OnB blk bud ds S V down up) (hv : RVOk V) (h5 : ds.length ≤ 500) (hr : OnR V got last) {t : ByteArray} (ht : t ∈ down) :
    ∃ V2, OnT V2 ds got last ∧ ((V.handle (bytesOf t) = (V2, none) ∧ OnB blk bud ds S V2 down up) ∨ ∃ d, V.handle (bytesOf t) = (V2, some d) ∧ OnB blk bud ds S V2 down (up ++ [strOf d])) := by
  obtain ⟨n, row, d, q1, q2, q3, q4⟩ := h.dn t ht
  have hn := (List.getElem?_eq_some_iff.1 q1).1
  have hd := h.dsz n d q1
  have more : ∀ V2, OnB blk bud ds S V2 down up → V2.dlv (n + 1) = true → OnB blk bud ds S V2 down (up ++ [strOf (doneB (n + 1) V.blk)]) := fun V2 h2 hdl =>
    ⟨h2.sblk, h2.sbud, h2.vblk, h2.len, h2.dsz, h2.dat, h2.fin, h2.cur, h2.cnt, h2.dn, fun u hu => by
      rcases List.mem_append.1 hu with q | q
      · exact h2.up u q
      · obtain rfl := List.mem_singleton.1 q
        exact ⟨n, by omega, hdl, by rw [bytesOf_strOf _ (doneB_lt _ _), h.vblk]⟩, h2.vnum, h2.trk, h2.dle⟩
  rw [q4]
  rw [← h.vblk] at hd q3 ⊢
  by_cases hdl : V.dlv (n + 1) = true
  · rw [h.vblk] at more
    rw [frame_late hv hdl (by omega) (by omega) hd q2 q3]
    refine ⟨V, .inl hr, .inr ⟨_, rfl, ?_⟩⟩
    rw [h.vblk]
    exact more V h hdl
  · have hdf : V.dlv (n + 1) = false := by simpa using hdl
    by_cases hlt : n + 1 < V.num
    · rw [frame_gone hv hdf hlt (by omega) (by omega) hd q2 q3]
      refine ⟨V, .inl hr, .inl ⟨rfl, ?_⟩⟩
      rw [h.vblk]
      exact h
    · have htr : Track V (n + 1) d := by
        by_cases he : V.num = n + 1
        · exact h.trk n d he q1 hdf
        · exact ⟨hdf, .inl (by omega)⟩
      have hll : last < n + 1 := by
        have := hr.le
        rcases Nat.lt_or_ge last (n + 1) with q | q
        · exact q
        · exfalso
          have e1 : last = V.num := by omega
          have e2 := hr.eq e1 (by omega)
          rw [show V.num = n + 1 by omega] at e2
          exact hdl e2
      obtain ⟨V2, hs, hh⟩ := frame_step hv htr (by omega) (by omega) hd q2 q3
      have hV2 : OnB V.blk bud ds S V2 down up := by
        have h0 := h
        rw [← h.vblk] at h0
        refine h0.recv hs.blk (fun m hm => by rw [hs.dlv]; exact hm) (by rw [hs.snum]; omega) (fun m x hm hx _ => ?_) (fun m hm => ?_)
        · rw [hs.snum] at hm
          obtain rfl : n = m := by omega
          rw [q1] at hx
          obtain rfl : d = x := by simpa using hx
          exact hs.track htr
        · rw [hs.dlv] at hm
          have := h.dle m hm
          rw [hs.snum]
          omega
      by_cases hf : V2.srk = V2.bks
      · rw [hh, if_pos hf]
        have hdd : V2.deliver.dlv = fun i => if i = V2.num then true else V2.dlv i := rfl
        have hdn : V2.deliver.dlv (n + 1) = true := by rw [hdd]; simp [hs.snum]
        have hB2 : OnB V.blk bud ds S V2.deliver down up := by
          refine hV2.recv rfl (fun m hm => by rw [hdd]; simp [hm]) hV2.vnum (fun m x hm hx hx2 => ?_) (fun m hm => ?_)
          · exfalso
            have hm : V2.num = m + 1 := hm
            rw [hs.snum] at hm
            obtain rfl : n = m := by omega
            rw [hdn] at hx2
            cases hx2
          · rw [hdd] at hm
            show m ≤ V2.num
            by_cases e : m = V2.num
            · omega
            · simp [e] at hm
              exact hV2.dle m hm
        refine ⟨V2.deliver, .inr ⟨n, d, ⟨?_, q1, hll, hs.snum, hdn, fun m hm hne => ?_⟩⟩, .inr ⟨_, rfl, ?_⟩⟩
        · rw [hs.data hf, hr.ready]; rfl
        · rw [hdd] at hm
          have e : m ≠ V2.num := by rw [hs.snum]; exact hne
          simp [e] at hm
          rw [hs.dlv] at hm
          exact hr.got m hm
        · have := more V2.deliver (by rw [← h.vblk]; exact hB2) hdn
          rw [← h.vblk] at this
          exact this
      · rw [hh, if_neg hf]
        refine ⟨V2, .inl ⟨by rw [hs.ready]; exact hr.ready, by rw [hs.snum]; omega, fun e _ => by rw [hs.snum] at e; omega, fun m hm => by rw [hs.dlv] at hm; exact hr.got m hm⟩, .inl ⟨rfl, hV2⟩⟩

theorem OnB.taken {blk bud : Nat} {ds : List ByteArray} {S : SV} {V : RV} {down up : List ByteArray} {got : Nat → Bool} {last n : Nat} {d : ByteArray} (h : OnB blk bud ds S V down up) (hn : OnN V ds got last n d) :
    OnB blk bud ds S { V with ready := [] } down up ∧ OnR { V with ready := [] } (fun m => if m = n + 1 then true else got m) (n + 1) := by
  refine ⟨h.recv rfl (fun _ hm => hm) h.vnum (fun m x hm hx hx2 => ?_) h.dle, ⟨rfl, by show n + 1 ≤ V.num; rw [hn.num]; omega, fun _ _ => by show V.dlv V.num = true; rw [hn.num]; exact hn.dlv, fun m hm => ?_⟩⟩
  · have := h.trk m x hm hx hx2
    exact ⟨this.und, this.at_⟩
  · by_cases e : m = n + 1
    · simp [e]
    · simp [e]
      exact hn.got m hm e

theorem OnB.status {blk bud : Nat} {ds : List ByteArray} {S : SV} {V : RV} {down up : List ByteArray} {got : Nat → Bool} {last : Nat} (h : OnB blk bud ds S V down up) (hs : SVOk S) (hr : OnR V got last) {n : Nat} (hn : n < ds.length) :
    ∃ o, S.l[n]? = some o ∧ o.sent ≤ (bud : Int) ∧ ((o.st = 3 ∧ got (n + 1) = true) ∨ (o.st = 4 ∧ o.sent = (bud : Int)) ∨ (o.st = 1 ∧ o.sent = 0) ∨ o.st = 2) := by
  obtain ⟨o, ho⟩ : ∃ o, S.l[n]? = some o := ⟨_, List.getElem?_eq_getElem (by rw [h.len]; exact hn)⟩
  rcases Nat.lt_or_ge n S.en with q | q
  · rcases h.fin n o q ho with ⟨q1, q2, q3⟩ | ⟨q1, q2⟩
    · exact ⟨o, ho, q2, .inl ⟨q1, hr.got _ q3⟩⟩
    · exact ⟨o, ho, by omega, .inr (.inl ⟨q1, q2⟩)⟩
  · have hb := (hs.cur n o q ho).2.1
    rw [h.sbud] at hb
    rcases h.cur n o q ho with q1 | ⟨_, q1⟩
    · exact ⟨o, ho, hb, .inr (.inr (.inl q1))⟩
    · exact ⟨o, ho, hb, .inr (.inr (.inr q1))⟩

end Go.Proofs.YtfbbidaoljfloaaDoor
