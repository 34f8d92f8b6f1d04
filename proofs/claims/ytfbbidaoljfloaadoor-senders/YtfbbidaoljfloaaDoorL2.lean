import Derived.Test.YtfbbidaoljfloaaDoorL1
namespace Go.Proofs.YtfbbidaoljfloaaDoor
open Go.RowKit

theorem infoStr : (Tryd.prog.info? 9).map (fun i => (i.zero, i.size, i.bytes)) = some (some (.string .empty), 1, 16) := by kernel_rfl
theorem infoStrs : (Tryd.prog.info? 38).map (fun i => (i.zero, i.size, i.bytes)) = some (some (.slice none 0 0), 1, 24) := by kernel_rfl

theorem fill_step (xs : List Value) (m : Value) (k : Nat) (hk : k < xs.length) : (List.replicate k m ++ xs.drop k).set k m = List.replicate (k + 1) m ++ xs.drop (k + 1) := by
  rw [List.set_append_right _ _ (by simp), List.length_replicate, Nat.sub_self, List.drop_eq_getElem_cons hk, List.set_cons_zero, List.replicate_succ', List.append_assoc]
  rfl

set_option maxHeartbeats 1000000 in
theorem keep_any (bn bs : Nat) (blk bud : Int) (rv wv : Value) (hsl : Option Addr) (hm hcap q : Nat) (hs xs : List Value) (ls : Option Addr) (n : Nat) (w : World) (h : HoldAt w bn bs blk bud rv wv hsl hm hcap hs) (hq : hm = 4 * q) (hbig : hm + 4 ≤ 8796093022208)
    (hl : w.ownsRow 0 9 1 (.slice ls n n) n xs) (hn : n ≤ 1) (hlb : (Value.slice ls n n).ownBlock ≠ some bn) (hlh : ∀ k, (Value.slice ls n n).ownBlock = some k → (Value.slice hsl hm hcap).ownBlock ≠ some k) :
    Calls Tryd.prog 89 #[.pointer (some ⟨bn, 0, none⟩), .slice ls n n] w fun e w' => e = .returned (.tuple #[]) ∧ ∃ hsl' hcap' a b c, Turn (bn :: ((Value.slice hsl hm hcap).ownBlock.toList ++ (Value.slice ls n n).ownBlock.toList)) w w' ∧
      HoldAt w' bn bs blk bud rv wv hsl' (hm + 4) hcap' (hs ++ [.slice ls n n, a, b, c]) ∧ HeldList w' (markOf q) (.slice ls n n) ∧ HeldList w' (markOf q) a ∧ HeldList w' (markOf q) b ∧ HeldList w' (markOf q) c ∧
      (∀ k, a.ownBlock = some k ∨ b.ownBlock = some k ∨ c.ownBlock = some k → w.heap.size ≤ k ∧ (Value.slice hsl' (hm + 4) hcap').ownBlock ≠ some k) ∧
      ((Value.slice hsl' (hm + 4) hcap').ownBlock = (Value.slice hsl hm hcap).ownBlock ∨ ∃ k, (Value.slice hsl' (hm + 4) hcap').ownBlock = some k ∧ w.heap.size ≤ k) := by
  obtain ⟨i0, hi, hz0, hz1, hz2⟩ := info_parts infoStr
  obtain ⟨j0, hj, hy0, hy1, hy2⟩ := info_parts infoStrs
  have hc := h.cell
  have hblt : bn < w.heap.size := lt_of_heap h.net
  have hlen := hl.1
  have e4 : ((hm : Int) / 4) = (q : Int) := by omega
  have E4 : Hid (((hm : Int) / 4) = (q : Int)) := e4
  have HQ : Hid (hm = 4 * q) := hq
  clear e4 hq
  go_enter Tryd.func89, Tryd.ntmps89
  go_wp2_with fail
  rw [E4.out]
  refine (mark_any q _ (by have := HQ.out; omega)).mono ?_
  rintro e w1 ⟨rfl, hb1⟩
  have t1 : Turn (Value.slice ls n n).ownBlock.toList w w1 := Turn.below hb1 (Nat.le_refl _)
  have hl1 : w1.ownsRow 0 9 1 (.slice ls n n) n xs := (Turn.below (S := []) hb1 (Nat.le_refl _)).owns hl (by simp)
  go_wp2
  go_loopw [5] (fun i wr => ∃ k : Nat, k ≤ n ∧ i = .int .i64 k ∧ wr.ownsRow 0 9 1 (.slice ls n n) n (List.replicate k (.string (markOf q)) ++ xs.drop k) ∧ Turn (Value.slice ls n n).ownBlock.toList w wr) (fun i _ => n - (intOf i).toNat)
  case atStart => exact ⟨0, Nat.zero_le _, rfl, by simpa using hl1, t1⟩
  case round =>
    obtain ⟨k, hk, rfl, hrow, ht⟩ := hrel
    by_cases hlt : k < n
    · obtain ⟨gl, hgl⟩ : ∃ gl, ls = some ⟨gl, 0, none⟩ := by
        rcases hrow.2 with ⟨_, h0⟩ | ⟨gl, _, _, hv, _⟩
        · omega
        · exact ⟨gl, by injection hv⟩
      subst hgl
      have hlt' : (k : Int) < (n : Int) := by omega
      have hk0 : (0 : Int) ≤ (k : Int) := by omega
      obtain ⟨x, hx⟩ : ∃ x, (List.replicate k (Value.string (markOf q)) ++ xs.drop k)[k]? = some x := ⟨_, List.getElem?_eq_getElem (by simp; omega)⟩
      have hck := owns_cell hrow (g := gl) rfl hx
      have hfk := owns_frozen hrow (g := gl) rfl k
      have hset := owns_setCell hrow (g := gl) rfl k (.string (markOf q))
      have HSET : Hid (World.ownsRow _ 0 9 1 (.slice (some ⟨gl, 0, none⟩) n n) n ((List.replicate k (Value.string (markOf q)) ++ xs.drop k).set k (.string (markOf q)))) := hset
      clear hset hx
      go_wp2
      refine ⟨⟨k + 1, by omega, by go_num, ?_, ht.setCell (.inl (by simp [Value.ownBlock])) _⟩, by simp [intOf]; omega⟩
      have e := fill_step xs (.string (markOf q)) k (by omega)
      rw [← e]
      exact HSET.out
    · have hlt' : ¬ (k : Int) < (n : Int) := by omega
      obtain rfl : k = n := by omega
      rw [List.drop_of_length_le (by omega), List.append_nil] at hrow
      have hwr := ht.size
      go_upto_region 6 with (at_builtin; refine wpList_append_new _ rfl _ _ 38 rfl 9 i0 _ 1 16 Tryd.underlying38 hi hz0 hz1 hz2 rfl (by decide) ls k _ rfl (hrow.alloc _) ⟨wr.heap.size, 0, none⟩ 1 1 [.string (markOf q)] rfl rfl (World.news_of_block (heap_alloc_new wr _)) (by intro u hu; simp at hu; subst hu; rfl) (by decide) (by unfold maxLen; omega) (by omega) (wr.heap.size + 1) (by simp) ?_; intro ca w3 hoa hb3)
      have t3 : Turn [] wr w3 := ((Turn.refl _ _).alloc _).trans (Turn.below (S := []) hb3 (Nat.le_refl _)) (by simp)
      have hrow3 := t3.owns hrow (by simp)
      have a3 := hb3.size
      simp only [World.size_alloc] at a3
      go_upto_region 7 with (at_builtin; refine wpList_append_new _ rfl _ _ 38 rfl 9 i0 _ 1 16 Tryd.underlying38 hi hz0 hz1 hz2 rfl (by decide) ls k _ rfl (hrow3.alloc _) ⟨w3.heap.size, 0, none⟩ 2 2 [.string (markOf q), .string (markOf q)] rfl rfl (World.news_of_block (heap_alloc_new w3 _)) (by intro u hu; simp at hu; subst hu; rfl) (by decide) (by unfold maxLen; omega) (by omega) (w3.heap.size + 1) (by simp) ?_; intro cb w4 hob hb4)
      have t4 : Turn [] w3 w4 := ((Turn.refl _ _).alloc _).trans (Turn.below (S := []) hb4 (Nat.le_refl _)) (by simp)
      have hrow4 := t4.owns hrow3 (by simp)
      have a4 := hb4.size
      simp only [World.size_alloc] at a4
      go_upto_region 8 with (at_builtin; refine wpList_append_new _ rfl _ _ 38 rfl 9 i0 _ 1 16 Tryd.underlying38 hi hz0 hz1 hz2 rfl (by decide) ls k _ rfl (hrow4.alloc _) ⟨w4.heap.size, 0, none⟩ 3 3 [.string (markOf q), .string (markOf q), .string (markOf q)] rfl rfl (World.news_of_block (heap_alloc_new w4 _)) (by intro u hu; simp at hu; subst hu; rfl) (by decide) (by unfold maxLen; omega) (by omega) (w4.heap.size + 1) (by simp) ?_; intro cc w5 hoc hb5)
      have t5 : Turn [] w4 w5 := ((Turn.refl _ _).alloc _).trans (Turn.below (S := []) hb5 (Nat.le_refl _)) (by simp)
      have a5 := hb5.size
      simp only [World.size_alloc] at a5
      have T5 : Turn (Value.slice ls k k).ownBlock.toList w w5 := ((ht.trans t3 (by simp)).trans t4 (by simp)).trans t5 (by simp)
      have H5 : HoldAt w5 bn bs blk bud rv wv hsl hm hcap hs := h.turn T5 (fun q => hlb (by simpa using q)) (fun x hx q => hlh x (by simpa using q) hx)
      have hc6 := H5.cell
      have hf6 := H5.froz 11
      have hl6 : bn < w5.heap.size := lt_of_heap H5.net
      go_upto_region 9 with (at_builtin; refine wpList_append_far _ rfl _ _ 73 rfl 38 j0 _ 1 24 Tryd.underlying73 hj hy0 hy1 hy2 rfl (by decide) (.slice hsl (hm) hcap) (hm) _ rfl (H5.owns.alloc _) ⟨w5.heap.size, 0, none⟩ 1 1 [.slice ls k k] rfl rfl (World.news_of_block (heap_alloc_new w5 _)) (by intro u hu; simp at hu; subst hu; rfl) (by decide) (by unfold maxLen; omega) (by omega) ?_; intro g6 c6 w6 ho6 hg6 hat6 hlt6; have hk6 := (hg6.cell_far ⟨bn, 11, none⟩ (by simp; omega) (Ne.symm H5.apart)).trans (cellNew hc6 _); have hz6 := (hg6.frozen_far ⟨bn, 11, none⟩ (by simp; omega) (Ne.symm H5.apart)).trans (frozenNew hf6 hl6 _))
      obtain ⟨H6, T6, P6⟩ := H5.push ho6 hg6 hat6
      clear hk6 hz6 hc6 hf6 hl6 ho6 hg6 hat6 hlt6
      try simp only [Nat.add_assoc, Nat.reduceAdd, List.append_assoc, List.cons_append, List.nil_append] at H6 T6
      generalize w6.setCell ⟨bn, 11, none⟩ (.slice (some ⟨g6, 0, none⟩) (hm + 1) c6) = v6 at *
      have hc7 := H6.cell
      have hf7 := H6.froz 11
      have hl7 : bn < v6.heap.size := lt_of_heap H6.net
      go_upto_region 10 with (at_builtin; refine wpList_append_far _ rfl _ _ 73 rfl 38 j0 _ 1 24 Tryd.underlying73 hj hy0 hy1 hy2 rfl (by decide) (.slice (some ⟨g6, 0, none⟩) (hm + 1) c6) (hm + 1) _ rfl (H6.owns.alloc _) ⟨v6.heap.size, 0, none⟩ 1 1 [.slice (some ⟨wr.heap.size + 1, 0, none⟩) (k + 1) ca] rfl rfl (World.news_of_block (heap_alloc_new v6 _)) (by intro u hu; simp at hu; subst hu; rfl) (by decide) (by unfold maxLen; omega) (by omega) ?_; intro g7 c7 w7 ho7 hg7 hat7 hlt7; have hk7 := (hg7.cell_far ⟨bn, 11, none⟩ (by simp; omega) (Ne.symm H6.apart)).trans (cellNew hc7 _); have hz7 := (hg7.frozen_far ⟨bn, 11, none⟩ (by simp; omega) (Ne.symm H6.apart)).trans (frozenNew hf7 hl7 _))
      obtain ⟨H7, T7, P7⟩ := H6.push ho7 hg7 hat7
      clear hk7 hz7 hc7 hf7 hl7 ho7 hg7 hat7 hlt7
      try simp only [Nat.add_assoc, Nat.reduceAdd, List.append_assoc, List.cons_append, List.nil_append] at H7 T7
      generalize w7.setCell ⟨bn, 11, none⟩ (.slice (some ⟨g7, 0, none⟩) (hm + 2) c7) = v7 at *
      have hc8 := H7.cell
      have hf8 := H7.froz 11
      have hl8 : bn < v7.heap.size := lt_of_heap H7.net
      go_upto_region 11 with (at_builtin; refine wpList_append_far _ rfl _ _ 73 rfl 38 j0 _ 1 24 Tryd.underlying73 hj hy0 hy1 hy2 rfl (by decide) (.slice (some ⟨g7, 0, none⟩) (hm + 2) c7) (hm + 2) _ rfl (H7.owns.alloc _) ⟨v7.heap.size, 0, none⟩ 1 1 [.slice (some ⟨w3.heap.size + 1, 0, none⟩) (k + 2) cb] rfl rfl (World.news_of_block (heap_alloc_new v7 _)) (by intro u hu; simp at hu; subst hu; rfl) (by decide) (by unfold maxLen; omega) (by omega) ?_; intro g8 c8 w8 ho8 hg8 hat8 hlt8; have hk8 := (hg8.cell_far ⟨bn, 11, none⟩ (by simp; omega) (Ne.symm H7.apart)).trans (cellNew hc8 _); have hz8 := (hg8.frozen_far ⟨bn, 11, none⟩ (by simp; omega) (Ne.symm H7.apart)).trans (frozenNew hf8 hl8 _))
      obtain ⟨H8, T8, P8⟩ := H7.push ho8 hg8 hat8
      clear hk8 hz8 hc8 hf8 hl8 ho8 hg8 hat8 hlt8
      try simp only [Nat.add_assoc, Nat.reduceAdd, List.append_assoc, List.cons_append, List.nil_append] at H8 T8
      generalize w8.setCell ⟨bn, 11, none⟩ (.slice (some ⟨g8, 0, none⟩) (hm + 3) c8) = v8 at *
      have hc9 := H8.cell
      have hf9 := H8.froz 11
      have hl9 : bn < v8.heap.size := lt_of_heap H8.net
      go_wp2_with (at_builtin; refine wpList_append_far _ rfl _ _ 73 rfl 38 j0 _ 1 24 Tryd.underlying73 hj hy0 hy1 hy2 rfl (by decide) (.slice (some ⟨g8, 0, none⟩) (hm + 3) c8) (hm + 3) _ rfl (H8.owns.alloc _) ⟨v8.heap.size, 0, none⟩ 1 1 [.slice (some ⟨w4.heap.size + 1, 0, none⟩) (k + 3) cc] rfl rfl (World.news_of_block (heap_alloc_new v8 _)) (by intro u hu; simp at hu; subst hu; rfl) (by decide) (by unfold maxLen; omega) (by omega) ?_; intro g9 c9 w9 ho9 hg9 hat9 hlt9; have hk9 := (hg9.cell_far ⟨bn, 11, none⟩ (by simp; omega) (Ne.symm H8.apart)).trans (cellNew hc9 _); have hz9 := (hg9.frozen_far ⟨bn, 11, none⟩ (by simp; omega) (Ne.symm H8.apart)).trans (frozenNew hf9 hl9 _))
      obtain ⟨H9, T9, P9⟩ := H8.push ho9 hg9 hat9
      clear hk9 hz9 hc9 hf9 hl9 ho9 hg9 hat9 hlt9
      try simp only [Nat.add_assoc, Nat.reduceAdd, List.append_assoc, List.cons_append, List.nil_append] at H9 T9
      generalize w9.setCell ⟨bn, 11, none⟩ (.slice (some ⟨g9, 0, none⟩) (hm + 4) c9) = v9 at *
      simp only [Value.ownBlock, Option.toList_some, Option.some.injEq] at T7 T8 T9 P7 P8 P9
      have hO : ∀ x, (Value.slice hsl hm hcap).ownBlock = some x → x < w.heap.size := fun x hx => owns_lt h.owns hx
      have z5 := T5.size
      have z6 := T6.size
      have z7 := T7.size
      have z8 := T8.size
      have b3 := owns_lt hoa (g := wr.heap.size + 1) rfl
      have b4 := owns_lt hob (g := w3.heap.size + 1) rfl
      have b5 := owns_lt hoc (g := w4.heap.size + 1) rfl
      have Q7 : (Value.slice hsl hm hcap).ownBlock = some g7 ∨ w5.heap.size < g7 := by
        rcases P7 with rfl | q
        · exact P6
        · right; omega
      have Q8 : (Value.slice hsl hm hcap).ownBlock = some g8 ∨ w5.heap.size < g8 := by
        rcases P8 with rfl | q
        · exact Q7
        · right; omega
      have Q9 : (Value.slice hsl hm hcap).ownBlock = some g9 ∨ w5.heap.size < g9 := by
        rcases P9 with rfl | q
        · exact Q8
        · right; omega
      have hmem : ∀ g, ((Value.slice hsl hm hcap).ownBlock = some g ∨ w5.heap.size < g) → ∀ x ∈ [bn, g], x ∈ bn :: (Value.slice hsl hm hcap).ownBlock.toList ∨ w5.heap.size ≤ x := by
        intro g hg x hx
        simp only [List.mem_cons, List.not_mem_nil, or_false] at hx
        rcases hx with rfl | rfl
        · exact .inl (by simp)
        · rcases hg with q | q
          · exact .inl (by simp [q])
          · right; omega
      have T59 : Turn (bn :: (Value.slice hsl hm hcap).ownBlock.toList) w5 v9 := ((T6.trans T7 (hmem _ P6)).trans T8 (hmem _ Q7)).trans T9 (hmem _ Q8)
      have far : ∀ x, w.heap.size ≤ x → x ∉ bn :: (Value.slice hsl hm hcap).ownBlock.toList := by
        intro x hx hm
        simp only [List.mem_cons, Option.mem_toList] at hm
        rcases hm with q | q
        · omega
        · have := hO x q; omega
      have lists : ∀ (j : Nat), List.replicate k (Value.string (markOf q)) ++ List.replicate j (Value.string (markOf q)) = List.replicate (k + j) (.string (markOf q)) := fun j => List.replicate_append_replicate
      refine bodyPost_end (results_none rfl _ _ _) rfl ⟨rfl, ?_, some ⟨g9, 0, none⟩, c9, _, _, _, H9, ?_, ?_, ?_, ?_, ?_, ?_⟩
      · exact (T5.mono (fun x hx => by simp at hx ⊢; exact .inr (.inr hx))).trans T59 (fun x hx => .inl (by simp at hx ⊢; rcases hx with r | r; exact .inl r; exact .inr (.inl r)))
      · exact ⟨ls, k, k, rfl, by omega, T59.owns (t5.owns hrow4 (by simp)) (fun x hx hm => by
          simp only [List.mem_cons, Option.mem_toList] at hm
          rcases hm with r | r
          · exact hlb (by rw [hx, r])
          · exact hlh x hx r)⟩
      · exact ⟨_, _, _, rfl, by omega, by rw [← lists 1]; exact T59.owns (t5.owns (t4.owns hoa (by simp)) (by simp)) (fun x hx => by simp [Value.ownBlock] at hx; exact far x (by omega))⟩
      · exact ⟨_, _, _, rfl, by omega, by rw [← lists 2]; exact T59.owns (t5.owns hob (by simp)) (fun x hx => by simp [Value.ownBlock] at hx; exact far x (by omega))⟩
      · exact ⟨_, _, _, rfl, by omega, by rw [← lists 3]; exact T59.owns hoc (fun x hx => by simp [Value.ownBlock] at hx; exact far x (by omega))⟩
      · intro x hx
        simp only [Value.ownBlock, Option.some.injEq] at hx ⊢
        refine ⟨by omega, fun e => ?_⟩
        rcases Q9 with r | r
        · have := hO g9 r; omega
        · omega
      · simp only [Value.ownBlock]
        rcases Q9 with r | r
        · left; simpa [Value.ownBlock] using r.symm
        · right; exact ⟨g9, rfl, by omega⟩

end Go.Proofs.YtfbbidaoljfloaaDoor
