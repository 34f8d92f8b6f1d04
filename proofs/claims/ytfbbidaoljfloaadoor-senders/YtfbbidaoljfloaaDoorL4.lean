import Derived.Test.YtfbbidaoljfloaaDoorL3
import Derived.Deep.RegionHeld3
namespace Go.Proofs.YtfbbidaoljfloaaDoor
open Go.RowKit

/-- Two owners are apart. -/
def Ap (a b : Option Nat) : Prop := ∀ k, a = some k → b ≠ some k
theorem Ap.symm {a b : Option Nat} (h : Ap a b) : Ap b a := fun k hb ha => h k ha hb

theorem pairwise_set {l : List (Option Nat)} (h : l.Pairwise Ap) (j : Nat) (x : Option Nat) (hx : ∀ i (_ : i < l.length), i ≠ j → Ap l[i] x) : (l.set j x).Pairwise Ap := by
  rw [List.pairwise_iff_getElem] at h ⊢
  intro a b ha hb hab
  simp only [List.length_set] at ha hb
  rw [List.getElem_set, List.getElem_set]
  split
  · rename_i ea
    rw [if_neg (by omega)]
    exact (hx b hb (by omega)).symm
  · split
    · exact hx a ha (by omega)
    · exact h a b ha hb hab

/-- The state of a network, told plainly. -/
structure NetM where
  bn : Nat
  bs : Nat
  blk : Nat
  bud : Nat
  en : Nat
  os : List Thing
  ps : List Thing
  psl : Option Addr
  pcap : Nat
  rsl : Option Addr
  rcap : Nat
  wsl : Option Addr
  wn : Nat
  wcap : Nat
  wx : List Value
  hsl : Option Addr
  hm : Nat
  hcap : Nat
  hs : List Value

namespace NetM
def pv (N : NetM) : Value := .slice N.psl N.os.length N.pcap
def rv (N : NetM) : Value := .slice N.rsl N.os.length N.rcap
def wv (N : NetM) : Value := .slice N.wsl N.wn N.wcap
def hv (N : NetM) : Value := .slice N.hsl N.hm N.hcap
def own (N : NetM) : List (Option Nat) := [some N.bn, some N.bs, N.pv.ownBlock, N.rv.ownBlock, N.wv.ownBlock, N.hv.ownBlock]
def blocks (N : NetM) : List Nat := N.own.filterMap id
def ros (N : NetM) : List Nat := N.hs.filterMap Value.ownBlock
theorem mem_blocks (N : NetM) (k : Nat) : k ∈ N.blocks ↔ some k ∈ N.own := by simp [blocks]
end NetM

structure Inv (w : World) (N : NetM) : Prop where
  hold : HoldAt w N.bn N.bs N.blk N.bud N.rv N.wv N.hsl N.hm N.hcap N.hs
  way : WayAt w N.bn N.wsl N.wn N.wcap N.wx
  snd : SenderAt w N.bs N.blk N.bud N.pv N.en
  pth : Things w 110 N.psl N.os.length N.pcap N.ps
  rth : Things w 158 N.rsl N.os.length N.rcap N.os
  lists : ∀ i (hi : i < N.hs.length), HeldList w (markOf (i / 4)) N.hs[i]
  ro : ∀ k ∈ N.ros, k ∉ N.blocks
  dist : N.own.Pairwise Ap
  shape : Shape N.blk N.bud N.en N.os N.ps
  blk1 : 1 ≤ N.blk
  blk2 : N.blk ≤ 32
  bud1 : 1 ≤ N.bud
  bud2 : N.bud ≤ 1000
  four : ∃ q, N.hm = 4 * q

theorem Inv.lt {w : World} {N : NetM} (h : Inv w N) (k : Nat) (hk : k ∈ N.blocks) : k < w.heap.size := by
  rw [N.mem_blocks] at hk
  simp only [NetM.own, List.mem_cons, List.not_mem_nil, or_false, Option.some.injEq] at hk
  rcases hk with r | r | r | r | r | r
  · rw [r]; exact lt_of_heap h.hold.net
  · rw [r]; exact lt_of_heap h.snd
  · exact owns_lt h.pth.owns r.symm
  · exact owns_lt h.rth.owns r.symm
  · exact owns_lt h.way.owns r.symm
  · exact owns_lt h.hold.owns r.symm

theorem HeldList.lt {w : World} {m : ByteArray} {v : Value} (h : HeldList w m v) {k : Nat} (hk : v.ownBlock = some k) : k < w.heap.size := by
  obtain ⟨sl, n, cap, rfl, _, ho⟩ := h
  exact owns_lt ho hk

theorem Inv.ro_lt {w : World} {N : NetM} (h : Inv w N) (k : Nat) (hk : k ∈ N.ros) : k < w.heap.size := by
  obtain ⟨v, hv, hk⟩ := List.mem_filterMap.1 hk
  obtain ⟨i, hi, rfl⟩ := List.mem_iff_getElem.1 hv
  exact (h.lists i hi).lt hk

/-- Nothing of a network is turned: it is as it was. -/
theorem Inv.turn {S : List Nat} {w w' : World} {N : NetM} (h : Inv w N) (ht : Turn S w w') (h1 : ∀ k ∈ N.blocks, k ∉ S) (h2 : ∀ k ∈ N.ros, k ∉ S) : Inv w' N := by
  have m : ∀ k, some k ∈ N.own → k ∉ S := fun k hk => h1 k ((N.mem_blocks k).2 hk)
  refine ⟨h.hold.turn ht (m _ (by simp [NetM.own])) (fun k hk => m k (by simp only [NetM.own, NetM.hv]; rw [hk]; simp)), h.way.turn ht (fun k hk => m k (by simp only [NetM.own, NetM.wv]; rw [hk]; simp)), h.snd.turn ht (m _ (by simp [NetM.own])),
    h.pth.turn ht (fun k hk => m k (by simp only [NetM.own, NetM.pv]; rw [hk]; simp)), h.rth.turn ht (fun k hk => m k (by simp only [NetM.own, NetM.rv]; rw [hk]; simp)), ?_, h.ro, h.dist, h.shape, h.blk1, h.blk2, h.bud1, h.bud2, h.four⟩
  intro i hi
  exact (h.lists i hi).turn ht (fun k hk => h2 k (List.mem_filterMap.2 ⟨_, List.getElem_mem hi, hk⟩))

/-- What a step on a network does. -/
structure Stp (w : World) (N : NetM) (w' : World) (N' : NetM) : Prop where
  inv : Inv w' N'
  turn : Turn N.blocks w w'
  bn : N'.bn = N.bn
  blocks : ∀ k ∈ N'.blocks, k ∈ N.blocks ∨ w.heap.size ≤ k
  ros : ∀ k ∈ N'.ros, k ∈ N.ros ∨ w.heap.size ≤ k
  hm : N'.hm ≤ N.hm + 4
  wn : N'.wn ≤ N.wn + 1

theorem Turn.cell {S : List Nat} {w w' : World} (h : Turn S w w') {p : Addr} (hp : p.block < w.heap.size) (hn : p.block ∉ S) : w'.cell? p = w.cell? p := World.cell?_of_block (h.block p.block hp hn)
theorem Turn.frozen {S : List Nat} {w w' : World} (h : Turn S w w') {p : Addr} (hp : p.block < w.heap.size) (hn : p.block ∉ S) : w'.frozen? p = w.frozen? p := World.frozen?_of_block (h.block p.block hp hn)

/-- The program's refusal. -/
theorem submit_no (bs : Nat) (blk bud : Int) (data : ByteArray) (nonce : Int) (sl : Option Addr) (n cap en : Nat) (l : List Thing) (w : World) (hs : SenderAt w bs blk bud (.slice sl n cap) en) (h : Things w 110 sl n cap l) (hne : (Value.slice sl n cap).ownBlock ≠ some bs)
    (h1 : 1 ≤ blk) (h2 : blk ≤ 32) (hn : n ≤ 500) (hen : en ≤ n) (h8 : cntSt (l.drop en) 1 ≤ 8) (hno : 32 * blk < (data.size : Int) ∨ n = 500 ∨ 8 ≤ cntSt (l.drop en) 1) :
    Calls Tryd.prog 17 #[.pointer (some ⟨bs, 0, none⟩), .string data, .int .u64 nonce] w fun e w' => e = .returned (.tuple #[.int .i64 0, .int .i64 (subErr blk data.size n)]) ∧ Turn [bs] w w' ∧ SenderAt w' bs blk bud (.slice sl n cap) en := by
  by_cases ha : 32 * blk < (data.size : Int)
  · rw [show subErr blk data.size n = 2 by unfold subErr; rw [if_pos ha]]
    exact submit_long bs blk bud data nonce _ en w hs h1 h2 ha
  · by_cases hb : n = 500
    · rw [show subErr blk data.size n = 4 by unfold subErr; rw [if_neg ha, if_pos hb]]
      subst hb
      exact submit_end bs blk bud data nonce sl cap en w hs h1 h2 ha
    · rw [show subErr blk data.size n = 3 by unfold subErr; rw [if_neg ha, if_neg hb]]
      exact submit_full bs blk bud data nonce sl n cap en l w hs h hne h1 h2 ha (by omega) hen (by omega)

end Go.Proofs.YtfbbidaoljfloaaDoor
