import Derived.Test.YtafipndlfkklfaaDoorJ46
namespace Go.Proofs.YtafipndlfkklfaaDoor
open Go.RowKit Go.MuLone

theorem hide {p : Prop} (h : p) : Hid p := h
theorem unhide {p : Prop} (h : Hid p) : p := h

theorem framesA_any (N : NetA) (k a n m nonce mask : Int) (s : ByteArray) (w : World) (h : InvA w N) (hbig : N.hm + 4 ≤ 8796093022208) (hwn : N.wn ≤ 2199023255552) (hn1 : -9223372036854775808 ≤ n) (hn2 : n ≤ 9223372036854775807) (hq1 : -9223372036854775808 ≤ m) (hq2 : m ≤ 9223372036854775807) (hm0 : 0 ≤ mask) (hm1 : mask ≤ 4294967295) (hk : k = 6 ∨ k = 7 ∨ k = 8 ∨ k = 9) :
    Calls Tryd.prog 67 #[.pointer (some ⟨N.bn, 0, none⟩), opV k a n m nonce mask s] w fun e w' => e = .returned (.bool true) ∧ ∃ N', StpA w N w' N' := by
  by_cases h0 : N.wn = 0
  · exact framesA_none N k a n m nonce mask s w h h0
  · have h1 : 0 < N.wn := by omega
    rcases hk with rfl | rfl | rfl | rfl
    · by_cases hev : mask % 2 = 0
      · exact framesA_cut N a n m nonce mask s w h h1 hwn hn1 hn2 hbig hm0 hm1 hev
      · exact framesA_arrive N a n m nonce mask s w h h1 hwn hn1 hn2 hbig hm0 (by omega)
    · exact framesA_lose N a n m nonce mask s w h h1 hwn hn1 hn2
    · exact framesA_spoil N a n m nonce mask s w h h1 hwn hn1 hn2 hq1 hq2 hm0 hm1
    · exact framesA_cross N a n m nonce mask s w h h1 hwn hn1 hn2

set_option maxRecDepth 100000 in
set_option maxHeartbeats 2000000 in
theorem stepA_frames (N : NetA) (k a n m nonce mask : Int) (s : ByteArray) (w : World) (h : InvA w N) (hbig : N.hm + 4 ≤ 8796093022208) (hwn : N.wn ≤ 2199023255552) (hn1 : -9223372036854775808 ≤ n) (hn2 : n ≤ 9223372036854775807) (hq1 : -9223372036854775808 ≤ m) (hq2 : m ≤ 9223372036854775807) (hm0 : 0 ≤ mask) (hm1 : mask ≤ 4294967295) (hk : k = 6 ∨ k = 7 ∨ k = 8 ∨ k = 9) :
    Calls Tryd.prog 36 #[.pointer (some ⟨N.bn, 0, none⟩), opV k a n m nonce mask s] w fun e w' => e = .returned (.bool true) ∧ ∃ N', StpA w N w' N' := by
  have hX := OpAt.mk' h.m k a n m nonce mask s
  have HI0 : Hid (InvA (w.alloc (.cells (opCells k a n m nonce mask s) 89)) N) := ⟨h.m.turn hX.turn, h.l⟩
  have HT : Hid _ := hX.turn
  have HC := hide (framesA_any N k a n m nonce mask s _ HI0.out hbig hwn hn1 hn2 hq1 hq2 hm0 hm1 hk)
  have e3 : (k == 3) = false := by simp; omega
  have e4 : (k == 4) = false := by simp; omega
  have e5 : (k == 5) = false := by simp; omega
  have e10 : (k == 10) = false := by simp; omega
  have e11 : (k == 11) = false := by simp; omega
  have e12 : (k == 12) = false := by simp; omega
  clear hX h HI0 hk
  unfold opV
  go_enter Tryd.func36, Tryd.ntmps36
  go_wp2_with fail
  refine (unhide HC).mono ?_
  rintro e w1 ⟨rfl, N', st⟩
  have HS : Hid _ := st
  clear st
  go_wp2_with fail
  go_ret
  exact ⟨rfl, N', HS.out.pre HT.out⟩

theorem stepA_any (N : NetA) (k a n m nonce mask : Int) (s : ByteArray) (w : World) (h : InvA w N) (hbig : N.hm + 4 ≤ 8796093022208) (hwn : N.wn ≤ 2199023255552) (hn1 : -9223372036854775808 ≤ n) (hn2 : n ≤ 9223372036854775807) (hq1 : -9223372036854775808 ≤ m) (hq2 : m ≤ 9223372036854775807) (hm0 : 0 ≤ mask) (hm1 : mask ≤ 4294967295) (hk1 : 3 ≤ k) (hk2 : k ≤ 12) :
    Calls Tryd.prog 36 #[.pointer (some ⟨N.bn, 0, none⟩), opV k a n m nonce mask s] w fun e w' => e = .returned (.bool true) ∧ ∃ N', StpA w N w' N' := by
  have hk : k = 3 ∨ k = 4 ∨ k = 5 ∨ (k = 6 ∨ k = 7 ∨ k = 8 ∨ k = 9) ∨ k = 10 ∨ k = 11 ∨ k = 12 := by omega
  rcases hk with rfl | rfl | rfl | hf | rfl | rfl | rfl
  · exact stepA_submit N a n m nonce mask s w h
  · exact stepA_tick N a n m nonce mask s w h hbig hwn
  · exact stepA_status N a n m nonce mask s w h
  · exact stepA_frames N k a n m nonce mask s w h hbig hwn hn1 hn2 hq1 hq2 hm0 hm1 hf
  · exact stepA_bytes N a n m nonce mask s w h
  · exact stepA_take N a n m nonce mask s w h
  · exact stepA_rank N a n m nonce mask s w h hbig
end Go.Proofs.YtafipndlfkklfaaDoor
