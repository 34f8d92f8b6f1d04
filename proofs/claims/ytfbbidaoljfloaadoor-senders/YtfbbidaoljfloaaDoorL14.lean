import Derived.Test.YtfbbidaoljfloaaDoorL13
namespace Go.Proofs.YtfbbidaoljfloaaDoor
open Go.RowKit

set_option maxRecDepth 100000 in
set_option maxHeartbeats 2000000 in
theorem step_lose (N : NetM) (a n m nonce mask : Int) (s : ByteArray) (w : World) (h : Inv w N) (hwn : N.wn ≤ 2199023255552) (hn1 : -9223372036854775808 ≤ n) (hn2 : n ≤ 9223372036854775807) :
    Calls Tryd.prog 36 #[.pointer (some ⟨N.bn, 0, none⟩), opV 7 a n m nonce mask s] w fun e w' => e = .returned (.bool true) ∧ ∃ N', Stp w N w' N' := by
  have t0 : Turn [] w (w.alloc (.cells (opCells 7 a n m nonce mask s) 89)) := (Turn.refl _ _).alloc _
  have hI0 := h.turn t0 (by simp) (by simp)
  have HC : Calls Tryd.prog 67 #[.pointer (some ⟨N.bn, 0, none⟩), opV 7 a n m nonce mask s] (w.alloc (.cells (opCells 7 a n m nonce mask s) 89)) fun e w' => e = .returned (.bool true) ∧ ∃ N', Stp (w.alloc (.cells (opCells 7 a n m nonce mask s) 89)) N w' N' := by
    by_cases h0 : N.wn = 0
    · exact frames_none N a n m nonce mask s _ hI0 h0
    · exact frames_some N a n m nonce mask s _ hI0 (by omega) hwn hn1 hn2
  have H := hide HC
  clear HC
  unfold opV
  go_enter Tryd.func36, Tryd.ntmps36
  go_wp2_with fail
  refine (unhide H).mono ?_
  rintro e w1 ⟨rfl, N', st⟩
  go_wp2
  go_ret
  exact ⟨rfl, N', st.pre t0⟩

theorem step_any (N : NetM) (k a n m nonce mask : Int) (s : ByteArray) (w : World) (h : Inv w N) (hbig : N.hm + 4 ≤ 8796093022208) (hwn : N.wn ≤ 2199023255552) (hn1 : -9223372036854775808 ≤ n) (hn2 : n ≤ 9223372036854775807) (hk : k = 3 ∨ k = 4 ∨ k = 5 ∨ k = 7) :
    Calls Tryd.prog 36 #[.pointer (some ⟨N.bn, 0, none⟩), opV k a n m nonce mask s] w fun e w' => e = .returned (.bool true) ∧ ∃ N', Stp w N w' N' := by
  rcases hk with rfl | rfl | rfl | rfl
  · exact step_submit N a n m nonce mask s w h
  · exact step_tick N a n m nonce mask s w h hbig hwn
  · by_cases hb : n < 1 ∨ (N.os.length : Int) < n
    · exact step_status_bad N a n m nonce mask s w h hb
    · obtain ⟨j, hj⟩ : ∃ j : Nat, n = (j : Int) + 1 := ⟨(n - 1).toNat, by omega⟩
      subst hj
      exact step_status_good N a m nonce mask s j w h (by omega)
  · exact step_lose N a n m nonce mask s w h hwn hn1 hn2

end Go.Proofs.YtfbbidaoljfloaaDoor
