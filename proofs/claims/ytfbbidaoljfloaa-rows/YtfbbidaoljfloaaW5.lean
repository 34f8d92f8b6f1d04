import Derived.Test.YtfbbidaoljfloaaW4
namespace Go.Proofs.Ytfbbidaoljfloaa
open Go.RowKit Go.Deep

theorem rowOf_8_4 (nonce : Int) : Dz.rowOf nonce 8 4 = 2 := rfl

set_option maxHeartbeats 400000 in
theorem law_any (nonce blocks id : Int) (w : World) :
    Calls Try.prog 3 #[.int .u64 nonce, .int .i64 blocks, .int .i64 id] w fun e w' => e = .returned (.bool true) ∧ Below w.heap.size w w' := by
  go_enter Try.func3, Try.ntmps3
  go_wp2_with fail
  refine (row_any nonce 4 8 _ (by decide) (by decide) (by decide) (by decide)).mono ?_
  rintro e w1 ⟨rfl, hb1⟩
  rw [rowOf_8_4]
  go_wp2_with fail
  refine (rows_any nonce blocks id _).mono ?_
  rintro e w2 ⟨rfl, hb2⟩
  go_wp2
  go_ret
  exact ⟨rfl, hb1.trans (hb2.mono hb1.size)⟩

end Go.Proofs.Ytfbbidaoljfloaa
