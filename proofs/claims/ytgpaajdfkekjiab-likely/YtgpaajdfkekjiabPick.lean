/-
  What pick of package latchkeep answers.
-/
import Derived.Test.YtgpaajdfkekjiabLeaf
namespace Go.Proofs.Ytgpaajdfkekjiab
open Go.RowKit

def pickI (c n : Int) : Int := if c < 0 then (-(c + 1)) % n else c % n
theorem pickI_bd (c n : Int) (hn : 1 ≤ n) : 0 ≤ pickI c n ∧ pickI c n ≤ n - 1 := by
  unfold pickI
  have a := Int.emod_nonneg (-(c + 1)) (show n ≠ 0 by omega)
  have b := Int.emod_lt_of_pos (-(c + 1)) (show 0 < n by omega)
  have a' := Int.emod_nonneg c (show n ≠ 0 by omega)
  have b' := Int.emod_lt_of_pos c (show 0 < n by omega)
  split <;> omega
theorem pick_any (c n : Int) (w : World) (hc : -9223372036854775808 ≤ c) (hc2 : c ≤ 9223372036854775807) (hn : 1 ≤ n) (hn2 : n ≤ 1000000) :
    Calls Try.prog 5 #[.int .i64 c, .int .i64 n] w fun e w' => e = .returned (.int .i64 (pickI c n)) ∧ w' = w := by
  by_cases h : c < 0
  · go_enter Try.func5, Try.ntmps5
    go_wp2
    go_ret
    refine ⟨ret_int ?_, rfl⟩
    rw [pickI, if_pos h]
    rw [← Int.neg_tmod, Int.tmod_eq_emod_of_nonneg (by omega)]
  · go_enter Try.func5, Try.ntmps5
    go_wp2
    go_ret
    refine ⟨ret_int ?_, rfl⟩
    rw [pickI, if_neg (by omega)]

end Go.Proofs.Ytgpaajdfkekjiab
