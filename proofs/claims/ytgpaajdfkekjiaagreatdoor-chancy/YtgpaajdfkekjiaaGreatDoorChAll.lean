/-
  Chances of package latch in all cases.
-/
import Derived.Test.YtgpaajdfkekjiaaGreatDoorChOuts
import Derived.Test.YtgpaajdfkekjiaaGreatDoorChBad
namespace Go.Proofs.YtgpaajdfkekjiaaGreatDoor
open Go.RowKit

theorem latchChances_all (n steps : Int) (la ga oa : Option Addr) (lc gc oc : Nat) (ls gs : List (Int × Int)) (os : List Int) (w : World) (hL : PairsAt w la ls) (hG : PairsAt w ga gs) (hO : IntsAt w oa os) :
    Calls Tryz.prog 29 #[.agg #[.int .i64 n, .slice la ls.length lc, .slice ga gs.length gc, .slice oa os.length oc], .int .i64 steps] w fun e w' => ∃ a c, e = .returned (.tuple #[.slice a (faL n ls gs os steps).length c, .int .i64 (faE n ls gs os steps)]) ∧ w'.ownsRow w.heap.size 106 1 (.slice a (faL n ls gs os steps).length c) (faL n ls gs os steps).length (fvals (faL n ls gs os steps)) ∧ Below w.heap.size w w' := by
  unfold faL faE
  cases hr : rightB n ls gs os
  · exact (latchCh_wrong n steps la ga oa lc gc oc ls gs os w hr hL hG hO).mono fun e w' h => ⟨none, 0, h.1, World.ownsRow_nil _ _ _ _, h.2⟩
  · by_cases h1 : steps < 1
    · rw [if_pos rfl, if_pos rfl, if_neg (by omega), if_neg (by omega)]
      exact (latchCh_low n steps la ga oa lc gc oc ls gs os w hr h1 hL hG hO).mono fun e w' h => ⟨none, 0, h.1, World.ownsRow_nil _ _ _ _, h.2⟩
    · by_cases h2 : 10 < steps
      · rw [if_pos rfl, if_pos rfl, if_neg (by omega), if_neg (by omega)]
        exact (latchCh_high n steps la ga oa lc gc oc ls gs os w hr h2 hL hG hO).mono fun e w' h => ⟨none, 0, h.1, World.ownsRow_nil _ _ _ _, h.2⟩
      · rw [if_pos rfl, if_pos rfl, if_pos (by omega), if_pos (by omega)]
        obtain ⟨N, rfl⟩ := Int.eq_ofNat_of_zero_le (rightB_pos hr).1.1
        obtain ⟨k, rfl⟩ := Int.eq_ofNat_of_zero_le (show 0 ≤ steps by omega)
        refine (latchCh_ok N k la ga oa lc gc oc ls gs os w hr (by omega) (by omega) hL hG hO).mono fun e w' h => ?_
        obtain ⟨g, he, hown, hb⟩ := h
        simp only [Int.toNat_natCast]
        rw [chL_len]
        exact ⟨_, _, he, hown, hb⟩

end Go.Proofs.YtgpaajdfkekjiaaGreatDoor
