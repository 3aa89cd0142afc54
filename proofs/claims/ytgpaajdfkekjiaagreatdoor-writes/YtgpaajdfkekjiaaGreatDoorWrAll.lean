/-
  Write of package latch and latchref's Write, of any circuit: one answer.
-/
import Derived.Test.YtgpaajdfkekjiaaGreatDoorWrP
import Derived.Test.YtgpaajdfkekjiaaGreatDoorRefWr
namespace Go.Proofs.YtgpaajdfkekjiaaGreatDoor
open Go.RowKit

theorem refWrite_all (n : Int) (la ga oa : Option Addr) (lc gc oc : Nat) (ls gs : List (Int × Int)) (os : List Int) (w : World)
    (hL : PairsAt w la ls) (hG : PairsAt w ga gs) (hO : IntsAt w oa os) (fL : ∀ i, i < ls.length → Fits (ls.getD i (0, 0)).1) (fG : ∀ i, i < gs.length → Fits (gs.getD i (0, 0)).1 ∧ Fits (gs.getD i (0, 0)).2) (fO : ∀ i, i < os.length → Fits (os.getD i 0)) :
    Calls Tryz.prog 23 #[.agg #[.int .i64 n, .slice la ls.length lc, .slice ga gs.length gc, .slice oa os.length oc]] w fun e w' =>
      e = .returned (.tuple #[.string ⟨(wrS n ls gs os).toArray⟩, .int .i64 (wrE n ls gs os)]) ∧ Below w.heap.size w w' := by
  cases hr : rightB n ls gs os
  · have e1 : wrS n ls gs os = [] := by simp [wrS, hr]
    have e2 : wrE n ls gs os = 2 := by simp [wrE, hr]
    rw [e1, e2]
    exact refWrite_wrong n la ga oa lc gc oc ls gs os w hL hG hO fL fG fO hr
  · have e2 : wrE n ls gs os = 0 := by simp [wrE, hr]
    have e1 : wrS n ls gs os = txt n.toNat ls gs os := by simp [wrS, hr]
    rw [e1, e2]
    obtain ⟨N, rfl⟩ := Int.eq_ofNat_of_zero_le (rightB_pos hr).1.1
    exact refWrite_ok N la ga oa lc gc oc ls gs os w hL hG hO fL fG fO hr (small_of hr)

end Go.Proofs.YtgpaajdfkekjiaaGreatDoor
