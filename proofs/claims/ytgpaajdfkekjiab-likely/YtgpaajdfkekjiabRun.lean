/-
  What Run of package latch answers of any circuit and any inputs whose lists can be read: the error, or the outputs step by step in new memory.
-/
import Derived.Test.YtgpaajdfkekjiabStep
namespace Go.Proofs.Ytgpaajdfkekjiab
open Go.RowKit

theorem rightInputs_is {n : Nat} {v1 v2 v3 : Value} {ia : Option Addr} {ic : Nat} {ins : List Int} {b : Bool} (w : World) (h1 : n ≤ 4) (hm : ins.length ≤ maxLen) (hI : IntsAt w ia ins) (h : inputsB n ins = b) :
    Calls Try.prog 13 #[.agg #[.int .i64 n, v1, v2, v3], .slice ia ins.length ic] w fun e w' =>
      e = .returned (.bool b) ∧ Below w.heap.size w w' := by subst h; exact rightInputs_any n v1 v2 v3 ia ic ins w h1 hm hI

set_option maxHeartbeats 1000000 in
set_option maxRecDepth 100000 in
/-- A circuit that is not right. -/
theorem run_wrong (n : Int) (la ga oa : Option Addr) (lc gc oc : Nat) (ls gs : List (Int × Int)) (os : List Int) (iv : Value) (w : World)
    (hL : PairsAt w la ls) (hG : PairsAt w ga gs) (hO : IntsAt w oa os) (hr : rightB n ls gs os = false) :
    Calls Try.prog 8 #[.agg #[.int .i64 n, .slice la ls.length lc, .slice ga gs.length gc, .slice oa os.length oc], iv] w fun e w' =>
      e = .returned (.tuple #[.slice none 0 0, .int .i64 2]) ∧ Below w.heap.size w w' := by
  have bel0 : Below w.heap.size w (w.alloc (.cells #[.int .i64 n, .slice la ls.length lc, .slice ga gs.length gc, .slice oa os.length oc] 26)) := (Below.refl _ _).alloc (Nat.le_refl _) _
  have hL0 := hL.below bel0
  have hG0 := hG.below bel0
  have hO0 := hO.below bel0
  go_enter Try.func8, Try.ntmps8
  go_wp2_with (go_at_call 11; refine (right_is _ hL0 hG0 hO0 hr).mono ?_; rintro e w1 ⟨rfl, b1⟩)
  go_ret2
  exact ⟨rfl, bel0.trans (b1.mono (by simp))⟩

set_option maxHeartbeats 1000000 in
set_option maxRecDepth 100000 in
/-- Inputs that are not right. -/
theorem run_inputs (n : Nat) (la ga oa ia : Option Addr) (lc gc oc ic : Nat) (ls gs : List (Int × Int)) (os ins : List Int) (w : World) (hm : ins.length ≤ maxLen)
    (hL : PairsAt w la ls) (hG : PairsAt w ga gs) (hO : IntsAt w oa os) (hI : IntsAt w ia ins) (hr : rightB n ls gs os = true) (hi : inputsB n ins = false) :
    Calls Try.prog 8 #[.agg #[.int .i64 n, .slice la ls.length lc, .slice ga gs.length gc, .slice oa os.length oc], .slice ia ins.length ic] w fun e w' =>
      e = .returned (.tuple #[.slice none 0 0, .int .i64 3]) ∧ Below w.heap.size w w' := by
  have bel0 : Below w.heap.size w (w.alloc (.cells #[.int .i64 n, .slice la ls.length lc, .slice ga gs.length gc, .slice oa os.length oc] 26)) := (Below.refl _ _).alloc (Nat.le_refl _) _
  have hL0 := hL.below bel0
  have hG0 := hG.below bel0
  have hO0 := hO.below bel0
  have hI0 := hI.below bel0
  have hn4 : n ≤ 4 := by have := (rightB_pos hr).1.2.1; omega
  go_enter Try.func8, Try.ntmps8
  go_wp2_with (first | (go_at_call 11; refine (right_is _ hL0 hG0 hO0 hr).mono ?_; rintro e w1 ⟨rfl, b1⟩; have c1 := (bcell b1).1; have y1 : w.heap.size < w1.heap.size := Nat.lt_of_lt_of_le (by simp) b1.size) | (go_at_call 13; refine (rightInputs_is _ hn4 hm (hI0.below b1) hi).mono ?_; rintro e w2 ⟨rfl, b2⟩))
  go_ret2
  exact ⟨rfl, (bel0.trans (b1.mono (by simp))).trans (b2.mono (by omega))⟩

end Go.Proofs.Ytgpaajdfkekjiab
