/-
  Write of package latch, of any circuit.
-/
import Derived.Test.YtgpaajdfkekjiaaDoorWr
namespace Go.Proofs.YtgpaajdfkekjiaaDoor
open Go.RowKit

def wrS (n : Int) (ls gs : List (Int × Int)) (os : List Int) : List UInt8 := if rightB n ls gs os then txt n.toNat ls gs os else []
def wrE (n : Int) (ls gs : List (Int × Int)) (os : List Int) : Int := if rightB n ls gs os then 0 else 2

set_option maxHeartbeats 1000000 in
set_option maxRecDepth 100000 in
theorem write_all (n : Int) (la ga oa : Option Addr) (lc gc oc : Nat) (ls gs : List (Int × Int)) (os : List Int) (w : World)
    (hL : PairsAt w la ls) (hG : PairsAt w ga gs) (hO : IntsAt w oa os) :
    Calls Tryd.prog 9 #[.agg #[.int .i64 n, .slice la ls.length lc, .slice ga gs.length gc, .slice oa os.length oc]] w fun e w' =>
      e = .returned (.tuple #[.string ⟨(wrS n ls gs os).toArray⟩, .int .i64 (wrE n ls gs os)]) ∧ Below w.heap.size w w' := by
  have bel0 : Below w.heap.size w (w.alloc (.cells #[.int .i64 n, .slice la ls.length lc, .slice ga gs.length gc, .slice oa os.length oc] 26)) := (Below.refl _ _).alloc (Nat.le_refl _) _
  have hL0 := hL.below bel0
  have hG0 := hG.below bel0
  have hO0 := hO.below bel0
  cases hr : rightB n ls gs os
  · have e1 : wrS n ls gs os = [] := by simp [wrS, hr]
    have e2 : wrE n ls gs os = 2 := by simp [wrE, hr]
    rw [e1, e2]
    go_enter Tryd.func9, Tryd.ntmps9
    go_wp2_with (go_at_call 18; refine (right_is _ hL0 hG0 hO0 hr).mono ?_; rintro e w1 ⟨rfl, b1⟩)
    go_ret2
    exact ⟨rfl, bel0.trans (b1.mono (by simp))⟩
  · have e2 : wrE n ls gs os = 0 := by simp [wrE, hr]
    have e1 : wrS n ls gs os = txt n.toNat ls gs os := by simp [wrS, hr]
    rw [e1, e2]
    clear e1 e2
    obtain ⟨N, rfl⟩ := Int.eq_ofNat_of_zero_le (rightB_pos hr).1.1
    have s := small_of hr
    have hT : ((N : Int)).toNat = N := rfl
    rw [hT]
    go_enter Tryd.func9, Tryd.ntmps9
    go_wp2_with (first | (go_at_call 18; refine (right_is _ hL0 hG0 hO0 hr).mono ?_; rintro e w1 ⟨rfl, b1⟩; have c1 := (bcell b1).1; have y1 : w.heap.size < w1.heap.size := Nat.lt_of_lt_of_le (by simp) b1.size) | (go_at_call 19; refine (write_ok N la ga oa lc gc oc ls gs os _ (hL0.below b1) (hG0.below b1) (hO0.below b1) s).mono ?_; rintro e w2 ⟨rfl, b2⟩))
    go_ret2
    exact ⟨rfl, (bel0.trans (b1.mono (by simp))).trans (b2.mono (by omega))⟩

end Go.Proofs.YtgpaajdfkekjiaaDoor
