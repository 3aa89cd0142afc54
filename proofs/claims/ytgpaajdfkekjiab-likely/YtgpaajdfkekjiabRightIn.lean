/-
  What rightInputs of package latch answers of any inputs whose list can be read.
-/
import Derived.Test.YtgpaajdfkekjiabRight2
import Derived.Test.YtgpaajdfkekjiabLeafRun
namespace Go.Proofs.Ytgpaajdfkekjiab
open Go.RowKit

set_option maxHeartbeats 1000000 in
theorem rightInputs_any (n : Nat) (v1 v2 v3 : Value) (ia : Option Addr) (ic : Nat) (ins : List Int) (w : World) (h1 : n ≤ 4) (hm : ins.length ≤ maxLen) (hI : IntsAt w ia ins) :
    Calls Try.prog 13 #[.agg #[.int .i64 n, v1, v2, v3], .slice ia ins.length ic] w fun e w' =>
      e = .returned (.bool (inputsB n ins)) ∧ Below w.heap.size w w' := by
  unfold maxLen at hm
  by_cases h50 : 50 < ins.length
  · go_enter Try.func13, Try.ntmps13
    go_wp2
    go_ret
    exact ⟨ret_bool (by unfold inputsB; exact (decide_eq_false (by omega)).symm), (Below.refl _ _).alloc (Nat.le_refl _) _⟩
  · rcases hI with rfl | ⟨b, off, rfl, hlt, hc⟩
    · go_enter Try.func13, Try.ntmps13
      go_wp2
      refine wp_loop_rounds 1 ?_
      rw [rounds_succ]
      go_wp2
      go_ret
      exact ⟨rfl, (Below.refl _ _).alloc (Nat.le_refl _) _⟩
    · have bel0 : Below w.heap.size w (w.alloc (.cells #[.int .i64 n, v1, v2, v3] 26)) := (Below.refl _ _).alloc (Nat.le_refl _) _
      go_enter Try.func13, Try.ntmps13
      go_wp2
      go_loopw [6, 12] (fun _ i wr => ∃ k : Nat, k ≤ ins.length ∧ i = .int .i64 k ∧ (∀ j, j < k → inB (ins.getD j 0) (2 ^ n - 1) = true) ∧
          wr.cell? ⟨w.heap.size, 0, none⟩ = some (.int .i64 n) ∧ wr.cell? ⟨w.heap.size, 1, none⟩ = some v1 ∧ wr.cell? ⟨w.heap.size, 2, none⟩ = some v2 ∧
          wr.cell? ⟨w.heap.size, 3, none⟩ = some v3 ∧ w.heap.size < wr.heap.size ∧ Below w.heap.size w wr)
        (fun _ i _ => ins.length - (intOf i).toNat)
      case atStart => exact ⟨0, Nat.zero_le _, rfl, fun j hj => absurd hj (Nat.not_lt_zero j), by simp, by simp, by simp, by simp, by simp, bel0⟩
      case round =>
        obtain ⟨k, hk, rfl, hall, q0, q1, q2, q3, hz, hbel⟩ := hrel
        have HA : Hid (∀ j, j < k → inB (ins.getD j 0) (2 ^ n - 1) = true) := hall
        clear hall
        by_cases hk2 : k < ins.length
        · have hcy : wr.cell? ⟨b, off + k, none⟩ = some (.int .i64 (ins.getD k 0)) := (hbel.cell (p := ⟨b, _, none⟩) hlt).trans (hc k hk2)
          obtain ⟨x, hX⟩ : ∃ x, x = ins.getD k 0 := ⟨_, rfl⟩
          rw [← hX] at hcy
          have HX : Hid (x = ins.getD k 0) := hX
          clear hX hc
          cases hq : inB x (2 ^ n - 1)
          · go_wp2_with (go_at_call 22; refine (input_is _ h1 hq).mono ?_; rintro e w1 ⟨rfl, b1⟩)
            go_ret
            exact ⟨ret_bool (by unfold inputsB; exact (decide_eq_false (fun hh => by have := hh.2 k hk2; rw [← HX.out, hq] at this; cases this)).symm), hbel.trans (b1.mono (by omega))⟩
          · go_wp2_with (go_at_call 22; refine (input_is _ h1 hq).mono ?_; rintro e w1 ⟨rfl, b1⟩)
            go_roundw
            case rel => exact ⟨k + 1, by omega, by go_num, all_succ HA.out (by rw [← HX.out]; exact hq), by rw [(bcell b1).1 _ _ hz]; exact q0, by rw [(bcell b1).1 _ _ hz]; exact q1, by rw [(bcell b1).1 _ _ hz]; exact q2, by rw [(bcell b1).1 _ _ hz]; exact q3, Nat.lt_of_lt_of_le hz b1.size, hbel.trans (b1.mono (by omega))⟩
            case measure => simp [intOf]; omega
        · clear hc
          go_wp2
          go_ret
          exact ⟨ret_bool (by unfold inputsB; exact (decide_eq_true ⟨by omega, fun i hi => HA.out i (by omega)⟩).symm), hbel⟩

end Go.Proofs.Ytgpaajdfkekjiab
