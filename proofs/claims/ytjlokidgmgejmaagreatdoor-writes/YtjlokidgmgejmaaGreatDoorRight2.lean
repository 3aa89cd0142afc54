/-
  What Right of package circuit and rightInputs of package latch answer, of any circuit and any inputs whose lists can be read.
-/
import Derived.Test.YtjlokidgmgejmaaGreatDoorRight
namespace Go.Proofs.YtjlokidgmgejmaaGreatDoor
open Go.RowKit

theorem sizes_is {i l o g : Int} {b : Bool} (w : World) (h : sizesB i l o g = b) :
    Calls Tryz.prog 59 #[.int .i64 i, .int .i64 l, .int .i64 o, .int .i64 g] w fun e w' => e = .returned (.bool b) ∧ w' = w := by
  subst h; exact sizes_any i l o g w

theorem sizesB_pos {i l o g : Int} (h : sizesB i l o g = true) : 0 ≤ i ∧ i ≤ 4 ∧ l ≤ 4 ∧ o ≤ 4 ∧ g ≤ 30 := by
  simp only [sizesB, Bool.and_eq_true] at h
  have a := inB_pos h.1.1.1; have b := inB_pos h.1.1.2; have c := inB_pos h.1.2; have d := inB_pos h.2
  omega

theorem rightOutputs_is {n : Int} {la ga oa : Option Addr} {ln lc gn gc oc : Nat} {os : List Int} {b : Bool} (w : World) (h0 : 0 ≤ n) (h1 : n ≤ 4) (h2 : ln ≤ 1000) (h3 : gn ≤ 1000) (h4 : os.length ≤ 1000)
    (hO : IntsAt w oa os) (h : outsB (n + ln + gn) os = b) :
    Calls Tryz.prog 62 #[.agg #[.int .i64 n, .slice la ln lc, .slice ga gn gc, .slice oa os.length oc]] w fun e w' =>
      e = .returned (.bool b) ∧ Below w.heap.size w w' := by subst h; exact rightOutputs_any n la ga oa ln lc gn gc oc os w h0 h1 h2 h3 h4 hO
theorem rightGates_is {n : Int} {la ga oa : Option Addr} {ln lc gc on oc : Nat} {gs : List (Int × Int)} {b : Bool} (w : World) (h0 : 0 ≤ n) (h1 : n ≤ 4) (h2 : ln ≤ 1000) (h3 : gs.length ≤ 1000)
    (hG : PairsAt w ga gs) (h : gatesB (n + ln) gs = b) :
    Calls Tryz.prog 61 #[.agg #[.int .i64 n, .slice la ln lc, .slice ga gs.length gc, .slice oa on oc]] w fun e w' =>
      e = .returned (.bool b) ∧ Below w.heap.size w w' := by subst h; exact rightGates_any n la ga oa ln lc gc on oc gs w h0 h1 h2 h3 hG
theorem rightLatches_is {n : Int} {la ga oa : Option Addr} {lc gn gc on oc : Nat} {ls : List (Int × Int)} {b : Bool} (w : World) (h0 : 0 ≤ n) (h1 : n ≤ 4) (h2 : ls.length ≤ 1000) (h3 : gn ≤ 1000)
    (hL : PairsAt w la ls) (h : latchesB (n + ls.length + gn) ls = b) :
    Calls Tryz.prog 60 #[.agg #[.int .i64 n, .slice la ls.length lc, .slice ga gn gc, .slice oa on oc]] w fun e w' =>
      e = .returned (.bool b) ∧ Below w.heap.size w w' := by subst h; exact rightLatches_any n la ga oa lc gn gc on oc ls w h0 h1 h2 h3 hL

set_option maxHeartbeats 1000000 in
theorem right_any (n : Int) (la ga oa : Option Addr) (lc gc oc : Nat) (ls gs : List (Int × Int)) (os : List Int) (w : World)
    (hL : PairsAt w la ls) (hG : PairsAt w ga gs) (hO : IntsAt w oa os) :
    Calls Tryz.prog 35 #[.agg #[.int .i64 n, .slice la ls.length lc, .slice ga gs.length gc, .slice oa os.length oc]] w fun e w' =>
      e = .returned (.bool (rightB n ls gs os)) ∧ Below w.heap.size w w' := by
  cases hs : sizesB n ls.length os.length gs.length
  · go_enter Tryz.func35, Tryz.ntmps35
    go_wp2_with (go_at_call 59; refine (sizes_is _ hs).mono ?_; rintro e w' ⟨rfl, rfl⟩)
    go_ret
    exact ⟨ret_bool (by simp [rightB, hs]), (Below.refl _ _).alloc (Nat.le_refl _) _⟩
  · obtain ⟨n0, n4, l4, o4, g30⟩ := sizesB_pos hs
    have bel0 : Below w.heap.size w (w.alloc (.cells #[.int .i64 n, .slice la ls.length lc, .slice ga gs.length gc, .slice oa os.length oc] 34)) := (Below.refl _ _).alloc (Nat.le_refl _) _
    cases h1 : latchesB (n + ls.length + gs.length) ls <;> cases h2 : gatesB (n + ls.length) gs <;> cases h3 : outsB (n + ls.length + gs.length) os <;>
    · go_enter Tryz.func35, Tryz.ntmps35
      go_wp2_with (first | (go_at_call 59; refine (sizes_is _ hs).mono ?_; rintro e w' ⟨rfl, rfl⟩) | (go_at_call 60; refine (rightLatches_is _ n0 n4 (by omega) (by omega) (hL.below bel0) h1).mono ?_; rintro e w1 ⟨rfl, b1⟩; have c1 := (bcell b1).1; have y1 : w.heap.size < w1.heap.size := Nat.lt_of_lt_of_le (by simp) b1.size) | (go_at_call 61; refine (rightGates_is _ n0 n4 (by omega) (by omega) ((hG.below bel0).below b1) h2).mono ?_; rintro e w2 ⟨rfl, b2⟩; have c2 := (bcell b2).1) | (go_at_call 62; refine (rightOutputs_is _ n0 n4 (by omega) (by omega) (by omega) (((hO.below bel0).below b1).below b2) h3).mono ?_; rintro e w3 ⟨rfl, b3⟩))
      go_ret
      first
        | exact ⟨ret_bool (by simp [rightB, hs, h1, h2, h3]), ((bel0.trans (b1.mono (by simp))).trans (b2.mono (by omega))).trans (b3.mono (Nat.le_trans (by omega) b2.size))⟩
        | exact ⟨ret_bool (by simp [rightB, hs, h1, h2]), (bel0.trans (b1.mono (by simp))).trans (b2.mono (by omega))⟩
        | exact ⟨ret_bool (by simp [rightB, hs, h1]), bel0.trans (b1.mono (by simp))⟩

set_option maxHeartbeats 1000000 in
theorem rightInputs_any (n : Nat) (v1 v2 v3 : Value) (ia : Option Addr) (ic : Nat) (ins : List Int) (w : World) (h1 : n ≤ 4) (hm : ins.length ≤ maxLen) (hI : IntsAt w ia ins) :
    Calls Tryz.prog 47 #[.agg #[.int .i64 n, v1, v2, v3], .slice ia ins.length ic] w fun e w' =>
      e = .returned (.bool (inputsB n ins)) ∧ Below w.heap.size w w' := by
  unfold maxLen at hm
  by_cases h50 : 50 < ins.length
  · go_enter Tryz.func47, Tryz.ntmps47
    go_wp2
    go_ret
    exact ⟨ret_bool (by unfold inputsB; exact (decide_eq_false (by omega)).symm), (Below.refl _ _).alloc (Nat.le_refl _) _⟩
  · rcases hI with rfl | ⟨b, off, rfl, hlt, hc⟩
    · go_enter Tryz.func47, Tryz.ntmps47
      go_wp2
      refine wp_loop_rounds 1 ?_
      rw [rounds_succ]
      go_wp2
      go_ret
      exact ⟨rfl, (Below.refl _ _).alloc (Nat.le_refl _) _⟩
    · have bel0 : Below w.heap.size w (w.alloc (.cells #[.int .i64 n, v1, v2, v3] 34)) := (Below.refl _ _).alloc (Nat.le_refl _) _
      go_enter Tryz.func47, Tryz.ntmps47
      go_wp2
      go_loopw [6, 12] (fun _ i wr => ∃ k : Nat, k ≤ ins.length ∧ i = .int .i64 k ∧ (∀ j, j < k → inB (ins.getD j 0) (2 ^ n - 1) = true) ∧
          wr.cell? ⟨w.heap.size, 0, none⟩ = some (.int .i64 n) ∧ wr.cell? ⟨w.heap.size, 1, none⟩ = some v1 ∧ wr.cell? ⟨w.heap.size, 2, none⟩ = some v2 ∧
          wr.cell? ⟨w.heap.size, 3, none⟩ = some v3 ∧ w.heap.size < wr.heap.size ∧ Below w.heap.size w wr)
        (fun _ i _ => ins.length - (intOf i).toNat)
      case atStart => exact ⟨0, Nat.zero_le _, rfl, fun j hj => absurd hj (Nat.not_lt_zero j), by simp, by simp, by simp, by simp, by simp, bel0⟩
      case round =>
        obtain ⟨k, hk, rfl, hall, q0, q1, q2, q3, hz, hbel⟩ := hrel
        have HA : Hid (∀ j, j < k → inB (ins.getD j 0) (2 ^ n - 1) = true) := hall
        clear hall
        by_cases hk2 : k < ins.length
        · have hcy : wr.cell? ⟨b, off + k, none⟩ = some (.int .i64 (ins.getD k 0)) := (hbel.cell (p := ⟨b, _, none⟩) hlt).trans (hc k hk2)
          obtain ⟨x, hX⟩ : ∃ x, x = ins.getD k 0 := ⟨_, rfl⟩
          rw [← hX] at hcy
          have HX : Hid (x = ins.getD k 0) := hX
          clear hX hc
          cases hq : inB x (2 ^ n - 1)
          · go_wp2_with (go_at_call 73; refine (input_is _ h1 hq).mono ?_; rintro e w1 ⟨rfl, b1⟩)
            go_ret
            exact ⟨ret_bool (by unfold inputsB; exact (decide_eq_false (fun hh => by have := hh.2 k hk2; rw [← HX.out, hq] at this; cases this)).symm), hbel.trans (b1.mono (by omega))⟩
          · go_wp2_with (go_at_call 73; refine (input_is _ h1 hq).mono ?_; rintro e w1 ⟨rfl, b1⟩)
            go_roundw
            case rel => exact ⟨k + 1, by omega, by go_num, all_succ HA.out (by rw [← HX.out]; exact hq), by rw [(bcell b1).1 _ _ hz]; exact q0, by rw [(bcell b1).1 _ _ hz]; exact q1, by rw [(bcell b1).1 _ _ hz]; exact q2, by rw [(bcell b1).1 _ _ hz]; exact q3, Nat.lt_of_lt_of_le hz b1.size, hbel.trans (b1.mono (by omega))⟩
            case measure => simp [intOf]; omega
        · clear hc
          go_wp2
          go_ret
          exact ⟨ret_bool (by unfold inputsB; exact (decide_eq_true ⟨by omega, fun i hi => HA.out i (by omega)⟩).symm), hbel⟩

end Go.Proofs.YtjlokidgmgejmaaGreatDoor
