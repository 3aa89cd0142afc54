/-
  The walk of the statement Refused of package latchkeep: the wrong circuits number 6, 7, 8.
-/
import Derived.Test.YtgpaajdfkekjiabGreatDoorRefusedB
namespace Go.Proofs.YtgpaajdfkekjiabGreatDoor
open Go.RowKit

set_option maxHeartbeats 2000000 in
set_option maxRecDepth 100000 in
theorem refused_walk6 (n which : Int) (w : World) (hw : -9223372036854775808 ≤ which) (hw2 : which ≤ 9223372036854775807) (hp : pickI which 9 = 6) :
    Calls Tryz.prog 3 #[.int .i64 n, .int .i64 which] w fun e w' => e = .returned (.bool true) ∧ Below w.heap.size w w' := by
  have HP : Hid (pickI which 9 = 6) := hp
  clear hp
  go_enter Tryz.func3, Tryz.ntmps3
  go_wp2_with fail
  refine (ran_any _).mono ?_
  rintro e w1 ⟨rfl, b1⟩
  go_wp2_with fail
  refine (delay_own _ _).mono ?_
  rintro e w2 ⟨L, O, rfl, hL, hO, lL, lO, lL2, lO2, hLO, b2⟩
  go_wp2_with fail
  refine (pick_to _ hw hw2 (by omega) (by omega) HP.out).mono ?_
  rintro e w3 ⟨rfl, e3⟩
  obtain rfl := e3.symm
  have B2 : Below w.heap.size w w2 := b1.trans (b2.mono b1.size)
  have s2 := b2.size
  have s1 := b1.size
  have hmk5 := make5
  obtain ⟨pL, pO⟩ := delay_lists hL hO
  go_wp2_with fail
  refine (write_bad (w := w) (B := w2.heap.size) (bn := 1) (ls := [(2, 0)]) (gs := []) (os := (List.replicate 5 0)) ⟨by omega, by simp <;> omega, alloc_old (alloc_blk _ _ _ rfl), (pL.alloc_any _).alloc_any _, .inl rfl, made_ints _ 5 _ (by omega) (by simp), bad_6, (B2.alloc (by omega) _).alloc (by simp; omega) _⟩).mono ?_
  rintro e X1 ⟨rfl, bad0⟩
  clear hL hO lL lO lL2 lO2 hLO b1 b2 s1 s2 B2 pL pO
  obtain ⟨bn, la, ga, oa, lc, gc, oc, ls, gs, os, bad1⟩ : ∃ bn la ga oa lc gc oc ls gs os, BadAt w X1 w2.heap.size bn la ga oa lc gc oc ls gs os := ⟨_, _, _, _, _, _, _, _, _, _, bad0⟩
  have g0 := bad1.c0
  have g1 := bad1.c1
  have g2 := bad1.c2
  have g3 := bad1.c3
  have lt1 := bad1.lt
  go_wp2_with fail
  refine (run_wrong _ _ _ _ _ _ _ ls gs os _ _ (by first | exact bad1.hL | exact (bad1.alloc _).hL | exact ((bad1.alloc _).alloc _).hL | exact (((bad1.alloc _).alloc _).alloc _).hL) (by first | exact bad1.hG | exact (bad1.alloc _).hG | exact ((bad1.alloc _).alloc _).hG | exact (((bad1.alloc _).alloc _).alloc _).hG) (by first | exact bad1.hO | exact (bad1.alloc _).hO | exact ((bad1.alloc _).alloc _).hO | exact (((bad1.alloc _).alloc _).alloc _).hO) bad1.bad).mono ?_
  rintro e X2 ⟨rfl, d2⟩
  have e2 : Below X1.heap.size X1 X2 := by first | exact d2 | exact al1 d2 | exact al1 (al1 d2) | exact al1 (al1 (al1 d2)) | exact al1 (al1 (al1 (al1 d2)))
  have bad2 := bad1.below e2
  clear bad1 g0 g1 g2 g3 lt1 d2 e2
  have g0 := bad2.c0
  have g1 := bad2.c1
  have g2 := bad2.c2
  have g3 := bad2.c3
  have lt1 := bad2.lt
  go_wp2_with fail
  refine (slim_wrong _ _ _ _ _ _ _ ls gs os _ (by first | exact bad2.hL | exact (bad2.alloc _).hL | exact ((bad2.alloc _).alloc _).hL | exact (((bad2.alloc _).alloc _).alloc _).hL) (by first | exact bad2.hG | exact (bad2.alloc _).hG | exact ((bad2.alloc _).alloc _).hG | exact (((bad2.alloc _).alloc _).alloc _).hG) (by first | exact bad2.hO | exact (bad2.alloc _).hO | exact ((bad2.alloc _).alloc _).hO | exact (((bad2.alloc _).alloc _).alloc _).hO) bad2.bad).mono ?_
  rintro e X3 ⟨rfl, d3⟩
  have e3 : Below X2.heap.size X2 X3 := by first | exact d3 | exact al1 d3 | exact al1 (al1 d3) | exact al1 (al1 (al1 d3)) | exact al1 (al1 (al1 (al1 d3)))
  have bad3 := bad2.below e3
  clear bad2 g0 g1 g2 g3 lt1 d3 e3
  have g0 := bad3.c0
  have g1 := bad3.c1
  have g2 := bad3.c2
  have g3 := bad3.c3
  have lt1 := bad3.lt
  go_wp2_with fail
  refine (chances_wrong _ _ _ _ _ _ _ _ ls gs os _ (by first | exact bad3.hL | exact (bad3.alloc _).hL | exact ((bad3.alloc _).alloc _).hL | exact (((bad3.alloc _).alloc _).alloc _).hL) (by first | exact bad3.hG | exact (bad3.alloc _).hG | exact ((bad3.alloc _).alloc _).hG | exact (((bad3.alloc _).alloc _).alloc _).hG) (by first | exact bad3.hO | exact (bad3.alloc _).hO | exact ((bad3.alloc _).alloc _).hO | exact (((bad3.alloc _).alloc _).alloc _).hO) bad3.bad).mono ?_
  rintro e X4 ⟨rfl, d4⟩
  have hC4 : X4.heap[X3.heap.size]? = some (.cells #[.int .i64 0, .slice none 0 0, .slice none 0 0, .slice none 0 0] 27 (0, 0)) := (d4.block _ (by simp)).trans (by first | exact alloc_blk _ _ _ rfl | exact (alloc_old (alloc_blk _ _ _ rfl)))
  have ltC4 : X3.heap.size < X4.heap.size := Nat.lt_of_lt_of_le (by simp) d4.size
  have e4 : Below X3.heap.size X3 X4 := by first | exact d4 | exact al1 d4 | exact al1 (al1 d4) | exact al1 (al1 (al1 d4)) | exact al1 (al1 (al1 (al1 d4)))
  have bad4 := bad3.below e4
  clear bad3 g0 g1 g2 g3 lt1 d4 e4
  have g0 := bad4.c0
  have g1 := bad4.c1
  have g2 := bad4.c2
  have g3 := bad4.c3
  have lt1 := bad4.lt
  go_wp2_with fail
  refine (compare_wrongA _ _ _ _ _ _ _ _ _ _ _ _ _ _ ls gs [] [] os [] _ (by first | exact bad4.hL | exact (bad4.alloc _).hL | exact ((bad4.alloc _).alloc _).hL | exact (((bad4.alloc _).alloc _).alloc _).hL) (by first | exact bad4.hG | exact (bad4.alloc _).hG | exact ((bad4.alloc _).alloc _).hG | exact (((bad4.alloc _).alloc _).alloc _).hG) (by first | exact bad4.hO | exact (bad4.alloc _).hO | exact ((bad4.alloc _).alloc _).hO | exact (((bad4.alloc _).alloc _).alloc _).hO) bad4.bad).mono ?_
  rintro e X5 ⟨rfl, d5⟩
  have e5 : Below X4.heap.size X4 X5 := by first | exact d5 | exact al1 d5 | exact al1 (al1 d5) | exact al1 (al1 (al1 d5)) | exact al1 (al1 (al1 (al1 d5)))
  have bad5 := bad4.below e5
  have hC5 := (e5.block _ ltC4).trans hC4
  have ltC5 := Nat.lt_of_lt_of_le ltC4 e5.size
  clear hC4 ltC4
  clear bad4 g0 g1 g2 g3 lt1 d5 e5
  have g0 := bad5.c0
  have g1 := bad5.c1
  have g2 := bad5.c2
  have g3 := bad5.c3
  have lt1 := bad5.lt
  go_wp2_with fail
  refine (compare_wrongB _ _ _ _ _ _ _ _ _ _ _ _ _ _ [] [] ls gs [] os _ (.inl rfl) (.inl rfl) (.inl rfl) (by first | exact bad5.hL | exact (bad5.alloc _).hL | exact ((bad5.alloc _).alloc _).hL | exact (((bad5.alloc _).alloc _).alloc _).hL) (by first | exact bad5.hG | exact (bad5.alloc _).hG | exact ((bad5.alloc _).alloc _).hG | exact (((bad5.alloc _).alloc _).alloc _).hG) (by first | exact bad5.hO | exact (bad5.alloc _).hO | exact ((bad5.alloc _).alloc _).hO | exact (((bad5.alloc _).alloc _).alloc _).hO) (by decide) bad5.bad).mono ?_
  rintro e X6 ⟨rfl, d6⟩
  have e6 : Below X5.heap.size X5 X6 := by first | exact d6 | exact al1 d6 | exact al1 (al1 d6) | exact al1 (al1 (al1 d6)) | exact al1 (al1 (al1 (al1 d6)))
  have bad6 := bad5.below e6
  have hC6 := (e6.block _ ltC5).trans hC5
  have ltC6 := Nat.lt_of_lt_of_le ltC5 e6.size
  clear hC5 ltC5
  clear bad5 g0 g1 g2 g3 lt1 d6 e6
  have g0 := bad6.c0
  have g1 := bad6.c1
  have g2 := bad6.c2
  have g3 := bad6.c3
  have lt1 := bad6.lt
  go_wp2_with fail
  have bel6 := bad6.bel
  clear bad6 g0 g1 g2 g3 lt1
  refine (delay_own _ _).mono ?_
  rintro e X7 ⟨L7, O7, rfl, hL7, hO7, _, _, _, _, _, d7⟩
  obtain ⟨pL7, pO7⟩ := delay_lists hL7 hO7
  clear hL7 hO7
  have e7 : Below X6.heap.size X6 X7 := by first | exact d7 | exact al1 d7 | exact al1 (al1 d7) | exact al1 (al1 (al1 d7)) | exact al1 (al1 (al1 (al1 d7)))
  have hC7 := (e7.block _ ltC6).trans hC6
  have ltC7 := Nat.lt_of_lt_of_le ltC6 e7.size
  have bel7 := bel6.trans (e7.mono bel6.size)
  clear hC6 ltC6 d7 e7 bel6
  go_wp2_with fail
  obtain ⟨q, hq⟩ : ∃ q, outI n 2 = q := ⟨_, rfl⟩
  have hq2 := outI_not (c := n) (n := 2)
  rw [hq] at hq2
  have HQ2 : Hid (outI n 2 = q) := hq
  have HI2 : Hid (inputsB 1 [0, q] = false) := inputs_bad hq2
  clear hq hq2
  refine (outside_is _ (by omega) (by omega) HQ2.out).mono ?_
  rintro e w5 ⟨rfl, e5⟩
  obtain rfl := e5.symm
  go_wp2_with fail
  refine (run_inputs 1 _ none _ _ _ _ _ _ [(2, 0)] [] [4] [0, q] _ (by simp [maxLen]) (pL7.alloc_any _) (.inl rfl) (pO7.alloc_any _) (ints2 _ _ _ _ rfl) (by decide) HI2.out).mono ?_
  rintro e X8 ⟨rfl, d8⟩
  have e8 : Below X7.heap.size X7 X8 := by first | exact d8 | exact al1 d8 | exact al1 (al1 d8) | exact al1 (al1 (al1 d8)) | exact al1 (al1 (al1 (al1 d8)))
  have hC8 := (e8.block _ ltC7).trans hC7
  have ltC8 := Nat.lt_of_lt_of_le ltC7 e8.size
  have bel8 := bel7.trans (e8.mono bel7.size)
  clear hC7 ltC7 d8 e8 bel7
  clear pL7 pO7 HQ2 HI2
  go_wp2_with fail
  have hmk := make51
  go_region_held3 (fun _ => True) (trivial) (first
    | (go_at_call 5; refine (delay_own _ _).mono ?_; rintro e X9 ⟨L9, O9, rfl, hL9, hO9, _, _, _, _, _, d9⟩; obtain ⟨pL9, pO9⟩ := delay_lists hL9 hO9)
    | (go_at_call 9; refine (run_51 _ _ _ _ (by first | exact pL9 | exact pL9.alloc_any _) (by first | exact pO9 | exact pO9.alloc_any _) (by first | exact made_ints _ 51 _ (by omega) rfl | exact (made_ints _ 51 _ (by omega) rfl).below d9 | exact ((made_ints _ 51 _ (by omega) rfl).below (Below.refl _ _).drew).below d9)).mono ?_; rintro e X10 ⟨rfl, d10⟩)
    | fail)
  all_goals
    have e9 : Below X8.heap.size X8 X9 := by first | exact d9 | exact al1 d9 | exact al1 (al1 d9) | exact ndr d9 | exact al1 (ndr d9) | exact al1 (al1 (al1 d9)) | exact al1 (al1 (al1 (al1 d9)))
    have hC9 := (e9.block _ ltC8).trans hC8
    have ltC9 := Nat.lt_of_lt_of_le ltC8 e9.size
    have bel9 := bel8.trans (e9.mono bel8.size)
    clear hC8 ltC8 d9 e9 bel8
    have e10 : Below X9.heap.size X9 X10 := by first | exact d10 | exact al1 d10 | exact al1 (al1 d10) | exact ndr d10 | exact al1 (ndr d10) | exact al1 (al1 (al1 d10)) | exact al1 (al1 (al1 (al1 d10)))
    have hC10 := (e10.block _ ltC9).trans hC9
    have ltC10 := Nat.lt_of_lt_of_le ltC9 e10.size
    have bel10 := bel9.trans (e10.mono bel9.size)
    clear hC9 ltC9 d10 e10 bel9
    clear pL9 pO9 hL9 hO9
    go_wp2_with fail
    refine (delay_own _ _).mono ?_
    rintro e X11 ⟨L11, O11, rfl, hL11, hO11, _, _, _, _, _, d11⟩
    obtain ⟨pL11, pO11⟩ := delay_lists hL11 hO11
    clear hL11 hO11
    have e11 : Below X10.heap.size X10 X11 := by first | exact d11 | exact al1 d11 | exact al1 (al1 d11) | exact ndr d11 | exact al1 (ndr d11) | exact al1 (al1 (al1 d11)) | exact al1 (al1 (al1 (al1 d11)))
    have hC11 := (e11.block _ ltC10).trans hC10
    have ltC11 := Nat.lt_of_lt_of_le ltC10 e11.size
    have bel11 := bel10.trans (e11.mono bel10.size)
    clear hC10 ltC10 d11 e11 bel10
    go_wp2_with fail
    obtain ⟨m, hm⟩ : ∃ m, outI (wrap64 (n - 1)) 10 = m := ⟨_, rfl⟩
    have HM : Hid (outI (wrap64 (n - 1)) 10 = m) := hm
    have HS : Hid (wrap64 (m + 1) < 1 ∨ 10 < wrap64 (m + 1)) := steps_bad hm
    clear hm
    refine (outside_is _ (by omega) (by omega) HM.out).mono ?_
    rintro e w6 ⟨rfl, e6⟩
    obtain rfl := e6.symm
    go_wp2_with fail
    refine (chances_steps 1 _ _ none _ _ _ _ [(2, 0)] [] [4] _ (by first | exact pL11 | exact pL11.alloc_any _ | exact (pL11.alloc_any _).alloc_any _) (.inl rfl) (by first | exact pO11 | exact pO11.alloc_any _ | exact (pO11.alloc_any _).alloc_any _) (by decide) HS.out).mono ?_
    rintro e X12 ⟨rfl, d12⟩
    have e12 : Below X11.heap.size X11 X12 := by first | exact d12 | exact al1 d12 | exact al1 (al1 d12) | exact ndr d12 | exact al1 (ndr d12) | exact al1 (al1 (al1 d12)) | exact al1 (al1 (al1 (al1 d12)))
    have hC12 := (e12.block _ ltC11).trans hC11
    have ltC12 := Nat.lt_of_lt_of_le ltC11 e12.size
    have bel12 := bel11.trans (e12.mono bel11.size)
    clear hC11 ltC11 d12 e12 bel11
    clear pL11 pO11 HM HS
    go_wp2_with fail
    refine (delay_own _ _).mono ?_
    rintro e X13 ⟨L13, O13, rfl, hL13, hO13, _, _, _, _, _, d13⟩
    obtain ⟨pL13, pO13⟩ := delay_lists hL13 hO13
    clear hL13 hO13
    have e13 : Below X12.heap.size X12 X13 := by first | exact d13 | exact al1 d13 | exact al1 (al1 d13) | exact ndr d13 | exact al1 (ndr d13) | exact al1 (al1 (al1 d13)) | exact al1 (al1 (al1 (al1 d13)))
    have hC13 := (e13.block _ ltC12).trans hC12
    have ltC13 := Nat.lt_of_lt_of_le ltC12 e13.size
    have bel13 := bel12.trans (e13.mono bel12.size)
    clear hC12 ltC12 d13 e13 bel12
    go_wp2_with fail
    refine (compare_outputs 1 _ none _ none none none _ _ _ _ _ _ [(2, 0)] [] [] [] [4] [] _ (by first | exact pL13 | exact pL13.alloc_any _ | exact (pL13.alloc_any _).alloc_any _) (.inl rfl) (by first | exact pO13 | exact pO13.alloc_any _ | exact (pO13.alloc_any _).alloc_any _) (.inl rfl) (.inl rfl) (.inl rfl) (by decide) (by decide) (by decide)).mono ?_
    rintro e X14 ⟨rfl, d14⟩
    have e14 : Below X13.heap.size X13 X14 := by first | exact d14 | exact al1 d14 | exact al1 (al1 d14) | exact ndr d14 | exact al1 (ndr d14) | exact al1 (al1 (al1 d14)) | exact al1 (al1 (al1 (al1 d14)))
    have hC14 := (e14.block _ ltC13).trans hC13
    have ltC14 := Nat.lt_of_lt_of_le ltC13 e14.size
    have bel14 := bel13.trans (e14.mono bel13.size)
    clear hC13 ltC13 d14 e14 bel13
    clear pL13 pO13
    go_wp2_with fail
    refine (delay_own _ _).mono ?_
    rintro e X15 ⟨L15, O15, rfl, hL15, hO15, _, _, _, _, _, d15⟩
    obtain ⟨pL15, pO15⟩ := delay_lists hL15 hO15
    clear hL15 hO15
    have e15 : Below X14.heap.size X14 X15 := by first | exact d15 | exact al1 d15 | exact al1 (al1 d15) | exact ndr d15 | exact al1 (ndr d15) | exact al1 (al1 (al1 d15)) | exact al1 (al1 (al1 (al1 d15)))
    have hC15 := (e15.block _ ltC14).trans hC14
    have ltC15 := Nat.lt_of_lt_of_le ltC14 e15.size
    have bel15 := bel14.trans (e15.mono bel14.size)
    clear hC14 ltC14 d15 e15 bel14
    go_wp2_with fail
    refine (compare_inputs 1 0 _ none _ none none _ _ _ _ _ _ _ [(2, 0)] [] [] [] [4] [0] _ (by first | exact pL15 | exact pL15.alloc_any _ | exact (pL15.alloc_any _).alloc_any _) (.inl rfl) (by first | exact pO15 | exact pO15.alloc_any _ | exact (pO15.alloc_any _).alloc_any _) (.inl rfl) (.inl rfl) (by first | exact ints1 _ _ _ rfl | exact (ints1 _ _ _ rfl).alloc_any _) (by decide) (by decide) (by decide)).mono ?_
    rintro e X16 ⟨rfl, d16⟩
    have e16 : Below X15.heap.size X15 X16 := by first | exact d16 | exact al1 d16 | exact al1 (al1 d16) | exact ndr d16 | exact al1 (ndr d16) | exact al1 (al1 (al1 d16)) | exact al1 (al1 (al1 (al1 d16)))
    have hC16 := (e16.block _ ltC15).trans hC15
    have ltC16 := Nat.lt_of_lt_of_le ltC15 e16.size
    have bel16 := bel15.trans (e16.mono bel15.size)
    clear hC15 ltC15 d16 e16 bel15
    clear pL15 pO15
    have hmb := make1001
    have hcv := fun o => conv1001 (X16.alloc o) (X16.heap.size + 1) (by simp)
    go_wp2_with fail
    refine (latchRead_long z1001 _ (by rw [z1001_len]; omega) (by rw [z1001_len]; omega)).mono ?_
    rintro e X17 ⟨rfl, d17⟩
    have e17 : Below X16.heap.size X16 X17 := by first | exact d17 | exact al1 d17 | exact al1 (al1 d17) | exact ndr d17 | exact al1 (ndr d17) | exact al1 (al1 (al1 d17)) | exact al1 (al1 (al1 (al1 d17)))
    have hC17 := (e17.block _ ltC16).trans hC16
    have ltC17 := Nat.lt_of_lt_of_le ltC16 e17.size
    have bel17 := bel16.trans (e17.mono bel16.size)
    clear hC16 ltC16 d17 e17 bel16
    clear hmb hcv
    have y3 : X17.cell? ⟨X3.heap.size, 3, none⟩ = some (.slice none 0 0) := by rw [cell_of_row _ _ _ _ _ _ hC17]; rfl
    go_wp2
    go_ret
    first | exact ⟨rfl, bel17⟩ | exact ⟨rfl, bel17.alloc bel17.size _⟩


set_option maxHeartbeats 2000000 in
set_option maxRecDepth 100000 in
theorem refused_walk7 (n which : Int) (w : World) (hw : -9223372036854775808 ≤ which) (hw2 : which ≤ 9223372036854775807) (hp : pickI which 9 = 7) :
    Calls Tryz.prog 3 #[.int .i64 n, .int .i64 which] w fun e w' => e = .returned (.bool true) ∧ Below w.heap.size w w' := by
  have HP : Hid (pickI which 9 = 7) := hp
  clear hp
  go_enter Tryz.func3, Tryz.ntmps3
  go_wp2_with fail
  refine (ran_any _).mono ?_
  rintro e w1 ⟨rfl, b1⟩
  go_wp2_with fail
  refine (delay_own _ _).mono ?_
  rintro e w2 ⟨L, O, rfl, hL, hO, lL, lO, lL2, lO2, hLO, b2⟩
  go_wp2_with fail
  refine (pick_to _ hw hw2 (by omega) (by omega) HP.out).mono ?_
  rintro e w3 ⟨rfl, e3⟩
  obtain rfl := e3.symm
  have B2 : Below w.heap.size w w2 := b1.trans (b2.mono b1.size)
  have s2 := b2.size
  have s1 := b1.size
  have hmk5 := makeL5
  obtain ⟨pL, pO⟩ := delay_lists hL hO
  go_wp2_with fail
  refine (write_bad (w := w) (B := w2.heap.size) (bn := 1) (ls := (List.replicate 5 (0, 0))) (gs := []) (os := [4]) ⟨by omega, by simp <;> omega, alloc_old (alloc_blk _ _ _ rfl), made_pairs _ 5 _ _ (by simp), .inl rfl, (pO.alloc_any _).alloc_any _, bad_7, (B2.alloc (by omega) _).alloc (by simp; omega) _⟩).mono ?_
  rintro e X1 ⟨rfl, bad0⟩
  clear hL hO lL lO lL2 lO2 hLO b1 b2 s1 s2 B2 pL pO
  obtain ⟨bn, la, ga, oa, lc, gc, oc, ls, gs, os, bad1⟩ : ∃ bn la ga oa lc gc oc ls gs os, BadAt w X1 w2.heap.size bn la ga oa lc gc oc ls gs os := ⟨_, _, _, _, _, _, _, _, _, _, bad0⟩
  have g0 := bad1.c0
  have g1 := bad1.c1
  have g2 := bad1.c2
  have g3 := bad1.c3
  have lt1 := bad1.lt
  go_wp2_with fail
  refine (run_wrong _ _ _ _ _ _ _ ls gs os _ _ (by first | exact bad1.hL | exact (bad1.alloc _).hL | exact ((bad1.alloc _).alloc _).hL | exact (((bad1.alloc _).alloc _).alloc _).hL) (by first | exact bad1.hG | exact (bad1.alloc _).hG | exact ((bad1.alloc _).alloc _).hG | exact (((bad1.alloc _).alloc _).alloc _).hG) (by first | exact bad1.hO | exact (bad1.alloc _).hO | exact ((bad1.alloc _).alloc _).hO | exact (((bad1.alloc _).alloc _).alloc _).hO) bad1.bad).mono ?_
  rintro e X2 ⟨rfl, d2⟩
  have e2 : Below X1.heap.size X1 X2 := by first | exact d2 | exact al1 d2 | exact al1 (al1 d2) | exact al1 (al1 (al1 d2)) | exact al1 (al1 (al1 (al1 d2)))
  have bad2 := bad1.below e2
  clear bad1 g0 g1 g2 g3 lt1 d2 e2
  have g0 := bad2.c0
  have g1 := bad2.c1
  have g2 := bad2.c2
  have g3 := bad2.c3
  have lt1 := bad2.lt
  go_wp2_with fail
  refine (slim_wrong _ _ _ _ _ _ _ ls gs os _ (by first | exact bad2.hL | exact (bad2.alloc _).hL | exact ((bad2.alloc _).alloc _).hL | exact (((bad2.alloc _).alloc _).alloc _).hL) (by first | exact bad2.hG | exact (bad2.alloc _).hG | exact ((bad2.alloc _).alloc _).hG | exact (((bad2.alloc _).alloc _).alloc _).hG) (by first | exact bad2.hO | exact (bad2.alloc _).hO | exact ((bad2.alloc _).alloc _).hO | exact (((bad2.alloc _).alloc _).alloc _).hO) bad2.bad).mono ?_
  rintro e X3 ⟨rfl, d3⟩
  have e3 : Below X2.heap.size X2 X3 := by first | exact d3 | exact al1 d3 | exact al1 (al1 d3) | exact al1 (al1 (al1 d3)) | exact al1 (al1 (al1 (al1 d3)))
  have bad3 := bad2.below e3
  clear bad2 g0 g1 g2 g3 lt1 d3 e3
  have g0 := bad3.c0
  have g1 := bad3.c1
  have g2 := bad3.c2
  have g3 := bad3.c3
  have lt1 := bad3.lt
  go_wp2_with fail
  refine (chances_wrong _ _ _ _ _ _ _ _ ls gs os _ (by first | exact bad3.hL | exact (bad3.alloc _).hL | exact ((bad3.alloc _).alloc _).hL | exact (((bad3.alloc _).alloc _).alloc _).hL) (by first | exact bad3.hG | exact (bad3.alloc _).hG | exact ((bad3.alloc _).alloc _).hG | exact (((bad3.alloc _).alloc _).alloc _).hG) (by first | exact bad3.hO | exact (bad3.alloc _).hO | exact ((bad3.alloc _).alloc _).hO | exact (((bad3.alloc _).alloc _).alloc _).hO) bad3.bad).mono ?_
  rintro e X4 ⟨rfl, d4⟩
  have hC4 : X4.heap[X3.heap.size]? = some (.cells #[.int .i64 0, .slice none 0 0, .slice none 0 0, .slice none 0 0] 27 (0, 0)) := (d4.block _ (by simp)).trans (by first | exact alloc_blk _ _ _ rfl | exact (alloc_old (alloc_blk _ _ _ rfl)))
  have ltC4 : X3.heap.size < X4.heap.size := Nat.lt_of_lt_of_le (by simp) d4.size
  have e4 : Below X3.heap.size X3 X4 := by first | exact d4 | exact al1 d4 | exact al1 (al1 d4) | exact al1 (al1 (al1 d4)) | exact al1 (al1 (al1 (al1 d4)))
  have bad4 := bad3.below e4
  clear bad3 g0 g1 g2 g3 lt1 d4 e4
  have g0 := bad4.c0
  have g1 := bad4.c1
  have g2 := bad4.c2
  have g3 := bad4.c3
  have lt1 := bad4.lt
  go_wp2_with fail
  refine (compare_wrongA _ _ _ _ _ _ _ _ _ _ _ _ _ _ ls gs [] [] os [] _ (by first | exact bad4.hL | exact (bad4.alloc _).hL | exact ((bad4.alloc _).alloc _).hL | exact (((bad4.alloc _).alloc _).alloc _).hL) (by first | exact bad4.hG | exact (bad4.alloc _).hG | exact ((bad4.alloc _).alloc _).hG | exact (((bad4.alloc _).alloc _).alloc _).hG) (by first | exact bad4.hO | exact (bad4.alloc _).hO | exact ((bad4.alloc _).alloc _).hO | exact (((bad4.alloc _).alloc _).alloc _).hO) bad4.bad).mono ?_
  rintro e X5 ⟨rfl, d5⟩
  have e5 : Below X4.heap.size X4 X5 := by first | exact d5 | exact al1 d5 | exact al1 (al1 d5) | exact al1 (al1 (al1 d5)) | exact al1 (al1 (al1 (al1 d5)))
  have bad5 := bad4.below e5
  have hC5 := (e5.block _ ltC4).trans hC4
  have ltC5 := Nat.lt_of_lt_of_le ltC4 e5.size
  clear hC4 ltC4
  clear bad4 g0 g1 g2 g3 lt1 d5 e5
  have g0 := bad5.c0
  have g1 := bad5.c1
  have g2 := bad5.c2
  have g3 := bad5.c3
  have lt1 := bad5.lt
  go_wp2_with fail
  refine (compare_wrongB _ _ _ _ _ _ _ _ _ _ _ _ _ _ [] [] ls gs [] os _ (.inl rfl) (.inl rfl) (.inl rfl) (by first | exact bad5.hL | exact (bad5.alloc _).hL | exact ((bad5.alloc _).alloc _).hL | exact (((bad5.alloc _).alloc _).alloc _).hL) (by first | exact bad5.hG | exact (bad5.alloc _).hG | exact ((bad5.alloc _).alloc _).hG | exact (((bad5.alloc _).alloc _).alloc _).hG) (by first | exact bad5.hO | exact (bad5.alloc _).hO | exact ((bad5.alloc _).alloc _).hO | exact (((bad5.alloc _).alloc _).alloc _).hO) (by decide) bad5.bad).mono ?_
  rintro e X6 ⟨rfl, d6⟩
  have e6 : Below X5.heap.size X5 X6 := by first | exact d6 | exact al1 d6 | exact al1 (al1 d6) | exact al1 (al1 (al1 d6)) | exact al1 (al1 (al1 (al1 d6)))
  have bad6 := bad5.below e6
  have hC6 := (e6.block _ ltC5).trans hC5
  have ltC6 := Nat.lt_of_lt_of_le ltC5 e6.size
  clear hC5 ltC5
  clear bad5 g0 g1 g2 g3 lt1 d6 e6
  have g0 := bad6.c0
  have g1 := bad6.c1
  have g2 := bad6.c2
  have g3 := bad6.c3
  have lt1 := bad6.lt
  go_wp2_with fail
  have bel6 := bad6.bel
  clear bad6 g0 g1 g2 g3 lt1
  refine (delay_own _ _).mono ?_
  rintro e X7 ⟨L7, O7, rfl, hL7, hO7, _, _, _, _, _, d7⟩
  obtain ⟨pL7, pO7⟩ := delay_lists hL7 hO7
  clear hL7 hO7
  have e7 : Below X6.heap.size X6 X7 := by first | exact d7 | exact al1 d7 | exact al1 (al1 d7) | exact al1 (al1 (al1 d7)) | exact al1 (al1 (al1 (al1 d7)))
  have hC7 := (e7.block _ ltC6).trans hC6
  have ltC7 := Nat.lt_of_lt_of_le ltC6 e7.size
  have bel7 := bel6.trans (e7.mono bel6.size)
  clear hC6 ltC6 d7 e7 bel6
  go_wp2_with fail
  obtain ⟨q, hq⟩ : ∃ q, outI n 2 = q := ⟨_, rfl⟩
  have hq2 := outI_not (c := n) (n := 2)
  rw [hq] at hq2
  have HQ2 : Hid (outI n 2 = q) := hq
  have HI2 : Hid (inputsB 1 [0, q] = false) := inputs_bad hq2
  clear hq hq2
  refine (outside_is _ (by omega) (by omega) HQ2.out).mono ?_
  rintro e w5 ⟨rfl, e5⟩
  obtain rfl := e5.symm
  go_wp2_with fail
  refine (run_inputs 1 _ none _ _ _ _ _ _ [(2, 0)] [] [4] [0, q] _ (by simp [maxLen]) (pL7.alloc_any _) (.inl rfl) (pO7.alloc_any _) (ints2 _ _ _ _ rfl) (by decide) HI2.out).mono ?_
  rintro e X8 ⟨rfl, d8⟩
  have e8 : Below X7.heap.size X7 X8 := by first | exact d8 | exact al1 d8 | exact al1 (al1 d8) | exact al1 (al1 (al1 d8)) | exact al1 (al1 (al1 (al1 d8)))
  have hC8 := (e8.block _ ltC7).trans hC7
  have ltC8 := Nat.lt_of_lt_of_le ltC7 e8.size
  have bel8 := bel7.trans (e8.mono bel7.size)
  clear hC7 ltC7 d8 e8 bel7
  clear pL7 pO7 HQ2 HI2
  go_wp2_with fail
  have hmk := make51
  go_region_held3 (fun _ => True) (trivial) (first
    | (go_at_call 5; refine (delay_own _ _).mono ?_; rintro e X9 ⟨L9, O9, rfl, hL9, hO9, _, _, _, _, _, d9⟩; obtain ⟨pL9, pO9⟩ := delay_lists hL9 hO9)
    | (go_at_call 9; refine (run_51 _ _ _ _ (by first | exact pL9 | exact pL9.alloc_any _) (by first | exact pO9 | exact pO9.alloc_any _) (by first | exact made_ints _ 51 _ (by omega) rfl | exact (made_ints _ 51 _ (by omega) rfl).below d9 | exact ((made_ints _ 51 _ (by omega) rfl).below (Below.refl _ _).drew).below d9)).mono ?_; rintro e X10 ⟨rfl, d10⟩)
    | fail)
  all_goals
    have e9 : Below X8.heap.size X8 X9 := by first | exact d9 | exact al1 d9 | exact al1 (al1 d9) | exact ndr d9 | exact al1 (ndr d9) | exact al1 (al1 (al1 d9)) | exact al1 (al1 (al1 (al1 d9)))
    have hC9 := (e9.block _ ltC8).trans hC8
    have ltC9 := Nat.lt_of_lt_of_le ltC8 e9.size
    have bel9 := bel8.trans (e9.mono bel8.size)
    clear hC8 ltC8 d9 e9 bel8
    have e10 : Below X9.heap.size X9 X10 := by first | exact d10 | exact al1 d10 | exact al1 (al1 d10) | exact ndr d10 | exact al1 (ndr d10) | exact al1 (al1 (al1 d10)) | exact al1 (al1 (al1 (al1 d10)))
    have hC10 := (e10.block _ ltC9).trans hC9
    have ltC10 := Nat.lt_of_lt_of_le ltC9 e10.size
    have bel10 := bel9.trans (e10.mono bel9.size)
    clear hC9 ltC9 d10 e10 bel9
    clear pL9 pO9 hL9 hO9
    go_wp2_with fail
    refine (delay_own _ _).mono ?_
    rintro e X11 ⟨L11, O11, rfl, hL11, hO11, _, _, _, _, _, d11⟩
    obtain ⟨pL11, pO11⟩ := delay_lists hL11 hO11
    clear hL11 hO11
    have e11 : Below X10.heap.size X10 X11 := by first | exact d11 | exact al1 d11 | exact al1 (al1 d11) | exact ndr d11 | exact al1 (ndr d11) | exact al1 (al1 (al1 d11)) | exact al1 (al1 (al1 (al1 d11)))
    have hC11 := (e11.block _ ltC10).trans hC10
    have ltC11 := Nat.lt_of_lt_of_le ltC10 e11.size
    have bel11 := bel10.trans (e11.mono bel10.size)
    clear hC10 ltC10 d11 e11 bel10
    go_wp2_with fail
    obtain ⟨m, hm⟩ : ∃ m, outI (wrap64 (n - 1)) 10 = m := ⟨_, rfl⟩
    have HM : Hid (outI (wrap64 (n - 1)) 10 = m) := hm
    have HS : Hid (wrap64 (m + 1) < 1 ∨ 10 < wrap64 (m + 1)) := steps_bad hm
    clear hm
    refine (outside_is _ (by omega) (by omega) HM.out).mono ?_
    rintro e w6 ⟨rfl, e6⟩
    obtain rfl := e6.symm
    go_wp2_with fail
    refine (chances_steps 1 _ _ none _ _ _ _ [(2, 0)] [] [4] _ (by first | exact pL11 | exact pL11.alloc_any _ | exact (pL11.alloc_any _).alloc_any _) (.inl rfl) (by first | exact pO11 | exact pO11.alloc_any _ | exact (pO11.alloc_any _).alloc_any _) (by decide) HS.out).mono ?_
    rintro e X12 ⟨rfl, d12⟩
    have e12 : Below X11.heap.size X11 X12 := by first | exact d12 | exact al1 d12 | exact al1 (al1 d12) | exact ndr d12 | exact al1 (ndr d12) | exact al1 (al1 (al1 d12)) | exact al1 (al1 (al1 (al1 d12)))
    have hC12 := (e12.block _ ltC11).trans hC11
    have ltC12 := Nat.lt_of_lt_of_le ltC11 e12.size
    have bel12 := bel11.trans (e12.mono bel11.size)
    clear hC11 ltC11 d12 e12 bel11
    clear pL11 pO11 HM HS
    go_wp2_with fail
    refine (delay_own _ _).mono ?_
    rintro e X13 ⟨L13, O13, rfl, hL13, hO13, _, _, _, _, _, d13⟩
    obtain ⟨pL13, pO13⟩ := delay_lists hL13 hO13
    clear hL13 hO13
    have e13 : Below X12.heap.size X12 X13 := by first | exact d13 | exact al1 d13 | exact al1 (al1 d13) | exact ndr d13 | exact al1 (ndr d13) | exact al1 (al1 (al1 d13)) | exact al1 (al1 (al1 (al1 d13)))
    have hC13 := (e13.block _ ltC12).trans hC12
    have ltC13 := Nat.lt_of_lt_of_le ltC12 e13.size
    have bel13 := bel12.trans (e13.mono bel12.size)
    clear hC12 ltC12 d13 e13 bel12
    go_wp2_with fail
    refine (compare_outputs 1 _ none _ none none none _ _ _ _ _ _ [(2, 0)] [] [] [] [4] [] _ (by first | exact pL13 | exact pL13.alloc_any _ | exact (pL13.alloc_any _).alloc_any _) (.inl rfl) (by first | exact pO13 | exact pO13.alloc_any _ | exact (pO13.alloc_any _).alloc_any _) (.inl rfl) (.inl rfl) (.inl rfl) (by decide) (by decide) (by decide)).mono ?_
    rintro e X14 ⟨rfl, d14⟩
    have e14 : Below X13.heap.size X13 X14 := by first | exact d14 | exact al1 d14 | exact al1 (al1 d14) | exact ndr d14 | exact al1 (ndr d14) | exact al1 (al1 (al1 d14)) | exact al1 (al1 (al1 (al1 d14)))
    have hC14 := (e14.block _ ltC13).trans hC13
    have ltC14 := Nat.lt_of_lt_of_le ltC13 e14.size
    have bel14 := bel13.trans (e14.mono bel13.size)
    clear hC13 ltC13 d14 e14 bel13
    clear pL13 pO13
    go_wp2_with fail
    refine (delay_own _ _).mono ?_
    rintro e X15 ⟨L15, O15, rfl, hL15, hO15, _, _, _, _, _, d15⟩
    obtain ⟨pL15, pO15⟩ := delay_lists hL15 hO15
    clear hL15 hO15
    have e15 : Below X14.heap.size X14 X15 := by first | exact d15 | exact al1 d15 | exact al1 (al1 d15) | exact ndr d15 | exact al1 (ndr d15) | exact al1 (al1 (al1 d15)) | exact al1 (al1 (al1 (al1 d15)))
    have hC15 := (e15.block _ ltC14).trans hC14
    have ltC15 := Nat.lt_of_lt_of_le ltC14 e15.size
    have bel15 := bel14.trans (e15.mono bel14.size)
    clear hC14 ltC14 d15 e15 bel14
    go_wp2_with fail
    refine (compare_inputs 1 0 _ none _ none none _ _ _ _ _ _ _ [(2, 0)] [] [] [] [4] [0] _ (by first | exact pL15 | exact pL15.alloc_any _ | exact (pL15.alloc_any _).alloc_any _) (.inl rfl) (by first | exact pO15 | exact pO15.alloc_any _ | exact (pO15.alloc_any _).alloc_any _) (.inl rfl) (.inl rfl) (by first | exact ints1 _ _ _ rfl | exact (ints1 _ _ _ rfl).alloc_any _) (by decide) (by decide) (by decide)).mono ?_
    rintro e X16 ⟨rfl, d16⟩
    have e16 : Below X15.heap.size X15 X16 := by first | exact d16 | exact al1 d16 | exact al1 (al1 d16) | exact ndr d16 | exact al1 (ndr d16) | exact al1 (al1 (al1 d16)) | exact al1 (al1 (al1 (al1 d16)))
    have hC16 := (e16.block _ ltC15).trans hC15
    have ltC16 := Nat.lt_of_lt_of_le ltC15 e16.size
    have bel16 := bel15.trans (e16.mono bel15.size)
    clear hC15 ltC15 d16 e16 bel15
    clear pL15 pO15
    have hmb := make1001
    have hcv := fun o => conv1001 (X16.alloc o) (X16.heap.size + 1) (by simp)
    go_wp2_with fail
    refine (latchRead_long z1001 _ (by rw [z1001_len]; omega) (by rw [z1001_len]; omega)).mono ?_
    rintro e X17 ⟨rfl, d17⟩
    have e17 : Below X16.heap.size X16 X17 := by first | exact d17 | exact al1 d17 | exact al1 (al1 d17) | exact ndr d17 | exact al1 (ndr d17) | exact al1 (al1 (al1 d17)) | exact al1 (al1 (al1 (al1 d17)))
    have hC17 := (e17.block _ ltC16).trans hC16
    have ltC17 := Nat.lt_of_lt_of_le ltC16 e17.size
    have bel17 := bel16.trans (e17.mono bel16.size)
    clear hC16 ltC16 d17 e17 bel16
    clear hmb hcv
    have y3 : X17.cell? ⟨X3.heap.size, 3, none⟩ = some (.slice none 0 0) := by rw [cell_of_row _ _ _ _ _ _ hC17]; rfl
    go_wp2
    go_ret
    first | exact ⟨rfl, bel17⟩ | exact ⟨rfl, bel17.alloc bel17.size _⟩


set_option maxHeartbeats 2000000 in
set_option maxRecDepth 100000 in
theorem refused_walk8 (n which : Int) (w : World) (hw : -9223372036854775808 ≤ which) (hw2 : which ≤ 9223372036854775807) (hp : pickI which 9 = 8) :
    Calls Tryz.prog 3 #[.int .i64 n, .int .i64 which] w fun e w' => e = .returned (.bool true) ∧ Below w.heap.size w w' := by
  have HP : Hid (pickI which 9 = 8) := hp
  clear hp
  go_enter Tryz.func3, Tryz.ntmps3
  go_wp2_with fail
  refine (ran_any _).mono ?_
  rintro e w1 ⟨rfl, b1⟩
  go_wp2_with fail
  refine (delay_own _ _).mono ?_
  rintro e w2 ⟨L, O, rfl, hL, hO, lL, lO, lL2, lO2, hLO, b2⟩
  go_wp2_with fail
  refine (pick_to _ hw hw2 (by omega) (by omega) HP.out).mono ?_
  rintro e w3 ⟨rfl, e3⟩
  obtain rfl := e3.symm
  have B2 : Below w.heap.size w w2 := b1.trans (b2.mono b1.size)
  have s2 := b2.size
  have s1 := b1.size
  have hmk5 := makeG31
  obtain ⟨pL, pO⟩ := delay_lists hL hO
  go_wp2_with fail
  refine (write_bad (w := w) (B := w2.heap.size) (bn := 1) (ls := [(2, 0)]) (gs := (List.replicate 31 (0, 0))) (os := [4]) ⟨by omega, by simp <;> omega, alloc_old (alloc_blk _ _ _ rfl), (pL.alloc_any _).alloc_any _, made_pairs _ 31 _ _ (by simp), (pO.alloc_any _).alloc_any _, bad_8, (B2.alloc (by omega) _).alloc (by simp; omega) _⟩).mono ?_
  rintro e X1 ⟨rfl, bad0⟩
  clear hL hO lL lO lL2 lO2 hLO b1 b2 s1 s2 B2 pL pO
  obtain ⟨bn, la, ga, oa, lc, gc, oc, ls, gs, os, bad1⟩ : ∃ bn la ga oa lc gc oc ls gs os, BadAt w X1 w2.heap.size bn la ga oa lc gc oc ls gs os := ⟨_, _, _, _, _, _, _, _, _, _, bad0⟩
  have g0 := bad1.c0
  have g1 := bad1.c1
  have g2 := bad1.c2
  have g3 := bad1.c3
  have lt1 := bad1.lt
  go_wp2_with fail
  refine (run_wrong _ _ _ _ _ _ _ ls gs os _ _ (by first | exact bad1.hL | exact (bad1.alloc _).hL | exact ((bad1.alloc _).alloc _).hL | exact (((bad1.alloc _).alloc _).alloc _).hL) (by first | exact bad1.hG | exact (bad1.alloc _).hG | exact ((bad1.alloc _).alloc _).hG | exact (((bad1.alloc _).alloc _).alloc _).hG) (by first | exact bad1.hO | exact (bad1.alloc _).hO | exact ((bad1.alloc _).alloc _).hO | exact (((bad1.alloc _).alloc _).alloc _).hO) bad1.bad).mono ?_
  rintro e X2 ⟨rfl, d2⟩
  have e2 : Below X1.heap.size X1 X2 := by first | exact d2 | exact al1 d2 | exact al1 (al1 d2) | exact al1 (al1 (al1 d2)) | exact al1 (al1 (al1 (al1 d2)))
  have bad2 := bad1.below e2
  clear bad1 g0 g1 g2 g3 lt1 d2 e2
  have g0 := bad2.c0
  have g1 := bad2.c1
  have g2 := bad2.c2
  have g3 := bad2.c3
  have lt1 := bad2.lt
  go_wp2_with fail
  refine (slim_wrong _ _ _ _ _ _ _ ls gs os _ (by first | exact bad2.hL | exact (bad2.alloc _).hL | exact ((bad2.alloc _).alloc _).hL | exact (((bad2.alloc _).alloc _).alloc _).hL) (by first | exact bad2.hG | exact (bad2.alloc _).hG | exact ((bad2.alloc _).alloc _).hG | exact (((bad2.alloc _).alloc _).alloc _).hG) (by first | exact bad2.hO | exact (bad2.alloc _).hO | exact ((bad2.alloc _).alloc _).hO | exact (((bad2.alloc _).alloc _).alloc _).hO) bad2.bad).mono ?_
  rintro e X3 ⟨rfl, d3⟩
  have e3 : Below X2.heap.size X2 X3 := by first | exact d3 | exact al1 d3 | exact al1 (al1 d3) | exact al1 (al1 (al1 d3)) | exact al1 (al1 (al1 (al1 d3)))
  have bad3 := bad2.below e3
  clear bad2 g0 g1 g2 g3 lt1 d3 e3
  have g0 := bad3.c0
  have g1 := bad3.c1
  have g2 := bad3.c2
  have g3 := bad3.c3
  have lt1 := bad3.lt
  go_wp2_with fail
  refine (chances_wrong _ _ _ _ _ _ _ _ ls gs os _ (by first | exact bad3.hL | exact (bad3.alloc _).hL | exact ((bad3.alloc _).alloc _).hL | exact (((bad3.alloc _).alloc _).alloc _).hL) (by first | exact bad3.hG | exact (bad3.alloc _).hG | exact ((bad3.alloc _).alloc _).hG | exact (((bad3.alloc _).alloc _).alloc _).hG) (by first | exact bad3.hO | exact (bad3.alloc _).hO | exact ((bad3.alloc _).alloc _).hO | exact (((bad3.alloc _).alloc _).alloc _).hO) bad3.bad).mono ?_
  rintro e X4 ⟨rfl, d4⟩
  have hC4 : X4.heap[X3.heap.size]? = some (.cells #[.int .i64 0, .slice none 0 0, .slice none 0 0, .slice none 0 0] 27 (0, 0)) := (d4.block _ (by simp)).trans (by first | exact alloc_blk _ _ _ rfl | exact (alloc_old (alloc_blk _ _ _ rfl)))
  have ltC4 : X3.heap.size < X4.heap.size := Nat.lt_of_lt_of_le (by simp) d4.size
  have e4 : Below X3.heap.size X3 X4 := by first | exact d4 | exact al1 d4 | exact al1 (al1 d4) | exact al1 (al1 (al1 d4)) | exact al1 (al1 (al1 (al1 d4)))
  have bad4 := bad3.below e4
  clear bad3 g0 g1 g2 g3 lt1 d4 e4
  have g0 := bad4.c0
  have g1 := bad4.c1
  have g2 := bad4.c2
  have g3 := bad4.c3
  have lt1 := bad4.lt
  go_wp2_with fail
  refine (compare_wrongA _ _ _ _ _ _ _ _ _ _ _ _ _ _ ls gs [] [] os [] _ (by first | exact bad4.hL | exact (bad4.alloc _).hL | exact ((bad4.alloc _).alloc _).hL | exact (((bad4.alloc _).alloc _).alloc _).hL) (by first | exact bad4.hG | exact (bad4.alloc _).hG | exact ((bad4.alloc _).alloc _).hG | exact (((bad4.alloc _).alloc _).alloc _).hG) (by first | exact bad4.hO | exact (bad4.alloc _).hO | exact ((bad4.alloc _).alloc _).hO | exact (((bad4.alloc _).alloc _).alloc _).hO) bad4.bad).mono ?_
  rintro e X5 ⟨rfl, d5⟩
  have e5 : Below X4.heap.size X4 X5 := by first | exact d5 | exact al1 d5 | exact al1 (al1 d5) | exact al1 (al1 (al1 d5)) | exact al1 (al1 (al1 (al1 d5)))
  have bad5 := bad4.below e5
  have hC5 := (e5.block _ ltC4).trans hC4
  have ltC5 := Nat.lt_of_lt_of_le ltC4 e5.size
  clear hC4 ltC4
  clear bad4 g0 g1 g2 g3 lt1 d5 e5
  have g0 := bad5.c0
  have g1 := bad5.c1
  have g2 := bad5.c2
  have g3 := bad5.c3
  have lt1 := bad5.lt
  go_wp2_with fail
  refine (compare_wrongB _ _ _ _ _ _ _ _ _ _ _ _ _ _ [] [] ls gs [] os _ (.inl rfl) (.inl rfl) (.inl rfl) (by first | exact bad5.hL | exact (bad5.alloc _).hL | exact ((bad5.alloc _).alloc _).hL | exact (((bad5.alloc _).alloc _).alloc _).hL) (by first | exact bad5.hG | exact (bad5.alloc _).hG | exact ((bad5.alloc _).alloc _).hG | exact (((bad5.alloc _).alloc _).alloc _).hG) (by first | exact bad5.hO | exact (bad5.alloc _).hO | exact ((bad5.alloc _).alloc _).hO | exact (((bad5.alloc _).alloc _).alloc _).hO) (by decide) bad5.bad).mono ?_
  rintro e X6 ⟨rfl, d6⟩
  have e6 : Below X5.heap.size X5 X6 := by first | exact d6 | exact al1 d6 | exact al1 (al1 d6) | exact al1 (al1 (al1 d6)) | exact al1 (al1 (al1 (al1 d6)))
  have bad6 := bad5.below e6
  have hC6 := (e6.block _ ltC5).trans hC5
  have ltC6 := Nat.lt_of_lt_of_le ltC5 e6.size
  clear hC5 ltC5
  clear bad5 g0 g1 g2 g3 lt1 d6 e6
  have g0 := bad6.c0
  have g1 := bad6.c1
  have g2 := bad6.c2
  have g3 := bad6.c3
  have lt1 := bad6.lt
  go_wp2_with fail
  have bel6 := bad6.bel
  clear bad6 g0 g1 g2 g3 lt1
  refine (delay_own _ _).mono ?_
  rintro e X7 ⟨L7, O7, rfl, hL7, hO7, _, _, _, _, _, d7⟩
  obtain ⟨pL7, pO7⟩ := delay_lists hL7 hO7
  clear hL7 hO7
  have e7 : Below X6.heap.size X6 X7 := by first | exact d7 | exact al1 d7 | exact al1 (al1 d7) | exact al1 (al1 (al1 d7)) | exact al1 (al1 (al1 (al1 d7)))
  have hC7 := (e7.block _ ltC6).trans hC6
  have ltC7 := Nat.lt_of_lt_of_le ltC6 e7.size
  have bel7 := bel6.trans (e7.mono bel6.size)
  clear hC6 ltC6 d7 e7 bel6
  go_wp2_with fail
  obtain ⟨q, hq⟩ : ∃ q, outI n 2 = q := ⟨_, rfl⟩
  have hq2 := outI_not (c := n) (n := 2)
  rw [hq] at hq2
  have HQ2 : Hid (outI n 2 = q) := hq
  have HI2 : Hid (inputsB 1 [0, q] = false) := inputs_bad hq2
  clear hq hq2
  refine (outside_is _ (by omega) (by omega) HQ2.out).mono ?_
  rintro e w5 ⟨rfl, e5⟩
  obtain rfl := e5.symm
  go_wp2_with fail
  refine (run_inputs 1 _ none _ _ _ _ _ _ [(2, 0)] [] [4] [0, q] _ (by simp [maxLen]) (pL7.alloc_any _) (.inl rfl) (pO7.alloc_any _) (ints2 _ _ _ _ rfl) (by decide) HI2.out).mono ?_
  rintro e X8 ⟨rfl, d8⟩
  have e8 : Below X7.heap.size X7 X8 := by first | exact d8 | exact al1 d8 | exact al1 (al1 d8) | exact al1 (al1 (al1 d8)) | exact al1 (al1 (al1 (al1 d8)))
  have hC8 := (e8.block _ ltC7).trans hC7
  have ltC8 := Nat.lt_of_lt_of_le ltC7 e8.size
  have bel8 := bel7.trans (e8.mono bel7.size)
  clear hC7 ltC7 d8 e8 bel7
  clear pL7 pO7 HQ2 HI2
  go_wp2_with fail
  have hmk := make51
  go_region_held3 (fun _ => True) (trivial) (first
    | (go_at_call 5; refine (delay_own _ _).mono ?_; rintro e X9 ⟨L9, O9, rfl, hL9, hO9, _, _, _, _, _, d9⟩; obtain ⟨pL9, pO9⟩ := delay_lists hL9 hO9)
    | (go_at_call 9; refine (run_51 _ _ _ _ (by first | exact pL9 | exact pL9.alloc_any _) (by first | exact pO9 | exact pO9.alloc_any _) (by first | exact made_ints _ 51 _ (by omega) rfl | exact (made_ints _ 51 _ (by omega) rfl).below d9 | exact ((made_ints _ 51 _ (by omega) rfl).below (Below.refl _ _).drew).below d9)).mono ?_; rintro e X10 ⟨rfl, d10⟩)
    | fail)
  all_goals
    have e9 : Below X8.heap.size X8 X9 := by first | exact d9 | exact al1 d9 | exact al1 (al1 d9) | exact ndr d9 | exact al1 (ndr d9) | exact al1 (al1 (al1 d9)) | exact al1 (al1 (al1 (al1 d9)))
    have hC9 := (e9.block _ ltC8).trans hC8
    have ltC9 := Nat.lt_of_lt_of_le ltC8 e9.size
    have bel9 := bel8.trans (e9.mono bel8.size)
    clear hC8 ltC8 d9 e9 bel8
    have e10 : Below X9.heap.size X9 X10 := by first | exact d10 | exact al1 d10 | exact al1 (al1 d10) | exact ndr d10 | exact al1 (ndr d10) | exact al1 (al1 (al1 d10)) | exact al1 (al1 (al1 (al1 d10)))
    have hC10 := (e10.block _ ltC9).trans hC9
    have ltC10 := Nat.lt_of_lt_of_le ltC9 e10.size
    have bel10 := bel9.trans (e10.mono bel9.size)
    clear hC9 ltC9 d10 e10 bel9
    clear pL9 pO9 hL9 hO9
    go_wp2_with fail
    refine (delay_own _ _).mono ?_
    rintro e X11 ⟨L11, O11, rfl, hL11, hO11, _, _, _, _, _, d11⟩
    obtain ⟨pL11, pO11⟩ := delay_lists hL11 hO11
    clear hL11 hO11
    have e11 : Below X10.heap.size X10 X11 := by first | exact d11 | exact al1 d11 | exact al1 (al1 d11) | exact ndr d11 | exact al1 (ndr d11) | exact al1 (al1 (al1 d11)) | exact al1 (al1 (al1 (al1 d11)))
    have hC11 := (e11.block _ ltC10).trans hC10
    have ltC11 := Nat.lt_of_lt_of_le ltC10 e11.size
    have bel11 := bel10.trans (e11.mono bel10.size)
    clear hC10 ltC10 d11 e11 bel10
    go_wp2_with fail
    obtain ⟨m, hm⟩ : ∃ m, outI (wrap64 (n - 1)) 10 = m := ⟨_, rfl⟩
    have HM : Hid (outI (wrap64 (n - 1)) 10 = m) := hm
    have HS : Hid (wrap64 (m + 1) < 1 ∨ 10 < wrap64 (m + 1)) := steps_bad hm
    clear hm
    refine (outside_is _ (by omega) (by omega) HM.out).mono ?_
    rintro e w6 ⟨rfl, e6⟩
    obtain rfl := e6.symm
    go_wp2_with fail
    refine (chances_steps 1 _ _ none _ _ _ _ [(2, 0)] [] [4] _ (by first | exact pL11 | exact pL11.alloc_any _ | exact (pL11.alloc_any _).alloc_any _) (.inl rfl) (by first | exact pO11 | exact pO11.alloc_any _ | exact (pO11.alloc_any _).alloc_any _) (by decide) HS.out).mono ?_
    rintro e X12 ⟨rfl, d12⟩
    have e12 : Below X11.heap.size X11 X12 := by first | exact d12 | exact al1 d12 | exact al1 (al1 d12) | exact ndr d12 | exact al1 (ndr d12) | exact al1 (al1 (al1 d12)) | exact al1 (al1 (al1 (al1 d12)))
    have hC12 := (e12.block _ ltC11).trans hC11
    have ltC12 := Nat.lt_of_lt_of_le ltC11 e12.size
    have bel12 := bel11.trans (e12.mono bel11.size)
    clear hC11 ltC11 d12 e12 bel11
    clear pL11 pO11 HM HS
    go_wp2_with fail
    refine (delay_own _ _).mono ?_
    rintro e X13 ⟨L13, O13, rfl, hL13, hO13, _, _, _, _, _, d13⟩
    obtain ⟨pL13, pO13⟩ := delay_lists hL13 hO13
    clear hL13 hO13
    have e13 : Below X12.heap.size X12 X13 := by first | exact d13 | exact al1 d13 | exact al1 (al1 d13) | exact ndr d13 | exact al1 (ndr d13) | exact al1 (al1 (al1 d13)) | exact al1 (al1 (al1 (al1 d13)))
    have hC13 := (e13.block _ ltC12).trans hC12
    have ltC13 := Nat.lt_of_lt_of_le ltC12 e13.size
    have bel13 := bel12.trans (e13.mono bel12.size)
    clear hC12 ltC12 d13 e13 bel12
    go_wp2_with fail
    refine (compare_outputs 1 _ none _ none none none _ _ _ _ _ _ [(2, 0)] [] [] [] [4] [] _ (by first | exact pL13 | exact pL13.alloc_any _ | exact (pL13.alloc_any _).alloc_any _) (.inl rfl) (by first | exact pO13 | exact pO13.alloc_any _ | exact (pO13.alloc_any _).alloc_any _) (.inl rfl) (.inl rfl) (.inl rfl) (by decide) (by decide) (by decide)).mono ?_
    rintro e X14 ⟨rfl, d14⟩
    have e14 : Below X13.heap.size X13 X14 := by first | exact d14 | exact al1 d14 | exact al1 (al1 d14) | exact ndr d14 | exact al1 (ndr d14) | exact al1 (al1 (al1 d14)) | exact al1 (al1 (al1 (al1 d14)))
    have hC14 := (e14.block _ ltC13).trans hC13
    have ltC14 := Nat.lt_of_lt_of_le ltC13 e14.size
    have bel14 := bel13.trans (e14.mono bel13.size)
    clear hC13 ltC13 d14 e14 bel13
    clear pL13 pO13
    go_wp2_with fail
    refine (delay_own _ _).mono ?_
    rintro e X15 ⟨L15, O15, rfl, hL15, hO15, _, _, _, _, _, d15⟩
    obtain ⟨pL15, pO15⟩ := delay_lists hL15 hO15
    clear hL15 hO15
    have e15 : Below X14.heap.size X14 X15 := by first | exact d15 | exact al1 d15 | exact al1 (al1 d15) | exact ndr d15 | exact al1 (ndr d15) | exact al1 (al1 (al1 d15)) | exact al1 (al1 (al1 (al1 d15)))
    have hC15 := (e15.block _ ltC14).trans hC14
    have ltC15 := Nat.lt_of_lt_of_le ltC14 e15.size
    have bel15 := bel14.trans (e15.mono bel14.size)
    clear hC14 ltC14 d15 e15 bel14
    go_wp2_with fail
    refine (compare_inputs 1 0 _ none _ none none _ _ _ _ _ _ _ [(2, 0)] [] [] [] [4] [0] _ (by first | exact pL15 | exact pL15.alloc_any _ | exact (pL15.alloc_any _).alloc_any _) (.inl rfl) (by first | exact pO15 | exact pO15.alloc_any _ | exact (pO15.alloc_any _).alloc_any _) (.inl rfl) (.inl rfl) (by first | exact ints1 _ _ _ rfl | exact (ints1 _ _ _ rfl).alloc_any _) (by decide) (by decide) (by decide)).mono ?_
    rintro e X16 ⟨rfl, d16⟩
    have e16 : Below X15.heap.size X15 X16 := by first | exact d16 | exact al1 d16 | exact al1 (al1 d16) | exact ndr d16 | exact al1 (ndr d16) | exact al1 (al1 (al1 d16)) | exact al1 (al1 (al1 (al1 d16)))
    have hC16 := (e16.block _ ltC15).trans hC15
    have ltC16 := Nat.lt_of_lt_of_le ltC15 e16.size
    have bel16 := bel15.trans (e16.mono bel15.size)
    clear hC15 ltC15 d16 e16 bel15
    clear pL15 pO15
    have hmb := make1001
    have hcv := fun o => conv1001 (X16.alloc o) (X16.heap.size + 1) (by simp)
    go_wp2_with fail
    refine (latchRead_long z1001 _ (by rw [z1001_len]; omega) (by rw [z1001_len]; omega)).mono ?_
    rintro e X17 ⟨rfl, d17⟩
    have e17 : Below X16.heap.size X16 X17 := by first | exact d17 | exact al1 d17 | exact al1 (al1 d17) | exact ndr d17 | exact al1 (ndr d17) | exact al1 (al1 (al1 d17)) | exact al1 (al1 (al1 (al1 d17)))
    have hC17 := (e17.block _ ltC16).trans hC16
    have ltC17 := Nat.lt_of_lt_of_le ltC16 e17.size
    have bel17 := bel16.trans (e17.mono bel16.size)
    clear hC16 ltC16 d17 e17 bel16
    clear hmb hcv
    have y3 : X17.cell? ⟨X3.heap.size, 3, none⟩ = some (.slice none 0 0) := by rw [cell_of_row _ _ _ _ _ _ hC17]; rfl
    go_wp2
    go_ret
    first | exact ⟨rfl, bel17⟩ | exact ⟨rfl, bel17.alloc bel17.size _⟩

end Go.Proofs.YtgpaajdfkekjiabGreatDoor
