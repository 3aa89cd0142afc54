/-
  The walk of the statement Back of package latchkeep.
-/
import Derived.Test.YtgpaajdfkekjiaaDoorBackR
import Derived.Deep.DeepCutAuto
namespace Go.Proofs.YtgpaajdfkekjiaaDoor
open Go.RowKit
attribute [local go_sem ↓] Go.wp_at_zero Go.wp_at_succ

theorem txt_le {n : Nat} {ls gs : List (Int × Int)} {os : List Int} (hr : rightB n ls gs os = true) : (txt n ls gs os).length ≤ 500 := by
  have s := small_of hr
  have r := (rightB_pos hr).1
  have a := txtHead_len s
  have b := txtIn_len n (by omega)
  have c := txtLatch_len s ls.length (Nat.le_refl _)
  have d := txtOut_len s os.length (Nat.le_refl _)
  have e := txtGate_len s gs.length (Nat.le_refl _)
  unfold txt
  simp only [List.length_append]
  omega
theorem bcut (y : List UInt8) (k : Nat) (hk : k = y.length) (z : List UInt8) : (⟨(y ++ z).toArray⟩ : ByteArray).extract 0 k = ⟨y.toArray⟩ := by
  subst hk
  apply ByteArray.ext
  rw [ByteArray.data_extract]
  show (y ++ z).toArray.extract 0 y.length = y.toArray
  rw [List.extract_toArray]
  simp [List.extract]
theorem badd (y z : List UInt8) : (⟨y.toArray⟩ : ByteArray) ++ ⟨z.toArray⟩ = ⟨(y ++ z).toArray⟩ := by
  apply ByteArray.ext
  rw [ByteArray.data_append]
  simp
theorem keep_box4 {w1 : World} {b b' : Nat} (hne : b' ≠ b) (v0 v1 v2 v3 : Value) (i : Nat) : (box4 w1 b v0 v1 v2 v3).cell? ⟨b', i, none⟩ = w1.cell? ⟨b', i, none⟩ := by
  apply World.cell?_of_block
  unfold box4
  show ((((w1.setCell _ _).setCell _ _).setCell _ _).setCell _ _).heap[b']? = w1.heap[b']?
  rw [Deep.blk_setCell_other _ _ _ _ hne, Deep.blk_setCell_other _ _ _ _ hne, Deep.blk_setCell_other _ _ _ _ hne, Deep.blk_setCell_other _ _ _ _ hne]

theorem keep_chain {w1 : World} {b b' : Nat} (hne : b' ≠ b) (v0 v1 v2 v3 : Value) (i : Nat) : ((((w1.setCell ⟨b, 0, none⟩ v0).setCell ⟨b, 1, none⟩ v1).setCell ⟨b, 2, none⟩ v2).setCell ⟨b, 3, none⟩ v3).cell? ⟨b', i, none⟩ = w1.cell? ⟨b', i, none⟩ := keep_box4 hne v0 v1 v2 v3 i

set_option maxHeartbeats 4000000 in
set_option maxRecDepth 100000 in
theorem back_walk (r0 n m : Int) (la ga oa : Option Addr) (lc gc oc : Nat) (rl rg : List (Int × Int)) (ro : List Int) (S : List UInt8) (w : World) (hLib : Lib0 w) (hml : ro.length ≤ maxLen) (hS : S.length < 9223372036854775808)
    (hn : FitsK n) (hm : FitsK m) (hL : PairsAt w la rl) (hG : PairsAt w ga rg) (hO : IntsAt w oa ro)
    (fL : ∀ i, i < rl.length → FitsK (rl.getD i (0, 0)).1 ∧ FitsK (rl.getD i (0, 0)).2) (fG : ∀ i, i < rg.length → FitsK (rg.getD i (0, 0)).1 ∧ FitsK (rg.getD i (0, 0)).2) (fO : ∀ i, i < ro.length → FitsK (ro.getD i 0)) :
    Calls Tryd.prog 3 #[.agg #[.int .i64 r0, .slice la rl.length lc, .slice ga rg.length gc, .slice oa ro.length oc], .int .i64 n, .int .i64 m, .string ⟨S.toArray⟩] w fun e w' => e = .returned (.bool true) ∧ Below w.heap.size w w' := by
  obtain ⟨hn1, hn2⟩ := hn
  obtain ⟨hm1, hm2⟩ := hm
  obtain ⟨N, hN⟩ := Int.eq_ofNat_of_zero_le (pickI_bd n 5 (by omega)).1
  obtain ⟨O, hO'⟩ := Int.eq_ofNat_of_zero_le (pickI_bd m 5 (by omega)).1
  have hN4 : N ≤ 4 := by have := (pickI_bd n 5 (by omega)).2; omega
  have hO4 : O ≤ 4 := by have := (pickI_bd m 5 (by omega)).2; omega
  have HN : Hid (pickI n 5 = N) := hN
  have HM : Hid (pickI m 5 = O) := hO'
  clear hN hO'
  obtain ⟨W1, hW1⟩ : ∃ W1, W1 = w.alloc (.cells #[.int .i64 r0, .slice la rl.length lc, .slice ga rg.length gc, .slice oa ro.length oc] 26) := ⟨_, rfl⟩
  have b1 : Below w.heap.size w W1 := by rw [hW1]; exact (Below.refl _ _).alloc (Nat.le_refl _) _
  have s1 : W1.heap.size = w.heap.size + 1 := by rw [hW1]; simp
  have bx : W1.heap[w.heap.size]? = some (.cells #[.int .i64 r0, .slice la rl.length lc, .slice ga rg.length gc, .slice oa ro.length oc] 26 (0, 0)) := by rw [hW1]; exact heap_alloc_new _ _
  have q0 : W1.cell? ⟨w.heap.size, 0, none⟩ = some (.int .i64 r0) := by rw [cell_of_row _ _ _ _ _ _ bx]; rfl
  have q1 : W1.cell? ⟨w.heap.size, 1, none⟩ = some (.slice la rl.length lc) := by rw [cell_of_row _ _ _ _ _ _ bx]; rfl
  have q2 : W1.cell? ⟨w.heap.size, 2, none⟩ = some (.slice ga rg.length gc) := by rw [cell_of_row _ _ _ _ _ _ bx]; rfl
  have q3 : W1.cell? ⟨w.heap.size, 3, none⟩ = some (.slice oa ro.length oc) := by rw [cell_of_row _ _ _ _ _ _ bx]; rfl
  have y0 : w.heap.size < W1.heap.size := by omega
  have hL1 := hL.below b1
  have hG1 := hG.below b1
  have hO1 := hO.below b1
  have HS1 : Hid (W1.heap.size = w.heap.size + 1) := s1
  clear s1
  have cA := circuit_any r0 la ga oa lc gc oc rl rg ro N O W1.drew hN4 hO4 hml hL1 hG1 hO1 fL fG fO
  have bZ : Below W1.heap.size W1 (W1.alloc (.cells #[.int .i64 0, .slice none 0 0, .slice none 0 0, .slice none 0 0] 26)).drew := ((Below.refl _ _).alloc (Nat.le_refl _) _).drew
  have cB := circuit_any r0 la ga oa lc gc oc rl rg ro N O (W1.alloc (.cells #[.int .i64 0, .slice none 0 0, .slice none 0 0, .slice none 0 0] 26)).drew hN4 hO4 hml (hL1.below bZ) (hG1.below bZ) (hO1.below bZ) fL fG fO
  have yB : W1.heap.size < (W1.alloc (.cells #[.int .i64 0, .slice none 0 0, .slice none 0 0, .slice none 0 0] 26)).drew.heap.size := by show W1.heap.size < (W1.heap.push _).size; simp
  have y1 : w.heap.size < (W1.alloc (.cells #[.int .i64 0, .slice none 0 0, .slice none 0 0, .slice none 0 0] 26)).drew.heap.size := by show w.heap.size < (W1.heap.push _).size; simp; omega
  go_enter Tryd.func3, Tryd.ntmps3
  go_upto_region 1 with fail
  rw [← hW1]
  clear hW1
  go_cut [9] (fun p wx => MadeC w wx p N (cL N rl rg) (cG N rl rg) (cO N rl rg ro O))
  case first =>
    go_region_held3 (fun w' => w'.cell? ⟨w.heap.size, 0, none⟩ = some (.int .i64 r0) ∧ w'.cell? ⟨w.heap.size, 1, none⟩ = some (.slice la rl.length lc) ∧ w'.cell? ⟨w.heap.size, 2, none⟩ = some (.slice ga rg.length gc) ∧ w'.cell? ⟨w.heap.size, 3, none⟩ = some (.slice oa ro.length oc))
      (first | (with_reducible exact ⟨(kk 0).trans q0, (kk 1).trans q1, (kk 2).trans q2, (kk 3).trans q3⟩) | (with_reducible exact ⟨(keep_chain (Nat.ne_of_lt y0) _ _ _ _ 0).trans ((kk 0).trans q0), (keep_chain (Nat.ne_of_lt y0) _ _ _ _ 1).trans ((kk 1).trans q1), (keep_chain (Nat.ne_of_lt y0) _ _ _ _ 2).trans ((kk 2).trans q2), (keep_chain (Nat.ne_of_lt y0) _ _ _ _ 3).trans ((kk 3).trans q3)⟩) | (with_reducible exact ⟨(World.cell?_alloc_past _ _ _ zz).trans ((kk 0).trans q0), (World.cell?_alloc_past _ _ _ zz).trans ((kk 1).trans q1), (World.cell?_alloc_past _ _ _ zz).trans ((kk 2).trans q2), (World.cell?_alloc_past _ _ _ zz).trans ((kk 3).trans q3)⟩) | go_keep)
      (first | (go_at_call_of 8 (Value.int IntKind.i64 n); refine (pick_to _ hn1 hn2 (by omega) (by omega) HN.out).mono ?_; rintro e w' ⟨rfl, rfl⟩) | (go_at_call_of 8 (Value.int IntKind.i64 m); refine (pick_to _ hm1 hm2 (by omega) (by omega) HM.out).mono ?_; rintro e w' ⟨rfl, rfl⟩) | (go_at_call 7; (with_reducible refine cA.mono ?_); rintro e w1 ⟨lv, gv, ov, rfl, oL, oG, oO, d1, d2, d3, bb⟩; obtain ⟨la', ln', lc', rfl⟩ := own_slice oL; obtain ⟨ga', gn', gc', rfl⟩ := own_slice oG; obtain ⟨oa', on', oc', rfl⟩ := own_slice oO; obtain ⟨cc, ff⟩ := bcell bb; have zz : w.heap.size < w1.heap.size := Nat.lt_of_lt_of_le y0 bb.size; have kk : ∀ i, w1.cell? ⟨w.heap.size, i, none⟩ = W1.cell? ⟨w.heap.size, i, none⟩ := (fun i => cc _ _ y0); have AA := made_after (w := w) (N := N) (V := W1.drew) b1.drew oL oG oO d1 d2 d3 bb) | (go_at_call 7; (with_reducible refine cB.mono ?_); rintro e w1 ⟨lv, gv, ov, rfl, oL, oG, oO, d1, d2, d3, bb⟩; obtain ⟨la', ln', lc', rfl⟩ := own_slice oL; obtain ⟨ga', gn', gc', rfl⟩ := own_slice oG; obtain ⟨oa', on', oc', rfl⟩ := own_slice oO; obtain ⟨cc, ff⟩ := bcell bb; have zz : w.heap.size < w1.heap.size := Nat.lt_of_lt_of_le y1 bb.size; have kk : ∀ i, w1.cell? ⟨w.heap.size, i, none⟩ = W1.cell? ⟨w.heap.size, i, none⟩ := (fun i => (cc _ _ y1).trans (World.cell?_alloc_past _ _ _ y0)); have BB := made_ahead (w := w) (N := N) b1.size (show W1.heap.size < (W1.alloc (.cells #[.int .i64 0, .slice none 0 0, .slice none 0 0, .slice none 0 0] 26)).drew.heap.size from yB) (b1.trans (bZ.mono b1.size)) (heap_alloc_new _ _) oL oG oO d1 d2 d3 bb))
    all_goals
      go_wp2
      go_meet
      case rel => first | exact AA | exact BB
  case rest =>
    clear cA cB bZ y1 y0 yB q0 q1 q2 q3 bx hL1 hG1 hO1 HS1 b1 fL fG fO hn1 hn2 hm1 hm2 HN HM hL hG hO
    obtain ⟨b, la, lc, ga, gc, oa, oc, rfl, hb, bx, hL, hG, hO, bel⟩ := hcut.read
    obtain ⟨T, hT⟩ : ∃ T, T = txt N (cL N rl rg) (cG N rl rg) (cO N rl rg ro O) := ⟨_, rfl⟩
    have hr := c_right N rl rg ro O hN4 hO4
    have eS : wrS N (cL N rl rg) (cG N rl rg) (cO N rl rg ro O) = T := by rw [hT]; simp [wrS, hr]
    have eE : wrE N (cL N rl rg) (cG N rl rg) (cO N rl rg ro O) = 0 := by simp [wrE, hr]
    have wA := write_all N la ga oa lc gc oc _ _ _ wc hL hG hO
    rw [eS, eE] at wA
    have q0 : wc.cell? ⟨b, 0, none⟩ = some (.int .i64 N) := by rw [cell_of_row _ _ _ _ _ _ bx]; rfl
    have q1 : wc.cell? ⟨b, 1, none⟩ = some (.slice la (cL N rl rg).length lc) := by rw [cell_of_row _ _ _ _ _ _ bx]; rfl
    have q2 : wc.cell? ⟨b, 2, none⟩ = some (.slice ga (cG N rl rg).length gc) := by rw [cell_of_row _ _ _ _ _ _ bx]; rfl
    have q3 : wc.cell? ⟨b, 3, none⟩ = some (.slice oa (cO N rl rg ro O).length oc) := by rw [cell_of_row _ _ _ _ _ _ bx]; rfl
    have HT : Hid (T = txt N (cL N rl rg) (cG N rl rg) (cO N rl rg ro O)) := hT
    clear hT eS eE
    go_wp2_with fail
    refine wA.mono ?_
    rintro e w2 ⟨rfl, b2⟩
    clear q0 q1 q2 q3 wA
    have bel2 : Below w.heap.size w w2 := bel.trans (b2.mono bel.size)
    have hl := txt_le hr
    rw [← HT.out] at hl
    have hl14 : 14 ≤ T.length := by rw [HT.out]; exact txt_len _ _ _ _
    have hsz : ((⟨T.toArray⟩ : ByteArray).size : Int) = T.length := by rw [bsize]
    have hsz2 : (⟨T.toArray⟩ : ByteArray).size = T.length := bsize T
    have hlI : (T.length : Int) ≤ 500 := by omega
    have hlI14 : (14 : Int) ≤ (T.length : Int) := by omega
    have rA := read_back hr T HT.out (by omega) w2 (hLib.below bel2)
    go_wp2_with fail
    refine rA.mono ?_
    rintro e w3 ⟨b3, v3, ⟨la3, lc3, ga3, gc3, oa3, oc3, rfl, hL3, hG3, hO3⟩, rfl⟩
    clear rA
    have bel3 : Below w.heap.size w w3 := bel2.trans (b3.mono bel2.size)
    have bZ3 : Below w3.heap.size w3 (w3.alloc (.cells #[.int .i64 N, .slice la3 (cL N rl rg).length lc3, .slice ga3 (cG N rl rg).length gc3, .slice oa3 (cO N rl rg ro O).length oc3] 26)) := (Below.refl _ _).alloc (Nat.le_refl _) _
    have wB := write_all N la3 ga3 oa3 lc3 gc3 oc3 _ _ _ (w3.alloc (.cells #[.int .i64 N, .slice la3 (cL N rl rg).length lc3, .slice ga3 (cG N rl rg).length gc3, .slice oa3 (cO N rl rg ro O).length oc3] 26)) (hL3.below bZ3) (hG3.below bZ3) (hO3.below bZ3)
    have eS : wrS N (cL N rl rg) (cG N rl rg) (cO N rl rg ro O) = T := by rw [HT.out]; simp [wrS, hr]
    have eE : wrE N (cL N rl rg) (cG N rl rg) (cO N rl rg ro O) = 0 := by simp [wrE, hr]
    rw [eS, eE] at wB
    clear eS eE
    go_wp2_with fail
    refine wB.mono ?_
    rintro e w4 ⟨rfl, b4⟩
    clear wB
    have bel4 : Below w.heap.size w w4 := bel3.trans ((bZ3.trans (b4.mono bZ3.size)).mono bel3.size)
    obtain ⟨y, hy⟩ := ends_txt N (cL N rl rg) (cG N rl rg) (cO N rl rg ro O)
    have hyl : T.length = y.length + 1 := by rw [HT.out, hy]; simp
    have rC := read_none y (fun c line h => (less_none hy (by rw [← HT.out]; omega) h).1) w4 (hLib.below bel4) (by omega)
    have hcutS : (⟨T.toArray⟩ : ByteArray).extract 0 (T.length - 1) = ⟨y.toArray⟩ := by rw [HT.out, hy]; exact bcut y _ (by simp) [10]
    have HY : Hid (txt N (cL N rl rg) (cG N rl rg) (cO N rl rg ro O) = y ++ [10]) := hy
    have HYL : Hid (T.length = y.length + 1) := hyl
    have HC : Hid ((⟨T.toArray⟩ : ByteArray).extract 0 (T.length - 1) = ⟨y.toArray⟩) := hcutS
    clear hy hyl hcutS
    go_wp2_with fail
    rw [HC.out]
    refine rC.mono ?_
    rintro e w5 ⟨b5, line5, ans5, rfl⟩
    clear rC
    have bel5 : Below w.heap.size w w5 := bel4.trans (b5.mono bel4.size)
    have bZ5 : Below w5.heap.size w5 (w5.alloc (.cells #[.int .i64 0, .slice none 0 0, .slice none 0 0, .slice none 0 0] 26)) := (Below.refl _ _).alloc (Nat.le_refl _) _
    have hline5 : (1 : Int) ≤ (line5 : Int) := by have := (less_none HY.out (by rw [← HT.out]; omega) ans5).2; omega
    have rD := read_none (T ++ [10]) (fun c line h => more_none (by rw [← HT.out]; exact h)) (w5.alloc (.cells #[.int .i64 0, .slice none 0 0, .slice none 0 0, .slice none 0 0] 26)) ((hLib.below bel5).below bZ5) (by simp; omega)
    go_wp2_with fail
    rw [badd T [10]]
    refine rD.mono ?_
    rintro e w6 ⟨b6, line6, ans6, rfl⟩
    clear rD ans6
    have bel6 : Below w.heap.size w w6 := bel5.trans ((bZ5.trans (b6.mono bZ5.size)).mono bel5.size)
    have bZ6 : Below w6.heap.size w6 (w6.alloc (.cells #[.int .i64 0, .slice none 0 0, .slice none 0 0, .slice none 0 0] 26)) := (Below.refl _ _).alloc (Nat.le_refl _) _
    have rE := read_any S (w6.alloc (.cells #[.int .i64 0, .slice none 0 0, .slice none 0 0, .slice none 0 0] 26)) ((hLib.below bel6).below bZ6) hS
    go_wp2_with fail
    refine rE.mono ?_
    rintro e w7 ⟨b7, hres⟩
    clear rE
    have bel7 : Below w.heap.size w w7 := bel6.trans ((bZ6.trans (b7.mono bZ6.size)).mono bel6.size)
    rcases hres with ⟨line7, _, rfl⟩ | ⟨n7, ls7, gs7, os7, v7, hS7, hr7, _, ⟨la7, lc7, ga7, gc7, oa7, oc7, rfl, hL7, hG7, hO7⟩, rfl⟩
    · have bZ7 : Below w7.heap.size w7 (w7.alloc (.cells #[.int .i64 0, .slice none 0 0, .slice none 0 0, .slice none 0 0] 26)) := (Below.refl _ _).alloc (Nat.le_refl _) _
      have wC := write_all 0 none none none 0 0 0 [] [] [] (w7.alloc (.cells #[.int .i64 0, .slice none 0 0, .slice none 0 0, .slice none 0 0] 26)) (.inl rfl) (.inl rfl) (.inl rfl)
      have h0 : (0 : Int) ≤ (line7 : Int) := by omega
      go_wp2_with fail
      refine wC.mono ?_
      rintro e w8 ⟨rfl, b8⟩
      have bel8 : Below w.heap.size w w8 := bel7.trans ((bZ7.trans (b8.mono bZ7.size)).mono bel7.size)
      go_wp2
      go_ret
      exact ⟨rfl, bel8⟩
    · have bZ7 : Below w7.heap.size w7 (w7.alloc (.cells #[.int .i64 n7, .slice la7 ls7.length lc7, .slice ga7 gs7.length gc7, .slice oa7 os7.length oc7] 26)) := (Below.refl _ _).alloc (Nat.le_refl _) _
      have wC := write_all n7 la7 ga7 oa7 lc7 gc7 oc7 _ _ _ (w7.alloc (.cells #[.int .i64 n7, .slice la7 ls7.length lc7, .slice ga7 gs7.length gc7, .slice oa7 os7.length oc7] 26)) (hL7.below bZ7) (hG7.below bZ7) (hO7.below bZ7)
      have eS : wrS n7 ls7 gs7 os7 = S := by rw [hS7]; simp [wrS, hr7]
      have eE : wrE n7 ls7 gs7 os7 = 0 := by simp [wrE, hr7]
      rw [eS, eE] at wC
      clear eS eE hS7
      go_wp2_with fail
      refine wC.mono ?_
      rintro e w8 ⟨rfl, b8⟩
      have bel8 : Below w.heap.size w w8 := bel7.trans ((bZ7.trans (b8.mono bZ7.size)).mono bel7.size)
      go_wp2
      go_ret
      exact ⟨rfl, bel8⟩

end Go.Proofs.YtgpaajdfkekjiaaDoor
