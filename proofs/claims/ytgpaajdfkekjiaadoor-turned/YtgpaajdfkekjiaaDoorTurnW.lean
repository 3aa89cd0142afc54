/-
  The walk of the statement Turned of package latchkeep. Written by wip/mk_turnw.py.
-/
import Derived.Test.YtgpaajdfkekjiaaDoorCmpN
import Derived.Test.YtgpaajdfkekjiaaDoorKAll
import Derived.Test.YtgpaajdfkekjiaaDoorRan
import Derived.Test.YtgpaajdfkekjiaaDoorTurnP
namespace Go.Proofs.YtgpaajdfkekjiaaDoor
open Go.RowKit
attribute [local go_sem ↓] Go.wp_at_zero Go.wp_at_succ

theorem ivs_set (os : List Int) (i : Nat) (x : Int) : (ivs os).set i (.int .i64 x) = ivs (os.set i x) := by simp [ivs, List.map_set]
/-- One output of a circuit that was made and stands in a box of its own is written. -/
theorem made_turn {w wx : World} {p : Value} {N : Nat} {ls gs : List (Int × Int)} {os : List Int} (h : MadeC w wx p N ls gs os) {i : Nat} (hi : i < os.length) :
    ∃ b la lc ga gc g oc, p = .pointer (some ⟨b, 0, none⟩) ∧ w.heap.size ≤ b ∧ b < wx.heap.size ∧ wx.heap[b]? = some (.cells #[.int .i64 N, .slice la ls.length lc, .slice ga gs.length gc, .slice (some ⟨g, 0, none⟩) os.length oc] 26 (0, 0)) ∧
      g ≠ b ∧ w.heap.size ≤ g ∧ wx.cell? ⟨g, i, none⟩ = some (.int .i64 (os.getD i 0)) ∧ wx.frozen? ⟨g, i, none⟩ = false ∧ Below w.heap.size w wx ∧
      ∀ x : Int, PairsAt (wx.setCell ⟨g, i, none⟩ (.int .i64 x)) la ls ∧ PairsAt (wx.setCell ⟨g, i, none⟩ (.int .i64 x)) ga gs ∧ IntsAt (wx.setCell ⟨g, i, none⟩ (.int .i64 x)) (some ⟨g, 0, none⟩) (os.set i x) := by
  obtain ⟨b, lv, gv, ov, rfl, hb, bx, oL, oG, oO, d1, d2, d3, x1, x2, x3, bel⟩ := h
  obtain ⟨la, lc, rfl, _, _⟩ := own_pairs oL
  obtain ⟨ga, gc, rfl, _, _⟩ := own_pairs oG
  rcases oO.2 with ⟨_, h0⟩ | ⟨g, cap, cur, rfl, _⟩
  · omega
  have og : (Value.slice (some ⟨g, 0, none⟩) os.length cap).ownBlock = some g := rfl
  refine ⟨b, la, lc, ga, gc, g, cap, rfl, hb, (Array.getElem?_eq_some_iff.1 bx).1, bx, x3 g og, (oO.lt g og).1, ?_, oO.frozenAt i, bel, fun x => ⟨?_, ?_, ?_⟩⟩
  · rw [oO.cellAt i (by omega)]
    simp [ivs, hi]
  · obtain ⟨a, c, e, _, hh⟩ := own_pairs (ownsRow_setCell_other oL (a := ⟨g, i, none⟩) (fun e => d2 g e og) (.int .i64 x))
    cases e
    exact hh
  · obtain ⟨a, c, e, _, hh⟩ := own_pairs (ownsRow_setCell_other oG (a := ⟨g, i, none⟩) (fun e => d3 g e og) (.int .i64 x))
    cases e
    exact hh
  · have o2 := (oO.stored i (.int .i64 x)).1
    rw [ivs_set] at o2
    obtain ⟨a, c, e, _, hh⟩ := own_intlist o2
    simp only [Value.slice.injEq] at e
    obtain ⟨rfl, _, _⟩ := e
    exact hh

theorem ans_cells {w : World} {b : Nat} {v0 v1 v2 v3 : Value} {t : TypeId} (h : w.heap[b]? = some (.cells #[v0, v1, v2, v3] t (0, 0))) :
    w.cell? ⟨b, 0, none⟩ = some v0 ∧ w.cell? ⟨b, 1, none⟩ = some v1 ∧ w.cell? ⟨b, 2, none⟩ = some v2 ∧ w.cell? ⟨b, 3, none⟩ = some v3 := by
  refine ⟨?_, ?_, ?_, ?_⟩ <;> (rw [cell_of_row _ _ _ _ _ _ h]; rfl)

set_option maxHeartbeats 4000000 in
set_option maxRecDepth 100000 in
theorem turned_walk (r0 n m z : Int) (la ga oa : Option Addr) (lc gc oc : Nat) (rl rg : List (Int × Int)) (ro : List Int) (w : World) (hdb : TabDB w) (hml : ro.length ≤ maxLen)
    (hn : FitsK n) (hm : FitsK m) (hz : FitsK z) (hL : PairsAt w la rl) (hG : PairsAt w ga rg) (hO : IntsAt w oa ro)
    (fL : ∀ i, i < rl.length → FitsK (rl.getD i (0, 0)).1 ∧ FitsK (rl.getD i (0, 0)).2) (fG : ∀ i, i < rg.length → FitsK (rg.getD i (0, 0)).1 ∧ FitsK (rg.getD i (0, 0)).2) (fO : ∀ i, i < ro.length → FitsK (ro.getD i 0)) :
    Calls Tryd.prog 6 #[.agg #[.int .i64 r0, .slice la rl.length lc, .slice ga rg.length gc, .slice oa ro.length oc], .int .i64 n, .int .i64 m, .int .i64 z] w fun e w' => e = .returned (.bool true) ∧ Below w.heap.size w w' := by
  obtain ⟨hn1, hn2⟩ := hn
  obtain ⟨hm1, hm2⟩ := hm
  obtain ⟨hz1, hz2⟩ := hz
  obtain ⟨N, hN⟩ := Int.eq_ofNat_of_zero_le (pickI_bd n 5 (by omega)).1
  obtain ⟨O', hO'⟩ := Int.eq_ofNat_of_zero_le (pickI_bd m 4 (by omega)).1
  have hN4 : N ≤ 4 := by have := (pickI_bd n 5 (by omega)).2; omega
  have hO3 : O' ≤ 3 := by have := (pickI_bd m 4 (by omega)).2; omega
  obtain ⟨O, hOO⟩ : ∃ O, O = O' + 1 := ⟨_, rfl⟩
  have hO4 : O ≤ 4 := by omega
  have hO1 : 1 ≤ O := by omega
  have hsum : (1 : Int) + (O' : Int) = (O : Int) := by omega
  have hwrO : IntKind.i64.wrap (1 + (O' : Int)) = (O : Int) := by rw [wrap_i64']; omega
  obtain ⟨I, hI⟩ := Int.eq_ofNat_of_zero_le (pickI_bd z O (by omega)).1
  have hIO : I < O := by have := (pickI_bd z O (by omega)).2; omega
  have HN : Hid (pickI n 5 = N) := hN
  have HM : Hid (pickI m 4 = O') := hO'
  have HI : Hid (pickI z O = I) := hI
  clear hN hO' hI
  have HOO := hideK hOO
  clear hOO
  obtain ⟨LS, hLS⟩ : ∃ LS, LS = cL N rl rg := ⟨_, rfl⟩
  obtain ⟨GS, hGS⟩ : ∃ GS, GS = cG N rl rg := ⟨_, rfl⟩
  obtain ⟨OS, hOS⟩ : ∃ OS, OS = cO N rl rg ro O := ⟨_, rfl⟩
  have hlen : OS.length = O := by rw [hOS]; exact cO_len _ _ _ _ _
  have hr : rightB N LS GS OS = true := by rw [hLS, hGS, hOS]; exact c_right N rl rg ro O hN4 hO4
  have hll : LS.length ≤ 4 := by rw [hLS, cL_len]; omega
  have cAny : ∀ W, Below w.heap.size w W → Calls Tryd.prog 7 #[.agg #[.int .i64 r0, .slice la rl.length lc, .slice ga rg.length gc, .slice oa ro.length oc], .int .i64 N, .int .i64 O] W (CircRes W N LS GS OS) := fun W hW => by
    rw [hLS, hGS, hOS]
    exact circuit_any r0 la ga oa lc gc oc rl rg ro N O W hN4 hO4 hml (hL.below hW) (hG.below hW) (hO.below hW) fL fG fO
  have hIl : I < OS.length := by omega
  have hx := out_pos hr hIl
  obtain ⟨x, hxe⟩ := Int.eq_ofNat_of_zero_le hx.1
  have hxb : x < 9223372036854775808 := by
    have hg : GS.length ≤ 30 := by rw [hGS, cG_len]; omega
    omega
  have hxor : bits .xor .i64 (x : Int) 1 = ((x ^^^ 1 : Nat) : Int) := by have := i64_xor_nat x 1 hxb (by omega); simpa using this
  have hset : OS.set I ((x ^^^ 1 : Nat) : Int) = turnO OS I := by unfold turnO turnS; rw [hxe]; rfl
  have hr2 : rightB N LS GS (turnO OS I) = true := turn_right hr hIl
  have hII : (I : Int) < (OS.length : Int) := by omega
  have HLEN := hideK hlen
  clear hlen
  have HLS := hideK hLS
  have HGS := hideK hGS
  have HOS := hideK hOS
  have HSET := hideK hset
  have HX := hideK hx
  clear hLS hGS hOS hset hx fL fG fO hL hG hO hml
  obtain ⟨W1, hW1⟩ : ∃ W1, W1 = w.alloc (.cells #[.int .i64 r0, .slice la rl.length lc, .slice ga rg.length gc, .slice oa ro.length oc] 26) := ⟨_, rfl⟩
  have b1 : Below w.heap.size w W1 := by rw [hW1]; exact (Below.refl _ _).alloc (Nat.le_refl _) _
  have s1 : W1.heap.size = w.heap.size + 1 := by rw [hW1]; simp
  have bx : W1.heap[w.heap.size]? = some (.cells #[.int .i64 r0, .slice la rl.length lc, .slice ga rg.length gc, .slice oa ro.length oc] 26 (0, 0)) := by rw [hW1]; exact heap_alloc_new _ _
  go_enter Tryd.func6, Tryd.ntmps6
  go_upto_region 1 with fail
  rw [← hW1]
  clear hW1
  go_wp2_with fail
  refine (ran_any W1).mono ?_
  rintro e W2 ⟨rfl, b2⟩
  have B2 : Below w.heap.size w W2 := b1.trans (b2.mono b1.size)
  have bx2 := (b2.block w.heap.size (by omega)).trans bx
  obtain ⟨q0, q1, q2, q3⟩ := ans_cells bx2
  clear bx
  go_wp2_with fail
  refine (pick_to _ hn1 hn2 (by omega) (by omega) HN.out).mono ?_
  rintro e w' ⟨rfl, rfl⟩
  go_wp2_with fail
  refine (pick_to _ hm1 hm2 (by omega) (by omega) HM.out).mono ?_
  rintro e w' ⟨rfl, rfl⟩
  go_wp2_with fail
  refine (cAny _ B2).mono ?_
  rintro e W3 ⟨lv, gv, ov, rfl, oL, oG, oO, d1, d2, d3, bb⟩
  have MA := made_after (w := w) (N := N) B2 oL oG oO d1 d2 d3 bb
  have s2 := b2.size
  have bx3 := (bb.block w.heap.size (by omega)).trans bx2
  obtain ⟨la', ln', lc', rfl⟩ := own_slice oL
  obtain ⟨ga', gn', gc', rfl⟩ := own_slice oG
  obtain ⟨oa', on', oc', rfl⟩ := own_slice oO
  clear oL oG oO d1 d2 d3 q0 q1 q2 q3
  have bA : (W3.alloc (.cells #[.int .i64 N, .slice la' ln' lc', .slice ga' gn' gc', .slice oa' on' oc'] 26)).heap[W3.heap.size]? = some (.cells #[.int .i64 N, .slice la' ln' lc', .slice ga' gn' gc', .slice oa' on' oc'] 26 (0, 0)) := heap_alloc_new _ _
  have s3 := bb.size
  have bx4 : (W3.alloc (.cells #[.int .i64 N, .slice la' ln' lc', .slice ga' gn' gc', .slice oa' on' oc'] 26)).heap[w.heap.size]? = _ := (alloc_old bx3)
  obtain ⟨W4, hW4⟩ : ∃ W4, W4 = W3.alloc (.cells #[.int .i64 N, .slice la' ln' lc', .slice ga' gn' gc', .slice oa' on' oc'] 26) := ⟨_, rfl⟩
  have s4 : W4.heap.size = W3.heap.size + 1 := by rw [hW4]; simp
  rw [← hW4] at MA bA bx4
  obtain ⟨bA', la1, lc1, ga1, gc1, oa1, oc1, hp, hbA, bA1, pL, pG, pO, B4⟩ := MA.read
  cases hp
  rw [bA] at bA1
  obtain ⟨⟨rfl, rfl, rfl⟩, ⟨rfl, rfl, rfl⟩, rfl, rfl, rfl⟩ : (la' = la1 ∧ ln' = LS.length ∧ lc' = lc1) ∧ (ga' = ga1 ∧ gn' = GS.length ∧ gc' = gc1) ∧ oa' = oa1 ∧ on' = OS.length ∧ oc' = oc1 := by simpa using bA1
  clear bA1 MA
  obtain ⟨q0, q1, q2, q3⟩ := ans_cells bx4
  go_upto_region 5 with fail
  rw [← hW4]
  clear hW4
  go_wp2_with fail
  refine (cAny _ B4).mono ?_
  rintro e W5 ⟨lv, gv, ov, rfl, oL, oG, oO, d1, d2, d3, bb5⟩
  have MB := made_after (w := W4) (N := N) (Below.refl _ _) oL oG oO d1 d2 d3 bb5
  obtain ⟨lb', lnb, lcb, rfl⟩ := own_slice oL
  obtain ⟨gb', gnb, gcb, rfl⟩ := own_slice oG
  obtain ⟨ob', onb, ocb, rfl⟩ := own_slice oO
  clear oL oG oO d1 d2 d3 q0 q1 q2 q3
  obtain ⟨W6, hW6⟩ : ∃ W6, W6 = W5.alloc (.cells #[.int .i64 N, .slice lb' lnb lcb, .slice gb' gnb gcb, .slice ob' onb ocb] 26) := ⟨_, rfl⟩
  rw [← hW6] at MB
  obtain ⟨P5, hP5⟩ : ∃ P5, P5 = W5.heap.size := ⟨_, rfl⟩
  rw [← hP5] at MB
  obtain ⟨bB, lb, lbc, gb, gbc, g, obc, hp, hb0, hb1, boxB, hgb, hg0, cX, fX, b56, hafter⟩ := made_turn MB hIl
  cases hp
  go_upto_region 6 with fail
  rw [← hW6, ← hP5]
  clear hW6
  have HP5 := hideK hP5
  clear hP5
  go_wp2_with fail
  refine (pick_to _ hz1 hz2 (by omega) (by omega) HI.out).mono ?_
  rintro e w' ⟨rfl, rfl⟩
  rw [hxe] at cX
  obtain ⟨p0, p1, p2, p3⟩ := ans_cells boxB
  have HPa := hafter ((x ^^^ 1 : Nat) : Int)
  rw [HSET.out] at HPa
  obtain ⟨pLb, pGb, pOb⟩ := HPa
  have HA := hideK hafter
  clear hafter
  go_wp2_with fail
  refine wp_region_noPanic ?_
  refine wp_region_last (by kernel_rfl) (by kernel_rfl) ?_
  simp only [List.pop_toArray, List.dropLast_cons_cons, List.dropLast_singleton, List.size_toArray, List.length_cons, List.length_nil, Nat.zero_add, Nat.reduceAdd]
  refine wpAny_of_held (S := fun w0 => w0.cell? ⟨P5, 3, none⟩ = some (.slice (some ⟨g, 0, none⟩) OS.length obc) ∧ w0.cell? ⟨g, I, none⟩ = some (.int .i64 x)) _ _ _ _ ?_
  have hHeld : (fun w0 : World => w0.cell? ⟨P5, 3, none⟩ = some (.slice (some ⟨g, 0, none⟩) OS.length obc) ∧ w0.cell? ⟨g, I, none⟩ = some (.int .i64 x)) w'.drew := ⟨p3, cX⟩
  refine wpAnyH_take (i := 0) (v := ?_) (by simp only [List.getElem?_toArray, List.getElem?_cons_zero]; rfl) (by kernel_rfl) (by kernel_rfl) (by kernel_rfl) (fun _ _ _ h => h) (Or.inl ⟨by rfl, ?_⟩) hHeld ?_
  rotate_left 1
  · (intro w0 hSw; (try dsimp only at hSw); go_simp; try (with_reducible rfl))
  simp only [Act.put, List.setIfInBounds_toArray, List.set_cons_zero, List.set_cons_succ]
  refine wpAnyH_take (i := 1) (v := ?_) (by simp only [List.getElem?_toArray, List.getElem?_cons_succ, List.getElem?_cons_zero]; rfl) (by kernel_rfl) (by kernel_rfl) (by kernel_rfl) (fun _ _ _ h => h) (Or.inl ⟨by rfl, ?_⟩) hHeld ?_
  rotate_left 1
  · (intro w0 hSw; (try dsimp only at hSw); go_simp; try (with_reducible rfl))
  simp only [Act.put, List.setIfInBounds_toArray, List.set_cons_zero, List.set_cons_succ]
  refine wpAnyH_take (i := 2) (v := ?_) (by simp only [List.getElem?_toArray, List.getElem?_cons_succ, List.getElem?_cons_zero]; rfl) (by kernel_rfl) (by kernel_rfl) (by kernel_rfl) (fun _ _ _ h => h) (Or.inl ⟨by rfl, ?_⟩) hHeld ?_
  rotate_left 1
  · (intro w0 hSw; (try dsimp only at hSw); go_simp; try (with_reducible rfl))
  simp only [Act.put, List.setIfInBounds_toArray, List.set_cons_zero, List.set_cons_succ]
  refine wpAnyH_take (i := 3) (v := ?_) (by simp only [List.getElem?_toArray, List.getElem?_cons_succ, List.getElem?_cons_zero]; rfl) (by kernel_rfl) (by kernel_rfl) (by kernel_rfl) (fun _ _ _ h => h) (Or.inl ⟨by rfl, ?_⟩) hHeld ?_
  rotate_left 1
  · (intro w0 hSw; (try dsimp only at hSw); go_simp; try (with_reducible rfl))
  simp only [Act.put, List.setIfInBounds_toArray, List.set_cons_zero, List.set_cons_succ]
  refine wpAnyH_take (i := 4) (v := ?_) (by simp only [List.getElem?_toArray, List.getElem?_cons_succ, List.getElem?_cons_zero]; rfl) (by kernel_rfl) (by kernel_rfl) (by kernel_rfl) (fun _ _ _ h => h) (Or.inl ⟨by rfl, ?_⟩) hHeld ?_
  rotate_left 1
  · (intro w0 hSw; (try dsimp only at hSw); go_simp; try (with_reducible rfl))
  simp only [Act.put, List.setIfInBounds_toArray, List.set_cons_zero, List.set_cons_succ]
  refine wpAnyH_take (i := 5) (v := ?_) (by simp only [List.getElem?_toArray, List.getElem?_cons_succ, List.getElem?_cons_zero]; rfl) (by kernel_rfl) (by kernel_rfl) (by kernel_rfl) (fun _ _ _ h => h) (Or.inl ⟨by rfl, ?_⟩) hHeld ?_
  rotate_left 1
  · (intro w0 hSw; (try dsimp only at hSw); go_simp; try (with_reducible rfl))
  simp only [Act.put, List.setIfInBounds_toArray, List.set_cons_zero, List.set_cons_succ]
  refine wpAnyH_take (i := 6) (v := ?_) (by simp only [List.getElem?_toArray, List.getElem?_cons_succ, List.getElem?_cons_zero]; rfl) (by kernel_rfl) (by kernel_rfl) (by kernel_rfl) (fun _ _ _ h => h) (Or.inl ⟨by rfl, ?_⟩) hHeld ?_
  rotate_left 1
  · (intro w0 hSw; (try dsimp only at hSw); go_simp; try (with_reducible rfl))
  simp only [Act.put, List.setIfInBounds_toArray, List.set_cons_zero, List.set_cons_succ]
  refine wpAnyH_take (i := 7) (v := ?_) (by simp only [List.getElem?_toArray, List.getElem?_cons_succ, List.getElem?_cons_zero]; rfl) (by kernel_rfl) (by kernel_rfl) (by kernel_rfl) (fun _ _ _ h => h) (Or.inl ⟨by rfl, ?_⟩) hHeld ?_
  rotate_left 1
  · (intro w0 hSw; (try dsimp only at hSw); go_simp; try (with_reducible rfl))
  simp only [Act.put, List.setIfInBounds_toArray, List.set_cons_zero, List.set_cons_succ]
  refine wpAnyH_take (i := 8) (v := ?_) (by simp only [List.getElem?_toArray, List.getElem?_cons_succ, List.getElem?_cons_zero]; rfl) (by kernel_rfl) (by kernel_rfl) (by kernel_rfl) (fun _ _ _ h => h) (Or.inl ⟨by rfl, ?_⟩) hHeld ?_
  rotate_left 1
  · (intro w0 hSw; (try dsimp only at hSw); go_simp; try (with_reducible rfl))
  simp only [Act.put, List.setIfInBounds_toArray, List.set_cons_zero, List.set_cons_succ]
  refine wpAnyH_take (i := 9) (v := ?_) (by simp only [List.getElem?_toArray, List.getElem?_cons_succ, List.getElem?_cons_zero]; rfl) (by kernel_rfl) (by kernel_rfl) (by kernel_rfl) (fun _ _ _ h => h) (Or.inl ⟨by rfl, ?_⟩) hHeld ?_
  rotate_left 1
  · (intro w0 hSw; (try dsimp only at hSw); go_simp; try (with_reducible rfl))
  simp only [Act.put, List.setIfInBounds_toArray, List.set_cons_zero, List.set_cons_succ]
  refine wpAnyH_done (by kernel_rfl) ?_ _
  refine lastQ_step (by simp only [List.size_toArray, List.length_cons, List.length_nil, Nat.zero_add, Nat.reduceAdd, Nat.reduceSub, List.getElem?_toArray, List.getElem?_cons_succ, List.getElem?_cons_zero]; rfl) (fun K hK => ?_)
  go_simp
  refine hK _ _ (NoPanic.normal ?_)
  clear hK K hHeld
  obtain ⟨W7, hW7⟩ : ∃ W7, W7 = (w'.setCell ⟨g, I, none⟩ (.int .i64 ((x ^^^ 1 : Nat) : Int))).drew := ⟨_, rfl⟩
  have B7 : Below W4.heap.size W4 W7 := by rw [hW7]; exact (b56.setCell hg0 _).drew
  have zB : W7.heap[P5]? = some (.cells #[.int .i64 N, .slice lb LS.length lbc, .slice gb GS.length gbc, .slice (some ⟨g, 0, none⟩) OS.length obc] 26 (0, 0)) := by rw [hW7]; exact (Deep.blk_setCell_other _ _ _ _ (Ne.symm hgb)).trans boxB
  have zA := (B7.block W3.heap.size hbA).trans bA
  have dR : ∀ V : World, Below V.heap.size V V.drew := fun V => (Below.refl _ _).drew
  have pLb7 : PairsAt W7 lb LS := by rw [hW7]; exact pLb.below (dR _)
  have pGb7 : PairsAt W7 gb GS := by rw [hW7]; exact pGb.below (dR _)
  have pOb7 : IntsAt W7 (some ⟨g, 0, none⟩) (turnO OS I) := by rw [hW7]; exact pOb.below (dR _)
  rw [← hW7]
  clear hW7 pLb pGb pOb p0 p1 p2 p3 cX fX hxor boxB bA MB b56
  have B07 : Below w.heap.size w W7 := B4.trans (B7.mono B4.size)
  obtain ⟨A0, A1, A2, A3⟩ := ans_cells zA
  obtain ⟨D0, D1, D2, D3⟩ := ans_cells zB
  have hC := cmp_ok N LS GS OS LS GS (turnO OS I) la' ga' oa' lb gb (some ⟨g, 0, none⟩) lc' gc' oc' lbc gbc obc W7 hr hr2 (turnO_len _ _) (hdb.below B07) (pL.below B7) (pG.below B7) (pO.below B7) pLb7 pGb7 pOb7
  rw [turnO_len] at hC
  go_wp2_with fail
  refine hC.mono ?_
  rintro e W8 ⟨same, reached, trace, d, ta, tc, hs, he, ho, h256, b78⟩
  clear hC
  obtain ⟨rfl, rfl, ht⟩ := turn_says hN4 (by have := HLEN.out; omega) hIl HX.out.1 hs
  have he2 : e = .returned (.tuple #[.agg #[.bool false, .int .i64 reached, .slice ta 1 tc, .int .i64 I], .int .i64 0]) := by rw [he]; simp [ht]
  clear he hs
  subst he2
  obtain ⟨g2, hg2, hg2l, cT⟩ : ∃ g2, ta = some ⟨g2, 0, none⟩ ∧ g2 < W8.heap.size ∧ W8.cell? ⟨g2, 0, none⟩ = some (.int .i64 0) := by
    rcases ho.2 with ⟨_, h0⟩ | ⟨g2, cap, cur, hv, _⟩
    · simp at h0
    · rw [hv] at ho
      have h1 : ta = some ⟨g2, 0, none⟩ := by simp only [Value.slice.injEq] at hv; exact hv.1
      exact ⟨g2, h1, (ho.lt g2 rfl).2, by rw [own_cells ho 0 (by simp)]; rfl⟩
  subst hg2
  clear ho h256 ht
  have s7 := B7.size
  have s8 := b78.size
  have yA := (b78.block W3.heap.size (by omega)).trans zA
  have B8 : Below w.heap.size w W8 := B07.trans (b78.mono B07.size)
  have B48 : Below W4.heap.size W4 W8 := B7.trans (b78.mono B7.size)
  clear A0 A1 A2 A3 D0 D1 D2 D3 zA zB pLb7 pGb7 pOb7
  go_upto_region 9 with fail
  obtain ⟨W9, hW9⟩ : ∃ W9, W9 = W8.alloc (.cells #[.bool false, .int .i64 reached, .slice (some ⟨g2, 0, none⟩) 1 tc, .int .i64 I] 42) := ⟨_, rfl⟩
  have s9 : W9.heap.size = W8.heap.size + 1 := by rw [hW9]; simp
  have b89 : Below W8.heap.size W8 W9 := by rw [hW9]; exact (Below.refl _ _).alloc (Nat.le_refl _) _
  have xR : W9.heap[W8.heap.size]? = some (.cells #[.bool false, .int .i64 reached, .slice (some ⟨g2, 0, none⟩) 1 tc, .int .i64 I] 42 (0, 0)) := by rw [hW9]; exact heap_alloc_new _ _
  rw [← hW9]
  clear hW9
  have zA := (b89.block W3.heap.size (by omega)).trans yA
  have cT9 := (World.cell?_of_block (w := W8) (b89.block g2 hg2l)).trans cT
  have B9 : Below w.heap.size w W9 := B8.trans (b89.mono B8.size)
  have B49 : Below W4.heap.size W4 W9 := B48.trans (b89.mono B48.size)
  obtain ⟨A0, A1, A2, A3⟩ := ans_cells zA
  have hC := cmp_ok N LS GS OS LS GS OS la' ga' oa' la' ga' oa' lc' gc' oc' lc' gc' oc' W9 hr hr rfl (hdb.below B9) (pL.below B49) (pG.below B49) (pO.below B49) (pL.below B49) (pG.below B49) (pO.below B49)
  go_wp2_with fail
  refine hC.mono ?_
  rintro e W10 ⟨same, reached2, trace2, d2, ta2, tc2, hs, he, ho, h256, b910⟩
  clear hC
  obtain ⟨rfl, hr1, hr16, rfl, rfl⟩ := says_self hll hs
  have he2 : e = .returned (.tuple #[.agg #[.bool true, .int .i64 reached2, .slice ta2 0 tc2, .int .i64 0], .int .i64 0]) := by rw [he]; simp
  clear he hs ho h256
  subst he2
  have s10 := b910.size
  have B10 : Below w.heap.size w W10 := B9.trans (b910.mono B9.size)
  have yR := (b910.block W8.heap.size (by omega)).trans xR
  have cT10 := (World.cell?_of_block (w := W9) (b910.block g2 (by omega))).trans cT9
  clear A0 A1 A2 A3
  go_upto_region 10 with fail
  obtain ⟨W11, hW11⟩ : ∃ W11, W11 = W10.alloc (.cells #[.bool true, .int .i64 reached2, .slice ta2 0 tc2, .int .i64 0] 42) := ⟨_, rfl⟩
  have b1011 : Below W10.heap.size W10 W11 := by rw [hW11]; exact (Below.refl _ _).alloc (Nat.le_refl _) _
  have xS : W11.heap[W10.heap.size]? = some (.cells #[.bool true, .int .i64 reached2, .slice ta2 0 tc2, .int .i64 0] 42 (0, 0)) := by rw [hW11]; exact heap_alloc_new _ _
  rw [← hW11]
  clear hW11
  have zR := (b1011.block W8.heap.size (by omega)).trans yR
  have cT11 := (World.cell?_of_block (w := W10) (b1011.block g2 (by omega))).trans cT10
  have B11 : Below w.heap.size w W11 := B10.trans (b1011.mono B10.size)
  obtain ⟨A0, A1, A2, A3⟩ := ans_cells zR
  obtain ⟨D0, D1, D2, D3⟩ := ans_cells xS
  have hI1 : (1 : Int) ≤ (reached2 : Int) := by omega
  have hI2 : (reached2 : Int) ≤ 16 := by omega
  go_wp2
  go_ret
  exact ⟨rfl, B11⟩
end Go.Proofs.YtgpaajdfkekjiaaDoor
