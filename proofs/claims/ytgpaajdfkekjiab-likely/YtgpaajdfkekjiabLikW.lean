/-
  The walk of the statement Likely of package latchkeep. Written by wip/mk_likw.py.
-/
import Derived.Test.YtgpaajdfkekjiabKAll
import Derived.Test.YtgpaajdfkekjiabRan
import Derived.Test.YtgpaajdfkekjiabChOk
import Derived.Test.YtgpaajdfkekjiabLikP
namespace Go.Proofs.Ytgpaajdfkekjiab
open Go.RowKit
attribute [local go_sem ↓] Go.wp_at_zero Go.wp_at_succ

theorem ivs_put (os : List Int) (i : Nat) (x : Int) : (ivs os).set i (.int .i64 x) = ivs (os.set i x) := by simp [ivs, List.map_set]
/-- The second output of a circuit that was made and stands in a box of its own is written. -/
theorem made_two {w wx : World} {p : Value} {N : Nat} {ls gs : List (Int × Int)} {u v : Int} (h : MadeC w wx p N ls gs [u, v]) :
    ∃ b la lc ga gc g oc, p = .pointer (some ⟨b, 0, none⟩) ∧ w.heap.size ≤ b ∧ b < wx.heap.size ∧ wx.heap[b]? = some (.cells #[.int .i64 N, .slice la ls.length lc, .slice ga gs.length gc, .slice (some ⟨g, 0, none⟩) 2 oc] 26 (0, 0)) ∧
      g ≠ b ∧ w.heap.size ≤ g ∧ wx.cell? ⟨g, 0, none⟩ = some (.int .i64 u) ∧ wx.cell? ⟨g, 1, none⟩ = some (.int .i64 v) ∧ wx.frozen? ⟨g, 1, none⟩ = false ∧ Below w.heap.size w wx ∧
      ∀ x : Int, PairsAt (wx.setCell ⟨g, 1, none⟩ (.int .i64 x)) la ls ∧ PairsAt (wx.setCell ⟨g, 1, none⟩ (.int .i64 x)) ga gs ∧ IntsAt (wx.setCell ⟨g, 1, none⟩ (.int .i64 x)) (some ⟨g, 0, none⟩) [u, x] := by
  obtain ⟨b, lv, gv, ov, rfl, hb, bx, oL, oG, oO, d1, d2, d3, x1, x2, x3, bel⟩ := h
  obtain ⟨la, lc, rfl, _, _⟩ := own_pairs oL
  obtain ⟨ga, gc, rfl, _, _⟩ := own_pairs oG
  rcases oO.2 with ⟨_, h0⟩ | ⟨g, cap, cur, rfl, _⟩
  · simp at h0
  have og : (Value.slice (some ⟨g, 0, none⟩) [u, v].length cap).ownBlock = some g := rfl
  refine ⟨b, la, lc, ga, gc, g, cap, rfl, hb, (Array.getElem?_eq_some_iff.1 bx).1, bx, x3 g og, (oO.lt g og).1, ?_, ?_, oO.frozenAt 1, bel, fun x => ⟨?_, ?_, ?_⟩⟩
  · rw [oO.cellAt 0 (by simp)]
    rfl
  · rw [oO.cellAt 1 (by simp)]
    rfl
  · obtain ⟨a, c, e, _, hh⟩ := own_pairs (ownsRow_setCell_other oL (a := ⟨g, 1, none⟩) (fun e => d2 g e og) (.int .i64 x))
    cases e
    exact hh
  · obtain ⟨a, c, e, _, hh⟩ := own_pairs (ownsRow_setCell_other oG (a := ⟨g, 1, none⟩) (fun e => d3 g e og) (.int .i64 x))
    cases e
    exact hh
  · have o2 := (oO.stored 1 (.int .i64 x)).1
    rw [ivs_put] at o2
    obtain ⟨a, c, e, _, hh⟩ := own_intlist o2
    simp only [Value.slice.injEq] at e
    obtain ⟨rfl, _, _⟩ := e
    exact hh
theorem four_cells {w : World} {b : Nat} {v0 v1 v2 v3 : Value} {t : TypeId} (h : w.heap[b]? = some (.cells #[v0, v1, v2, v3] t (0, 0))) :
    w.cell? ⟨b, 0, none⟩ = some v0 ∧ w.cell? ⟨b, 1, none⟩ = some v1 ∧ w.cell? ⟨b, 2, none⟩ = some v2 ∧ w.cell? ⟨b, 3, none⟩ = some v3 := by
  refine ⟨?_, ?_, ?_, ?_⟩ <;> (rw [cell_of_row _ _ _ _ _ _ h]; rfl)
theorem two_of {l : List Int} (h : l.length = 2) : ∃ a b, l = [a, b] := by
  match l, h with
  | [a, b], _ => exact ⟨a, b, rfl⟩

set_option maxHeartbeats 4000000 in
set_option maxRecDepth 100000 in
theorem likely_walk (r0 n st : Int) (la ga oa : Option Addr) (lc gc oc : Nat) (rl rg : List (Int × Int)) (ro : List Int) (w : World) (hml : ro.length ≤ maxLen)
    (hn : FitsK n) (hs : FitsK st) (hL : PairsAt w la rl) (hG : PairsAt w ga rg) (hO : IntsAt w oa ro)
    (fL : ∀ i, i < rl.length → FitsK (rl.getD i (0, 0)).1 ∧ FitsK (rl.getD i (0, 0)).2) (fG : ∀ i, i < rg.length → FitsK (rg.getD i (0, 0)).1 ∧ FitsK (rg.getD i (0, 0)).2) (fO : ∀ i, i < ro.length → FitsK (ro.getD i 0)) :
    Calls Try.prog 3 #[.agg #[.int .i64 r0, .slice la rl.length lc, .slice ga rg.length gc, .slice oa ro.length oc], .int .i64 n, .int .i64 st] w fun e w' => e = .returned (.bool true) ∧ Below w.heap.size w w' := by
  obtain ⟨hn1, hn2⟩ := hn
  obtain ⟨hs1, hs2⟩ := hs
  obtain ⟨N, hN⟩ := Int.eq_ofNat_of_zero_le (pickI_bd n 3 (by omega)).1
  obtain ⟨M, hM⟩ := Int.eq_ofNat_of_zero_le (pickI_bd st 4 (by omega)).1
  have hN2 : N ≤ 2 := by have := (pickI_bd n 3 (by omega)).2; omega
  have hM3 : M ≤ 3 := by have := (pickI_bd st 4 (by omega)).2; omega
  obtain ⟨s, hsM⟩ : ∃ s, s = M + 1 := ⟨_, rfl⟩
  have hs14 : 1 ≤ s ∧ s ≤ 4 := by omega
  have hwrS : IntKind.i64.wrap (1 + (M : Int)) = (s : Int) := by rw [wrap_i64']; omega
  have hsum : (1 : Int) + (M : Int) = (s : Int) := by omega
  have HN : Hid (pickI n 3 = N) := hN
  have HM : Hid (pickI st 4 = M) := hM
  clear hN hM
  obtain ⟨LS, hLS⟩ : ∃ LS, LS = cL N rl rg := ⟨_, rfl⟩
  obtain ⟨GS, hGS⟩ : ∃ GS, GS = cG N rl rg := ⟨_, rfl⟩
  obtain ⟨a, b0, hab⟩ := two_of (cO_len N rl rg ro 2)
  have hr0 : rightB N LS GS [a, b0] = true := by rw [hLS, hGS, ← hab]; exact c_right N rl rg ro 2 (by omega) (by omega)
  obtain ⟨ha0, ha1, hr⟩ := flip_right hr0
  have hll : LS.length ≤ 4 := by rw [hLS, cL_len]; omega
  have hgl : GS.length ≤ 30 := by rw [hGS, cG_len]; omega
  have cAny : ∀ W, Below w.heap.size w W → Calls Try.prog 6 #[.agg #[.int .i64 r0, .slice la rl.length lc, .slice ga rg.length gc, .slice oa ro.length oc], .int .i64 N, .int .i64 (2 : Nat)] W (CircRes W N LS GS [a, b0]) := fun W hW => by
    rw [hLS, hGS, ← hab]
    exact circuit_any r0 la ga oa lc gc oc rl rg ro N 2 W (by omega) (by omega) hml (hL.below hW) (hG.below hW) (hO.below hW) fL fG fO
  obtain ⟨x, rfl⟩ := Int.eq_ofNat_of_zero_le ha0
  have hxb : x < 9223372036854775808 := by omega
  have hxor : bits .xor .i64 (x : Int) 1 = ((x ^^^ 1 : Nat) : Int) := by have := i64_xor_nat x 1 hxb (by omega); simpa using this
  have hflip : ((x ^^^ 1 : Nat) : Int) = flipS (x : Int) := by unfold flipS; rw [Int.toNat_natCast]
  obtain ⟨y, hy⟩ : ∃ y : Int, y = flipS (x : Int) := ⟨_, rfl⟩
  rw [hflip, ← hy] at hxor
  rw [← hy] at hr
  have HY := hideK hy
  have HS := hideK hsM
  have HR0 := hideK hr0
  clear hLS hGS fL fG fO hL hG hO hml hab hy hflip hsM hr0
  obtain ⟨W1, hW1⟩ : ∃ W1, W1 = w.alloc (.cells #[.int .i64 r0, .slice la rl.length lc, .slice ga rg.length gc, .slice oa ro.length oc] 26) := ⟨_, rfl⟩
  have b1 : Below w.heap.size w W1 := by rw [hW1]; exact (Below.refl _ _).alloc (Nat.le_refl _) _
  have s1 : W1.heap.size = w.heap.size + 1 := by rw [hW1]; simp
  have bx : W1.heap[w.heap.size]? = some (.cells #[.int .i64 r0, .slice la rl.length lc, .slice ga rg.length gc, .slice oa ro.length oc] 26 (0, 0)) := by rw [hW1]; exact heap_alloc_new _ _
  go_enter Try.func3, Try.ntmps3
  go_upto_region 1 with fail
  rw [← hW1]
  clear hW1
  go_wp2_with fail
  refine (ran_any W1).mono ?_
  rintro e W2 ⟨rfl, b2⟩
  have B2 : Below w.heap.size w W2 := b1.trans (b2.mono b1.size)
  have bx2 := (b2.block w.heap.size (by omega)).trans bx
  obtain ⟨q0, q1, q2, q3⟩ := four_cells bx2
  clear bx
  go_wp2_with fail
  refine (pick_to _ hn1 hn2 (by omega) (by omega) HN.out).mono ?_
  rintro e w' ⟨rfl, rfl⟩
  go_wp2_with fail
  refine (pick_to _ hs1 hs2 (by omega) (by omega) HM.out).mono ?_
  rintro e w' ⟨rfl, rfl⟩
  go_wp2_with fail
  refine (cAny _ B2).mono ?_
  rintro e W3 ⟨lv, gv, ov, rfl, oL, oG, oO, d1, d2, d3, bb⟩
  have MA := made_after (w := w) (N := N) B2 oL oG oO d1 d2 d3 bb
  obtain ⟨la', ln', lc', rfl⟩ := own_slice oL
  obtain ⟨ga', gn', gc', rfl⟩ := own_slice oG
  obtain ⟨oa', on', oc', rfl⟩ := own_slice oO
  clear oL oG oO d1 d2 d3 q0 q1 q2 q3 cAny
  obtain ⟨W4, hW4⟩ : ∃ W4, W4 = W3.alloc (.cells #[.int .i64 N, .slice la' ln' lc', .slice ga' gn' gc', .slice oa' on' oc'] 26) := ⟨_, rfl⟩
  rw [← hW4] at MA
  obtain ⟨P5, hP5⟩ : ∃ P5, P5 = W3.heap.size := ⟨_, rfl⟩
  rw [← hP5] at MA
  obtain ⟨bB, lb, lbc, gb, gbc, g, obc, hp, hb0, hb1, boxB, hgb, hg0, cX, cV, fX, b4, hafter⟩ := made_two MA
  cases hp
  go_upto_region 5 with fail
  rw [← hW4, ← hP5]
  clear hW4
  have HP5 := hideK hP5
  clear hP5
  obtain ⟨p0, p1, p2, p3⟩ := four_cells boxB
  have HA := hideK hafter
  clear hafter
  go_wp2_with fail
  refine wp_region_noPanic ?_
  refine wp_region_last (by kernel_rfl) (by kernel_rfl) ?_
  simp only [List.pop_toArray, List.dropLast_cons_cons, List.dropLast_singleton, List.size_toArray, List.length_cons, List.length_nil, Nat.zero_add, Nat.reduceAdd]
  refine wpAny_of_held (S := fun w0 => w0.cell? ⟨P5, 3, none⟩ = some (.slice (some ⟨g, 0, none⟩) 2 obc) ∧ w0.cell? ⟨g, 0, none⟩ = some (.int .i64 (x : Int))) _ _ _ _ ?_
  have hHeld : (fun w0 : World => w0.cell? ⟨P5, 3, none⟩ = some (.slice (some ⟨g, 0, none⟩) 2 obc) ∧ w0.cell? ⟨g, 0, none⟩ = some (.int .i64 (x : Int))) W4.drew := ⟨p3, cX⟩
  refine wpAnyH_take (i := 0) (v := ?_) (by simp only [List.getElem?_toArray, List.getElem?_cons_zero]; rfl) (by kernel_rfl) (by kernel_rfl) (by kernel_rfl) (fun _ _ _ h => h) (Or.inl ⟨by rfl, ?_⟩) hHeld ?_
  rotate_left 1
  · (intro w0 hSw; (try dsimp only at hSw); go_simp; try (with_reducible rfl))
  simp only [Act.put, List.setIfInBounds_toArray, List.set_cons_zero, List.set_cons_succ]
  refine wpAnyH_take (i := 1) (v := ?_) (by simp only [List.getElem?_toArray, List.getElem?_cons_succ, List.getElem?_cons_zero]; rfl) (by kernel_rfl) (by kernel_rfl) (by kernel_rfl) (fun _ _ _ h => h) (Or.inl ⟨by rfl, ?_⟩) hHeld ?_
  rotate_left 1
  · (intro w0 hSw; (try dsimp only at hSw); go_simp; try (with_reducible rfl))
  simp only [Act.put, List.setIfInBounds_toArray, List.set_cons_zero, List.set_cons_succ]
  refine wpAnyH_take (i := 2) (v := ?_) (by simp only [List.getElem?_toArray, List.getElem?_cons_succ, List.getElem?_cons_zero]; rfl) (by kernel_rfl) (by kernel_rfl) (by kernel_rfl) (fun _ _ _ h => h) (Or.inl ⟨by rfl, ?_⟩) hHeld ?_
  rotate_left 1
  · (intro w0 hSw; (try dsimp only at hSw); go_simp; try (with_reducible rfl))
  simp only [Act.put, List.setIfInBounds_toArray, List.set_cons_zero, List.set_cons_succ]
  refine wpAnyH_take (i := 3) (v := ?_) (by simp only [List.getElem?_toArray, List.getElem?_cons_succ, List.getElem?_cons_zero]; rfl) (by kernel_rfl) (by kernel_rfl) (by kernel_rfl) (fun _ _ _ h => h) (Or.inl ⟨by rfl, ?_⟩) hHeld ?_
  rotate_left 1
  · (intro w0 hSw; (try dsimp only at hSw); go_simp; try (with_reducible rfl))
  simp only [Act.put, List.setIfInBounds_toArray, List.set_cons_zero, List.set_cons_succ]
  refine wpAnyH_take (i := 4) (v := ?_) (by simp only [List.getElem?_toArray, List.getElem?_cons_succ, List.getElem?_cons_zero]; rfl) (by kernel_rfl) (by kernel_rfl) (by kernel_rfl) (fun _ _ _ h => h) (Or.inl ⟨by rfl, ?_⟩) hHeld ?_
  rotate_left 1
  · (intro w0 hSw; (try dsimp only at hSw); go_simp; try (with_reducible rfl))
  simp only [Act.put, List.setIfInBounds_toArray, List.set_cons_zero, List.set_cons_succ]
  refine wpAnyH_take (i := 5) (v := ?_) (by simp only [List.getElem?_toArray, List.getElem?_cons_succ, List.getElem?_cons_zero]; rfl) (by kernel_rfl) (by kernel_rfl) (by kernel_rfl) (fun _ _ _ h => h) (Or.inl ⟨by rfl, ?_⟩) hHeld ?_
  rotate_left 1
  · (intro w0 hSw; (try dsimp only at hSw); go_simp; try (with_reducible rfl))
  simp only [Act.put, List.setIfInBounds_toArray, List.set_cons_zero, List.set_cons_succ]
  refine wpAnyH_take (i := 6) (v := ?_) (by simp only [List.getElem?_toArray, List.getElem?_cons_succ, List.getElem?_cons_zero]; rfl) (by kernel_rfl) (by kernel_rfl) (by kernel_rfl) (fun _ _ _ h => h) (Or.inl ⟨by rfl, ?_⟩) hHeld ?_
  rotate_left 1
  · (intro w0 hSw; (try dsimp only at hSw); go_simp; try (with_reducible rfl))
  simp only [Act.put, List.setIfInBounds_toArray, List.set_cons_zero, List.set_cons_succ]
  refine wpAnyH_take (i := 7) (v := ?_) (by simp only [List.getElem?_toArray, List.getElem?_cons_succ, List.getElem?_cons_zero]; rfl) (by kernel_rfl) (by kernel_rfl) (by kernel_rfl) (fun _ _ _ h => h) (Or.inl ⟨by rfl, ?_⟩) hHeld ?_
  rotate_left 1
  · (intro w0 hSw; (try dsimp only at hSw); go_simp; try (with_reducible rfl))
  simp only [Act.put, List.setIfInBounds_toArray, List.set_cons_zero, List.set_cons_succ]
  refine wpAnyH_done (by kernel_rfl) ?_ _
  refine lastQ_step (by simp only [List.size_toArray, List.length_cons, List.length_nil, Nat.zero_add, Nat.reduceAdd, Nat.reduceSub, List.getElem?_toArray, List.getElem?_cons_succ, List.getElem?_cons_zero]; rfl) (fun K hK => ?_)
  go_simp
  refine hK _ _ (NoPanic.normal ?_)
  clear hK K hHeld
  obtain ⟨W7, hW7⟩ : ∃ W7, W7 = (W4.setCell ⟨g, 1, none⟩ (.int .i64 y)).drew := ⟨_, rfl⟩
  have dR : ∀ V : World, Below V.heap.size V V.drew := fun V => (Below.refl _ _).drew
  have B7 : Below w.heap.size w W7 := by rw [hW7]; exact (b4.setCell (p := ⟨g, 1, none⟩) hg0 _).drew
  have zB : W7.heap[P5]? = some (.cells #[.int .i64 N, .slice lb LS.length lbc, .slice gb GS.length gbc, .slice (some ⟨g, 0, none⟩) 2 obc] 26 (0, 0)) := by rw [hW7]; exact (Deep.blk_setCell_other _ _ _ _ (Ne.symm hgb)).trans boxB
  have pL : PairsAt W7 lb LS := by rw [hW7]; exact (HA.out y).1.below (dR _)
  have pG : PairsAt W7 gb GS := by rw [hW7]; exact (HA.out y).2.1.below (dR _)
  have pO : IntsAt W7 (some ⟨g, 0, none⟩) [(x : Int), y] := by rw [hW7]; exact (HA.out y).2.2.below (dR _)
  clear p0 p1 p2 p3 cX cV fX
  obtain ⟨p0, p1, p2, p3⟩ := four_cells zB
  rw [← hW7]
  have hP5 : P5 < W7.heap.size := (Array.getElem?_eq_some_iff.1 zB).1
  clear hW7 HA
  have call := latchCh_ok N s lb gb (some ⟨g, 0, none⟩) lbc gbc obc LS GS [(x : Int), y] W7 hr hs14.1 (by omega) pL pG pO
  go_wp2_with fail
  refine call.mono ?_
  rintro e W8 ⟨g', rfl, own, b8⟩
  clear call p0 p1 p2 p3
  obtain ⟨E, hE⟩ : ∃ E, E = N * s := ⟨_, rfl⟩
  have hE8 : E ≤ 8 := by rw [hE]; exact Nat.le_trans (Nat.mul_le_mul hN2 hs14.2) (by omega)
  obtain ⟨c0, hc0⟩ : ∃ c0, c0 = chN N LS GS [(x : Int), y] M 0 := ⟨_, rfl⟩
  obtain ⟨c1, hc1⟩ : ∃ c1, c1 = chN N LS GS [(x : Int), y] M 1 := ⟨_, rfl⟩
  have hsumc : c0 + c1 = 2 ^ E := by
    rw [hc0, hc1, HY.out, hE, HS.out]
    exact ch_flip (by omega) hll M
  have hp256 : 2 ^ E ≤ 256 := Nat.le_trans (Nat.pow_le_pow_right (by omega) hE8) (by decide)
  have hchL : chL N LS GS [(x : Int), y] s = [fq c0 E, fq c1 E] := by
    rw [hc0, hc1, hE]
    unfold chL
    rw [show s - 1 = M by have := HS.out; omega]
    rfl
  have l0 : W8.cell? ⟨g', 0, none⟩ = some (.float .f64 (fq c0 E)) := by
    rw [own.cellAt 0 (by simp), hchL]
    rfl
  have l1 : W8.cell? ⟨g', 1, none⟩ = some (.float .f64 (fq c1 E)) := by
    rw [own.cellAt 1 (by simp), hchL]
    rfl
  have one1 : fq (2 ^ E) E = 4607182418800017408 := by rw [one_q E (by omega), fq_one]
  obtain ⟨F0, hF0⟩ : ∃ F0, F0 = fq c0 E := ⟨_, rfl⟩
  obtain ⟨F1, hF1⟩ : ∃ F1, F1 = fq c1 E := ⟨_, rfl⟩
  have o0 : FloatKind.f64.format.order F0 0 = some (compare c0 0) := by
    have h := fq_order (k := c0) (l := 0) (e := E) (by omega) (by omega)
    rw [fq_zero, ← hF0] at h
    exact h
  have o1 : FloatKind.f64.format.order F0 4607182418800017408 = some (compare c0 (2 ^ E)) := by
    have h := fq_order (k := c0) (l := 2 ^ E) (e := E) (by omega) (by omega)
    rw [one1, ← hF0] at h
    exact h
  have o2 : FloatKind.f64.format.order 4607182418800017408 4607182418800017408 = some .eq := by
    have h := fq_order (k := 2 ^ E) (l := 2 ^ E) (e := E) (by omega) (by omega)
    rw [one1] at h
    rw [show compare (2 ^ E) (2 ^ E) = Ordering.eq from by simp] at h
    exact h
  have hadd : ∀ W : World, (binOp .add 34 (.float .f64 F0) (.float .f64 F1)).run Try.prog W = .ok (.float .f64 4607182418800017408) W := fun W => run_float_arith W .add _ .f64 _ _ _ (by
    have h := fq_add (k := c0) (l := c1) (e := E) (by omega) (by omega)
    rw [hsumc, one1, ← hF0, ← hF1] at h
    exact h)
  have k0 : (some (compare c0 0) == some Ordering.lt) = false := by
    have : compare c0 0 ≠ .lt := fun h => by have := Nat.compare_eq_lt.1 h; omega
    cases h : compare c0 0 <;> simp_all
  have k1 : (some (compare c0 (2 ^ E)) == some Ordering.gt) = false := by
    have : compare c0 (2 ^ E) ≠ .gt := fun h => by have := Nat.compare_eq_gt.1 h; omega
    cases h : compare c0 (2 ^ E) <;> simp_all
  rw [← hF0] at l0
  rw [← hF1] at l1
  have HF0 := hideK hF0
  have HC0 := hideK hc0
  have HEE := hideK hE
  have s8 := b8.size
  have B8 : Below w.heap.size w W8 := B7.trans (b8.mono B7.size)
  have z8 := (b8.block P5 hP5).trans zB
  clear hF0 hF1 hc0 hc1 hsumc one1 hchL hE own zB
  go_wp2
  go_quiet (fail)
  obtain ⟨Q, hQ⟩ : ∃ Q : Nat, Q = 2 ^ E := ⟨_, rfl⟩
  have hQ256 : Q ≤ 256 := by omega
  have hmulE : (N : Int) * (s : Int) = (E : Int) := by rw [HEE.out]; simp
  have hQI : (2 : Int) ^ E = (Q : Int) := by rw [hQ]; simp
  have hshE : IntKind.i64.wrap ((2 : Int) ^ E) = (Q : Int) := by rw [hQI, wrap_i64']; omega
  obtain ⟨T, hT⟩ : ∃ T : Nat, T = 2 ^ N := ⟨_, rfl⟩
  have hT4 : 1 ≤ T ∧ T ≤ 4 := by rw [hT]; exact ⟨Nat.one_le_two_pow, Nat.le_trans (Nat.pow_le_pow_right (by omega) hN2) (by decide)⟩
  have hTI : (2 : Int) ^ N = (T : Int) := by rw [hT]; simp
  have hshT : IntKind.i64.wrap ((2 : Int) ^ N) = (T : Int) := by rw [hTI, wrap_i64']; omega
  have hwE : IntKind.i64.wrap (E : Int) = (E : Int) := by rw [wrap_i64']; omega
  have hwQ : IntKind.i64.wrap (Q : Int) = (Q : Int) := by rw [wrap_i64']; omega
  have hwT : IntKind.i64.wrap (T : Int) = (T : Int) := by rw [wrap_i64']; omega
  have HQ := hideK hQ
  have HT := hideK hT
  obtain ⟨bt, hbt⟩ : ∃ f, f = bitX N LS GS [(x : Int), y] M := ⟨_, rfl⟩
  have btl : ∀ X, bt X ≤ 1 := fun X => by rw [hbt]; exact bitX_le _ _ _ _ _ _
  have cnt : sumN bt Q = c0 := by rw [hbt, hQ, HEE.out, HS.out, HC0.out]; exact count_X _ hll M
  have cle : ∀ X, sumN bt X ≤ X := fun X => by
    have h := sumN_le (f := bt) (g := fun _ => 1) X (fun i _ => btl i)
    rw [sumN_const, Nat.mul_one] at h
    exact h
  have oF : FloatKind.f64.format.order F0 F0 = some .eq := by
    have h := fq_order (k := c0) (l := c0) (e := E) (by have := cle Q; omega) (by have := cle Q; omega)
    rw [← HF0.out, show compare c0 c0 = Ordering.eq from by simp] at h
    exact h
  have HBT := hideK hbt
  have BTL := hideK btl
  have CNT := hideK cnt
  have CLE := hideK cle
  have OF := hideK oF
  have hP8 : P5 < W8.heap.size := by omega
  have L0 := hideK l0
  have pL8 := hideK (pL.below b8)
  have pG8 := hideK (pG.below b8)
  have pO8 := hideK (pO.below b8)
  have Z8 := hideK z8
  obtain ⟨i0, hi, hz0, hz1, hz2⟩ := info_parts Try.infoInt
  clear o0 o1 o2 k0 k1 hadd l0 l1 hbt btl cnt cle oF z8 hQ hT pL pG pO
  go_wp2_with fail
  go_loopw [13, 14] (fun cv xv wr => ∃ X C : Nat, X ≤ Q ∧ xv = .int .i64 X ∧ cv = .int .i64 C ∧ C = sumN bt X ∧ Below W8.heap.size W8 wr) (fun _ xv _ => Q - (intOf xv).toNat)
  case atStart => exact ⟨0, 0, Nat.zero_le _, rfl, rfl, rfl, below_drewN (Below.refl _ _) _⟩
  case round =>
    obtain ⟨X, C, hX, rfl, rfl, hC, bel⟩ := hrel
    have hC256 : C ≤ 256 := by have := CLE.out X; omega
    have HC := hideK hC
    clear hC
    obtain ⟨Wo, rfl⟩ : ∃ Wo, Wo = wr := ⟨_, rfl⟩
    have sWo := bel.size
    by_cases hX2 : X < Q
    · have hXI : (X : Int) < (Q : Int) := by omega
      go_wp2_with fail
      go_loopw [15, 16] (fun v iv wr => ∃ k : Nat, k ≤ s ∧ iv = .int .i64 k ∧ wr.ownsRow Wo.heap.size 3 1 v k (ivs (insX N X k)) ∧ Below Wo.heap.size Wo wr) (fun _ iv _ => s - (intOf iv).toNat)
      case atStart => exact ⟨0, Nat.zero_le _, rfl, World.ownsRow_nil _ _ _ _, Below.refl _ _⟩
      case round =>
        obtain ⟨k, hk, rfl, own, bk⟩ := hrel
        have sk := bk.size
        by_cases hk2 : k < s
        · have hkI : (k : Int) < (s : Int) := by omega
          obtain ⟨P, hP⟩ : ∃ P : Nat, P = N * k := ⟨_, rfl⟩
          have hmulP : (N : Int) * (k : Int) = (P : Int) := by rw [hP]; simp
          have hP8' : P ≤ 8 := by rw [hP]; exact Nat.le_trans (Nat.mul_le_mul hN2 (show k ≤ 4 by omega)) (by omega)
          obtain ⟨D, hD⟩ : ∃ D : Nat, D = digitI (2 ^ N) X k := ⟨_, rfl⟩
          obtain ⟨T1, hT1⟩ : ∃ T1 : Nat, T1 = T - 1 := ⟨_, rfl⟩
          have hT1I : (T : Int) - 1 = (T1 : Int) := by omega
          have hwP : IntKind.i64.wrap (P : Int) = (P : Int) := by rw [wrap_i64']; omega
          have hwT1 : IntKind.i64.wrap (T1 : Int) = (T1 : Int) := by rw [wrap_i64']; omega
          have hdig : bits .and .i64 ((X : Int) / 2 ^ P) (T1 : Int) = (D : Int) := by
            have e : ((X : Int) / 2 ^ P) = ((X / 2 ^ P : Nat) : Int) := by simp
            have : X / 2 ^ P ≤ X := Nat.div_le_self _ _
            rw [e, i64_and_nat _ _ (by omega) (by omega), hT1, HT.out, Nat.and_two_pow_sub_one_eq_mod, hD, hP]
            unfold digitI
            rw [Nat.pow_mul]
          have HD : Hid (insX N X (k + 1) = insX N X k ++ [(D : Int)]) := by show _ = _; rw [insX_succ, hD]
          clear hP hD hT1
          go_wp2
          refine wp_region_noPanic ?_
          refine wp_region_any (by kernel_rfl) ?_
          simp only [List.size_toArray, List.length_cons, List.length_nil, Nat.zero_add, Nat.reduceAdd]
          refine wpAny_of_held (S := fun _ => True) _ _ _ _ ?_
          have hHeld : (fun _ : World => True) wr.drew := trivial
          refine wpAnyH_take (i := 0) (v := ?_) (by simp only [List.getElem?_toArray, List.getElem?_cons_zero]; rfl) (by kernel_rfl) (by kernel_rfl) (by kernel_rfl) (fun _ _ _ h => h) (Or.inl ⟨by rfl, ?_⟩) hHeld ?_
          rotate_left 1
          · (intro w0 hSw; (try dsimp only at hSw); go_simp; try (with_reducible rfl))
          simp only [Act.put, List.setIfInBounds_toArray, List.set_cons_zero, List.set_cons_succ]
          refine wpAnyH_take (i := 1) (v := ?_) (by simp only [List.getElem?_toArray, List.getElem?_cons_succ, List.getElem?_cons_zero]; rfl) (by kernel_rfl) (by kernel_rfl) (by kernel_rfl) (fun _ _ _ h => h) (Or.inl ⟨by rfl, ?_⟩) hHeld ?_
          rotate_left 1
          · (intro w0 hSw; (try dsimp only at hSw); go_simp; try (with_reducible rfl))
          simp only [Act.put, List.setIfInBounds_toArray, List.set_cons_zero, List.set_cons_succ]
          refine wpAnyH_take (i := 2) (v := ?_) (by simp only [List.getElem?_toArray, List.getElem?_cons_succ, List.getElem?_cons_zero]; rfl) (by kernel_rfl) (by kernel_rfl) (by kernel_rfl) (fun _ _ _ h => h) (Or.inl ⟨by rfl, ?_⟩) hHeld ?_
          rotate_left 1
          · (intro w0 hSw; (try dsimp only at hSw); go_simp; try (with_reducible rfl))
          simp only [Act.put, List.setIfInBounds_toArray, List.set_cons_zero, List.set_cons_succ]
          refine wpAnyH_take (i := 3) (v := ?_) (by simp only [List.getElem?_toArray, List.getElem?_cons_succ, List.getElem?_cons_zero]; rfl) (by kernel_rfl) (by kernel_rfl) (by kernel_rfl) (fun _ _ _ h => h) (Or.inl ⟨by rfl, ?_⟩) hHeld ?_
          rotate_left 1
          · (intro w0 hSw; (try dsimp only at hSw); go_simp; try (with_reducible rfl))
          simp only [Act.put, List.setIfInBounds_toArray, List.set_cons_zero, List.set_cons_succ]
          refine wpAnyH_take (i := 4) (v := ?_) (by simp only [List.getElem?_toArray, List.getElem?_cons_succ, List.getElem?_cons_zero]; rfl) (by kernel_rfl) (by kernel_rfl) (by kernel_rfl) (fun _ _ _ h => h) (Or.inl ⟨by rfl, ?_⟩) hHeld ?_
          rotate_left 1
          · (intro w0 hSw; (try dsimp only at hSw); go_simp; try (with_reducible rfl))
          simp only [Act.put, List.setIfInBounds_toArray, List.set_cons_zero, List.set_cons_succ]
          refine wpAnyH_take (i := 5) (v := ?_) (by simp only [List.getElem?_toArray, List.getElem?_cons_succ, List.getElem?_cons_zero]; rfl) (by kernel_rfl) (by kernel_rfl) (by kernel_rfl) (fun _ _ _ h => h) (Or.inl ⟨by rfl, ?_⟩) hHeld ?_
          rotate_left 1
          · (intro w0 hSw; (try dsimp only at hSw); go_simp; try (with_reducible rfl))
          simp only [Act.put, List.setIfInBounds_toArray, List.set_cons_zero, List.set_cons_succ]
          refine wpAnyH_take (i := 6) (v := ?_) (by simp only [List.getElem?_toArray, List.getElem?_cons_succ, List.getElem?_cons_zero]; rfl) (by kernel_rfl) (by kernel_rfl) (by kernel_rfl) (fun _ _ _ h => h) (Or.inl ⟨by rfl, ?_⟩) hHeld ?_
          rotate_left 1
          · (intro w0 hSw; (try dsimp only at hSw); go_simp; try (with_reducible rfl))
          simp only [Act.put, List.setIfInBounds_toArray, List.set_cons_zero, List.set_cons_succ]
          refine wpAnyH_take (i := 7) (v := ?_) (by simp only [List.getElem?_toArray, List.getElem?_cons_succ, List.getElem?_cons_zero]; rfl) (by kernel_rfl) (by kernel_rfl) (by kernel_rfl) (fun _ _ _ h => h) (Or.inl ⟨by rfl, ?_⟩) hHeld ?_
          rotate_left 1
          · (intro w0 hSw; (try dsimp only at hSw); go_simp; try (with_reducible rfl))
          simp only [Act.put, List.setIfInBounds_toArray, List.set_cons_zero, List.set_cons_succ]
          refine wpAnyH_take (i := 8) (v := ?_) (by simp only [List.getElem?_toArray, List.getElem?_cons_succ, List.getElem?_cons_zero]; rfl) (by kernel_rfl) (by kernel_rfl) (by kernel_rfl) (fun _ _ _ h => h) (Or.inl ⟨by rfl, ?_⟩) hHeld ?_
          rotate_left 1
          · (intro w0 hSw; (try dsimp only at hSw); go_simp; try (with_reducible rfl))
          simp only [Act.put, List.setIfInBounds_toArray, List.set_cons_zero, List.set_cons_succ]
          refine wpAnyH_take (i := 9) (v := ?_) (by simp only [List.getElem?_toArray, List.getElem?_cons_succ, List.getElem?_cons_zero]; rfl) (by kernel_rfl) (by kernel_rfl) (by kernel_rfl) (fun _ _ _ h => h) (Or.inl ⟨by rfl, ?_⟩) hHeld ?_
          rotate_left 1
          · (intro w0 hSw; (try dsimp only at hSw); go_simp; try (with_reducible rfl))
          simp only [Act.put, List.setIfInBounds_toArray, List.set_cons_zero, List.set_cons_succ]
          refine wpAnyH_ready (rs := [10]) (by kernel_rfl) (by simp) (AllReadyH.cons (by simp only [List.getElem?_toArray, List.getElem?_cons_succ, List.getElem?_cons_zero]; rfl) (fun K hK => ?_) AllReadyH.nil)
          go_simp
          refine hK.out _ _ trivial (fun hHeld => ?_)
          clear hK K
          try simp only [Act.put, List.setIfInBounds_toArray, List.set_cons_zero, List.set_cons_succ]
          refine wpAnyH_ready (rs := [11]) (by kernel_rfl) (by simp) (AllReadyH.cons (by simp only [List.getElem?_toArray, List.getElem?_cons_succ, List.getElem?_cons_zero]; rfl) (fun K hK => ?_) AllReadyH.nil)
          refine step_append_lies _ (by rfl) (.tmp 88) (.tmp 98) 24 (by rfl) Wo.heap.size 3 i0 (.int .i64 0) 1 8 Try.underlying24 hi hz0 hz1 hz2 rfl (by omega) u15 k (ivs (insX N X k)) (by rfl) ((own.alloc _).drew) ⟨wr.heap.size, 0, none⟩ 1 1 [.int .i64 (D : Int)] (by rfl) rfl (news1K _ _ _) (by simp [Value.oneCell']) (by omega) (by unfold maxLen; omega) (by omega) (by simp; omega) _ rfl ?_
          intro g' cap' w1 hown1 hgrow hat hlt1
          refine hK.out _ _ trivial (fun hHeld => ?_)
          clear hK K
          try simp only [Act.put, List.setIfInBounds_toArray, List.set_cons_zero, List.set_cons_succ]
          refine wpAnyH_take (i := 12) (v := ?_) (by simp only [List.getElem?_toArray, List.getElem?_cons_succ, List.getElem?_cons_zero]; rfl) (by kernel_rfl) (by kernel_rfl) (by kernel_rfl) (fun _ _ _ h => h) (Or.inl ⟨by rfl, ?_⟩) hHeld ?_
          rotate_left 1
          · (intro w0 hSw; (try dsimp only at hSw); go_simp; try (with_reducible rfl))
          simp only [Act.put, List.setIfInBounds_toArray, List.set_cons_zero, List.set_cons_succ]
          refine wpAnyH_done (by kernel_rfl) ?_ _
          refine NoPanic.normal ?_
          clear hHeld
          have bk1 : Below Wo.heap.size Wo w1 := ((bk.alloc bk.size _).drew).grown hgrow (by simp; omega) (fun q hq => (own.lt q hq).1)
          have O9 : Hid (w1.ownsRow Wo.heap.size 3 1 (.slice (some ⟨g', 0, none⟩) (k + 1) cap') (k + 1) (ivs (insX N X (k + 1)))) := by
            show World.ownsRow _ _ _ _ _ _ _
            rw [HD.out]
            simpa [ivs] using hown1
          clear hgrow hown1 hat hlt1 own
          go_wp2
          go_roundw
          case rel => exact ⟨k + 1, by omega, by go_num, O9.out, bk1⟩
          case measure => simp [intOf]; omega
        · have hkI : ¬ ((k : Int) < (s : Int)) := by omega
          obtain rfl : k = s := by omega
          obtain ⟨ia, ic, hu, hlen, pI⟩ := own_intlist own
          rw [insX_len] at hu
          subst hu
          clear hlen
          have bw : Below W8.heap.size W8 wr := bel.trans (bk.mono (by omega))
          have zw := (bw.block P5 hP8).trans Z8.out
          obtain ⟨p0, p1, p2, p3⟩ := four_cells zw
          have call := run_ok N lb gb (some ⟨g, 0, none⟩) ia lbc gbc obc ic LS GS [(x : Int), y] (insX N X k) wr (by rw [insX_len]; unfold maxLen; omega) (pL8.out.below bw) (pG8.out.below bw) (pO8.out.below bw) pI hr (insX_ok N X (by omega))
          rw [insX_len] at call
          clear own
          go_wp2_with fail
          refine call.mono ?_
          rintro e w2 ⟨g2, rfl, own2, b2⟩
          clear call p0 p1 p2 p3
          have hkM : k = M + 1 := HS.out
          obtain ⟨V, hV⟩ : ∃ V, V = outAt N LS GS [(x : Int), y] (insX N X k) M := ⟨_, rfl⟩
          have hV16 : V < 16 := by rw [hV]; exact out_lt16 _ (by simp)
          have cV2 : w2.cell? ⟨g2, M, none⟩ = some (.int .i64 (V : Int)) := by
            have h := own_cells own2 M (by omega)
            rw [Nat.zero_add] at h
            rw [h, hV]
            simp [outs, insX_len, hkM]
          have hand1 : bits .and .i64 (V : Int) 1 = ((V % 2 : Nat) : Int) := i64_and1 V (by omega)
          obtain ⟨B, hB⟩ : ∃ B, B = V % 2 := ⟨_, rfl⟩
          rw [← hB] at hand1
          have HBX : Hid (B = bt X) := by
            show _ = _
            rw [hB, hV, hkM, bitX_out, HBT.out]
          have hB1 : B ≤ 1 := by omega
          obtain ⟨C2, hC2⟩ : ∃ C2, C2 = C + B := ⟨_, rfl⟩
          have hC2I : (C : Int) + (B : Int) = (C2 : Int) := by omega
          have hC2b : C2 ≤ 257 := by omega
          have HC2 : Hid (C2 = sumN bt (X + 1)) := by show _ = _; rw [sumN, hC2, HC.out, HBX.out]
          have hsub : (k : Int) - 1 = (M : Int) := by omega
          have hM0 : (0 : Int) ≤ (M : Int) := by omega
          have hMk : (M : Int) < (k : Int) := by omega
          have bw2 : Below W8.heap.size W8 w2 := bw.trans (b2.mono bw.size)
          clear hV hB hC2 own2 hkM hsum hwrS pI zw
          go_wp2
          go_roundw
          case rel => exact ⟨X + 1, C2, by omega, by go_num, rfl, HC2.out, bw2⟩
          case measure => simp [intOf]; omega
    · have hXI : ¬ ((X : Int) < (Q : Int)) := by omega
      have HXQ := hideK (show X = Q by omega)
      have l0 : Wo.cell? ⟨g', 0, none⟩ = some (.float .f64 F0) := (bel.cell (p := ⟨g', 0, none⟩) (World.block_lt_of_cell? _ _ L0.out)).trans L0.out
      have hquo : ∀ W : World, (binOp .quo 34 (.float .f64 (floatOfInt .f64 (C : Int))) (.float .f64 (floatOfInt .f64 (Q : Int)))).run Try.prog W = .ok (.float .f64 F0) W := fun W => run_float_arith W .quo _ .f64 _ _ F0 (by
        have h := fq_div (k := C) (e := 0) (a := E) (by omega) (by omega) (by omega)
        rw [Nat.zero_add] at h
        rw [fq_int, fq_int, HQ.out, HF0.out, ← CNT.out, ← HXQ.out, ← HC.out]
        exact h)
      have oF := OF.out
      go_wp2
      go_quiet (fail)
      go_wp2
      go_ret
      exact ⟨rfl, B8.trans ((below_drewN bel _).mono B8.size)⟩

end Go.Proofs.Ytgpaajdfkekjiab
