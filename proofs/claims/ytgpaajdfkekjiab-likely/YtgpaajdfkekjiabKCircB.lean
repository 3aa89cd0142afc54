/-
  What circuit of package latchkeep answers: a right circuit, in new memory.
-/
import Derived.Test.YtgpaajdfkekjiabKBox
namespace Go.Proofs.Ytgpaajdfkekjiab
open Go.RowKit

set_option maxHeartbeats 4000000 in
set_option maxRecDepth 100000 in
theorem circuit_walkB (r0 : Int) (la ga oa : Option Addr) (lc gc oc : Nat) (rl rg : List (Int × Int)) (ro : List Int) (a o : Nat) (w : World) (ha : a ≤ 4) (ho : o ≤ 4) (hl4 : 4 < rl.length) (hg30 : rg.length ≤ 30) (hml : ro.length ≤ maxLen)
    (hL : PairsAt w la rl) (hG : PairsAt w ga rg) (hO : IntsAt w oa ro)
    (fL : ∀ i, i < rl.length → FitsK (rl.getD i (0, 0)).1 ∧ FitsK (rl.getD i (0, 0)).2) (fG : ∀ i, i < rg.length → FitsK (rg.getD i (0, 0)).1 ∧ FitsK (rg.getD i (0, 0)).2) (fO : ∀ i, i < ro.length → FitsK (ro.getD i 0)) :
    Calls Try.prog 6 #[.agg #[.int .i64 r0, .slice la rl.length lc, .slice ga rg.length gc, .slice oa ro.length oc], .int .i64 a, .int .i64 o] w
      (CircRes w a (kL rl (2 * (1 + (a : Int) + 4 + rg.length)) 4) (kG rg (1 + a + 4) rg.length) (kO ro (2 * (1 + (a : Int) + 4 + rg.length)) o)) := by
  unfold maxLen at hml
  have hQQ4 : (4 : Int) < rl.length := by omega
  have hQQ : 4 ≤ rl.length := by omega
  have hQG30 : rg.length ≤ 30 := by omega
  have hQG : rg.length ≤ rg.length := by omega
  obtain ⟨W3, hW3⟩ : ∃ W3, W3 = ((w.alloc (.cells #[.int .i64 r0, .slice la rl.length lc, .slice ga rg.length gc, .slice oa ro.length oc] 26)).alloc (.cells #[.int .i64 0, .slice none 0 0, .slice none 0 0, .slice none 0 0] 26)).alloc (.cells #[.int .i64 a, .slice none 0 0, .slice none 0 0, .slice none 0 0] 26) := ⟨_, rfl⟩
  have s3 : W3.heap.size = w.heap.size + 3 := by rw [hW3]; simp
  have B3 : Below w.heap.size w W3 := by rw [hW3]; exact (((Below.refl _ _).alloc (Nat.le_refl _) _).alloc (by simp) _).alloc (by simp; omega) _
  have bR : W3.heap[w.heap.size]? = some (.cells #[.int .i64 r0, .slice la rl.length lc, .slice ga rg.length gc, .slice oa ro.length oc] 26 (0, 0)) := by rw [hW3]; exact alloc_old (alloc_old (alloc_blk _ _ _ rfl))
  have bA : W3.heap[w.heap.size + 1]? = some (.cells #[.int .i64 0, .slice none 0 0, .slice none 0 0, .slice none 0 0] 26 (0, 0)) := by rw [hW3]; exact alloc_old (alloc_blk _ _ _ (by simp))
  have I3 : LInv W3 (w.heap.size + 2) (w.heap.size + 3) (.int .i64 a) (.slice none 0 0) (.slice none 0 0) (.slice none 0 0) [] [] [] := ⟨by omega, by omega, by rw [hW3]; exact alloc_blk _ _ _ (by simp), World.ownsRow_nil _ _ _ _, World.ownsRow_nil _ _ _ _, World.ownsRow_nil _ _ _ _, (fun q e => by cases e), (fun q e => by cases e), (fun q e => by cases e)⟩
  obtain ⟨iL, hiL, zL0, zL1, zL2⟩ := info_parts Try.infoLK
  obtain ⟨iG, hiG, zG0, zG1, zG2⟩ := info_parts Try.infoGK
  obtain ⟨iO, hiO, zO0, zO1, zO2⟩ := info_parts Try.infoInt
  go_enter Try.func6, Try.ntmps6
  go_wp2_with fail
  rw [← hW3]
  clear hW3
  obtain ⟨all, hall⟩ : ∃ all : Int, all = 2 * (1 + (a : Int) + 4 + rg.length) := ⟨_, rfl⟩
  rw [← hall]
  have al1 : 2 ≤ all := by omega
  have al2 : all ≤ 1000 := by omega
  have HALL : Hid (all = 2 * (1 + (a : Int) + 4 + rg.length)) := hall
  clear hall
  go_loopw [11] (fun i wr => ∃ (k : Nat) (lv : Value), k ≤ 4 ∧ i = .int .i64 k ∧ LInv wr (w.heap.size + 2) (w.heap.size + 3) (.int .i64 a) lv (.slice none 0 0) (.slice none 0 0) (kL rl all k) [] [] ∧ wr.heap[w.heap.size]? = some (.cells #[.int .i64 r0, .slice la rl.length lc, .slice ga rg.length gc, .slice oa ro.length oc] 26 (0, 0)) ∧ wr.heap[w.heap.size + 1]? = some (.cells #[.int .i64 0, .slice none 0 0, .slice none 0 0, .slice none 0 0] 26 (0, 0)) ∧ Below w.heap.size w wr)
    (fun i _ => 4 - (intOf i).toNat)
  case atStart => exact ⟨0, _, Nat.zero_le _, rfl, I3, bR, bA, B3⟩
  case round =>
    clear I3 bR bA B3 s3
    obtain ⟨k, lv, hk, rfl, I, bR, bA, bel⟩ := hrel
    by_cases hk2 : k < 4
    · obtain ⟨b, off, rfl, hlt, hc⟩ := hL.get (by omega)
      have hkr : k < rl.length := by omega
      have hx1 := (bel.cell (p := ⟨b, off + k * 2, none⟩) hlt).trans (hc k hkr).1
      have hx2 := (bel.cell (p := ⟨b, off + k * 2 + 1, none⟩) hlt).trans (hc k hkr).2
      obtain ⟨f1, f2⟩ := fL k hkr
      obtain ⟨x1, hX1⟩ : ∃ x, x = (rl.getD k (0, 0)).1 := ⟨_, rfl⟩
      obtain ⟨x2, hX2⟩ : ∃ x, x = (rl.getD k (0, 0)).2 := ⟨_, rfl⟩
      obtain ⟨p1, hp1⟩ : ∃ p, pickI x1 all = p := ⟨_, rfl⟩
      obtain ⟨p2, hp2⟩ : ∃ p, pickI x2 2 = p := ⟨_, rfl⟩
      have HK : Hid (kL rl all (k + 1) = kL rl all k ++ [(p1, p2)]) := by show _ = _; rw [kL_succ, ← hX1, ← hX2, hp1, hp2]
      rw [← hX1] at hx1 f1
      rw [← hX2] at hx2 f2
      obtain ⟨f11, f12⟩ := f1
      obtain ⟨f21, f22⟩ := f2
      have HP1 : Hid (pickI x1 all = p1) := hp1
      have HP2 : Hid (pickI x2 2 = p2) := hp2
      have yb : b < wr.heap.size := Nat.lt_of_lt_of_le hlt bel.size
      have cR : wr.cell? ⟨w.heap.size, 1, none⟩ = some (.slice (some ⟨b, off, none⟩) rl.length lc) := by rw [cell_of_row _ _ _ _ _ _ bR]; rfl
      have cC : wr.cell? ⟨w.heap.size + 1 + 1, 1, none⟩ = some lv := by rw [cell_of_row _ _ _ _ _ _ I.boxC]; rfl
      have fC : wr.frozen? ⟨w.heap.size + 1 + 1, 1, none⟩ = false := frozen_of_row _ _ _ _ _ I.boxC
      have hsz := I.bs
      have y0 : w.heap.size < wr.heap.size := by omega
      have y2 : w.heap.size + 1 + 1 < wr.heap.size := by omega
      have hob : ∀ q, lv.ownBlock = some q → w.heap.size + 3 ≤ q := fun q hq => (I.ownL.lt q hq).1
      have hs7 : ∀ j, j < w.heap.size + 3 → j < wr.heap.size := fun j hj => by omega
      have hs9 : ∀ (o : Obj) (j : Nat), j < w.heap.size + 3 → j < ((wr.alloc o).drew).heap.size := fun o j hj => by show j < (wr.heap.push o).size; simp; omega
      have hs8 : ∀ j, j < w.heap.size + 3 → lv.ownBlock ≠ some j := fun j hj e => by have := hob j e; omega
      have hk0 : (0 : Int) ≤ (k : Int) := by omega
      have own := I.ownL
      have hkl : (k : Int) < (rl.length : Int) := by omega
      rw [kL_len] at own
      clear hX1 hX2 hp1 hp2 hc
      go_wp2_with fail
      refine wp_region_noPanic ?_
      refine wp_region_last (by kernel_rfl) (by kernel_rfl) ?_
      simp only [List.pop_toArray, List.dropLast_cons_cons, List.dropLast_singleton, List.size_toArray, List.length_cons, List.length_nil, Nat.zero_add, Nat.reduceAdd]
      refine wpAny_of_held (S := fun w' => w'.cell? ⟨w.heap.size + 1 + 1, 1, none⟩ = some lv ∧ w'.cell? ⟨w.heap.size, 1, none⟩ = some (.slice (some ⟨b, off, none⟩) rl.length lc) ∧ w'.cell? ⟨b, off + k * 2, none⟩ = some (.int .i64 x1) ∧ w'.cell? ⟨b, off + k * 2 + 1, none⟩ = some (.int .i64 x2)) _ _ _ _ ?_
      have hHeld : (fun w' : World => w'.cell? ⟨w.heap.size + 1 + 1, 1, none⟩ = some lv ∧ w'.cell? ⟨w.heap.size, 1, none⟩ = some (.slice (some ⟨b, off, none⟩) rl.length lc) ∧ w'.cell? ⟨b, off + k * 2, none⟩ = some (.int .i64 x1) ∧ w'.cell? ⟨b, off + k * 2 + 1, none⟩ = some (.int .i64 x2)) wr.drew := ⟨cC, cR, hx1, hx2⟩
      refine wpAnyH_take (i := 0) (v := ?_) (by simp only [List.getElem?_toArray, List.getElem?_cons_zero]; rfl) (by kernel_rfl) (by kernel_rfl) (by kernel_rfl) (fun _ _ _ h => h) (Or.inl ⟨by rfl, ?_⟩) hHeld ?_
      rotate_left 1
      · (intro w0 hSw; (try dsimp only at hSw); go_simp; try (with_reducible rfl))
      simp only [Act.put, List.setIfInBounds_toArray, List.set_cons_zero, List.set_cons_succ]
      refine wpAnyH_take (i := 1) (v := ?_) (by simp only [List.getElem?_toArray, List.getElem?_cons_succ, List.getElem?_cons_zero]; rfl) (by kernel_rfl) (by kernel_rfl) (by kernel_rfl) (fun _ _ _ h => h) (Or.inl ⟨by rfl, ?_⟩) hHeld ?_
      rotate_left 1
      · (intro w0 hSw; (try dsimp only at hSw); go_simp; try (with_reducible rfl))
      simp only [Act.put, List.setIfInBounds_toArray, List.set_cons_zero, List.set_cons_succ]
      refine wpAnyH_take (i := 2) (v := ?_) (by simp only [List.getElem?_toArray, List.getElem?_cons_succ, List.getElem?_cons_zero]; rfl) (by kernel_rfl) (by kernel_rfl) (by kernel_rfl) (fun _ _ _ h => h) (Or.inl ⟨by rfl, ?_⟩) hHeld ?_
      rotate_left 1
      · (intro w0 hSw; (try dsimp only at hSw); go_simp; try (with_reducible rfl))
      simp only [Act.put, List.setIfInBounds_toArray, List.set_cons_zero, List.set_cons_succ]
      refine wpAnyH_take (i := 3) (v := ?_) (by simp only [List.getElem?_toArray, List.getElem?_cons_succ, List.getElem?_cons_zero]; rfl) (by kernel_rfl) (by kernel_rfl) (by kernel_rfl) (fun _ _ _ h => h) (Or.inl ⟨by rfl, ?_⟩) hHeld ?_
      rotate_left 1
      · (intro w0 hSw; (try dsimp only at hSw); go_simp; try (with_reducible rfl))
      simp only [Act.put, List.setIfInBounds_toArray, List.set_cons_zero, List.set_cons_succ]
      refine wpAnyH_take (i := 4) (v := ?_) (by simp only [List.getElem?_toArray, List.getElem?_cons_succ, List.getElem?_cons_zero]; rfl) (by kernel_rfl) (by kernel_rfl) (by kernel_rfl) (fun _ _ _ h => h) (Or.inl ⟨by rfl, ?_⟩) hHeld ?_
      rotate_left 1
      · (intro w0 hSw; (try dsimp only at hSw); go_simp; try (with_reducible rfl))
      simp only [Act.put, List.setIfInBounds_toArray, List.set_cons_zero, List.set_cons_succ]
      refine wpAnyH_take (i := 5) (v := ?_) (by simp only [List.getElem?_toArray, List.getElem?_cons_succ, List.getElem?_cons_zero]; rfl) (by kernel_rfl) (by kernel_rfl) (by kernel_rfl) (fun _ _ _ h => h) (Or.inl ⟨by rfl, ?_⟩) hHeld ?_
      rotate_left 1
      · (intro w0 hSw; (try dsimp only at hSw); go_simp; try (with_reducible rfl))
      simp only [Act.put, List.setIfInBounds_toArray, List.set_cons_zero, List.set_cons_succ]
      refine wpAnyH_take (i := 6) (v := ?_) (by simp only [List.getElem?_toArray, List.getElem?_cons_succ, List.getElem?_cons_zero]; rfl) (by kernel_rfl) (by kernel_rfl) (by kernel_rfl) (fun _ _ _ h => h) (Or.inl ⟨by rfl, ?_⟩) hHeld ?_
      rotate_left 1
      · (intro w0 hSw; (try dsimp only at hSw); go_simp; try (with_reducible rfl))
      simp only [Act.put, List.setIfInBounds_toArray, List.set_cons_zero, List.set_cons_succ]
      refine wpAnyH_take (i := 7) (v := ?_) (by simp only [List.getElem?_toArray, List.getElem?_cons_succ, List.getElem?_cons_zero]; rfl) (by kernel_rfl) (by kernel_rfl) (by kernel_rfl) (fun _ _ _ h => h) (Or.inl ⟨by rfl, ?_⟩) hHeld ?_
      rotate_left 1
      · (intro w0 hSw; (try dsimp only at hSw); go_simp; try (with_reducible rfl))
      simp only [Act.put, List.setIfInBounds_toArray, List.set_cons_zero, List.set_cons_succ]
      refine wpAnyH_take (i := 8) (v := ?_) (by simp only [List.getElem?_toArray, List.getElem?_cons_succ, List.getElem?_cons_zero]; rfl) (by kernel_rfl) (by kernel_rfl) (by kernel_rfl) (fun _ _ _ h => h) (Or.inl ⟨by rfl, ?_⟩) hHeld ?_
      rotate_left 1
      · (intro w0 hSw; (try dsimp only at hSw); go_simp; try (with_reducible rfl))
      simp only [Act.put, List.setIfInBounds_toArray, List.set_cons_zero, List.set_cons_succ]
      refine wpAnyH_take (i := 10) (v := ?_) (by simp only [List.getElem?_toArray, List.getElem?_cons_succ, List.getElem?_cons_zero]; rfl) (by kernel_rfl) (by kernel_rfl) (by kernel_rfl) (fun _ _ _ h => h) (Or.inl ⟨by rfl, ?_⟩) hHeld ?_
      rotate_left 1
      · (intro w0 hSw; (try dsimp only at hSw); go_simp; try (with_reducible rfl))
      simp only [Act.put, List.setIfInBounds_toArray, List.set_cons_zero, List.set_cons_succ]
      refine wpAnyH_take (i := 11) (v := ?_) (by simp only [List.getElem?_toArray, List.getElem?_cons_succ, List.getElem?_cons_zero]; rfl) (by kernel_rfl) (by kernel_rfl) (by kernel_rfl) (fun _ _ _ h => h) (Or.inl ⟨by rfl, ?_⟩) hHeld ?_
      rotate_left 1
      · (intro w0 hSw; (try dsimp only at hSw); go_simp; try (with_reducible rfl))
      simp only [Act.put, List.setIfInBounds_toArray, List.set_cons_zero, List.set_cons_succ]
      refine wpAnyH_take (i := 12) (v := ?_) (by simp only [List.getElem?_toArray, List.getElem?_cons_succ, List.getElem?_cons_zero]; rfl) (by kernel_rfl) (by kernel_rfl) (by kernel_rfl) (fun _ _ _ h => h) (Or.inl ⟨by rfl, ?_⟩) hHeld ?_
      rotate_left 1
      · (intro w0 hSw; (try dsimp only at hSw); go_simp; try (with_reducible rfl))
      simp only [Act.put, List.setIfInBounds_toArray, List.set_cons_zero, List.set_cons_succ]
      refine wpAnyH_take (i := 13) (v := ?_) (by simp only [List.getElem?_toArray, List.getElem?_cons_succ, List.getElem?_cons_zero]; rfl) (by kernel_rfl) (by kernel_rfl) (by kernel_rfl) (fun _ _ _ h => h) (Or.inl ⟨by rfl, ?_⟩) hHeld ?_
      rotate_left 1
      · (intro w0 hSw; (try dsimp only at hSw); go_simp; try (with_reducible rfl))
      simp only [Act.put, List.setIfInBounds_toArray, List.set_cons_zero, List.set_cons_succ]
      refine wpAnyH_take (i := 14) (v := ?_) (by simp only [List.getElem?_toArray, List.getElem?_cons_succ, List.getElem?_cons_zero]; rfl) (by kernel_rfl) (by kernel_rfl) (by kernel_rfl) (fun _ _ _ h => h) (Or.inl ⟨by rfl, ?_⟩) hHeld ?_
      rotate_left 1
      · (intro w0 hSw; (try dsimp only at hSw); go_simp; try (with_reducible rfl))
      simp only [Act.put, List.setIfInBounds_toArray, List.set_cons_zero, List.set_cons_succ]
      refine wpAnyH_take (i := 15) (v := ?_) (by simp only [List.getElem?_toArray, List.getElem?_cons_succ, List.getElem?_cons_zero]; rfl) (by kernel_rfl) (by kernel_rfl) (by kernel_rfl) (fun _ _ _ h => h) (Or.inl ⟨by rfl, ?_⟩) hHeld ?_
      rotate_left 1
      · (intro w0 hSw; (try dsimp only at hSw); go_simp; try (with_reducible rfl))
      simp only [Act.put, List.setIfInBounds_toArray, List.set_cons_zero, List.set_cons_succ]
      refine wpAnyH_ready (rs := [9]) (by kernel_rfl) (by simp) (AllReadyH.cons (by simp only [List.getElem?_toArray, List.getElem?_cons_succ, List.getElem?_cons_zero]; rfl) (fun K hK => ?_) AllReadyH.nil)
      go_simp
      refine (pick_to _ f11 f12 (by omega) (by omega) HP1.out).mono ?_
      rintro e w' ⟨rfl, e9⟩
      obtain rfl := e9.symm
      dsimp only
      refine hK.out _ _ ?_ (fun hHeld => ?_)
      · exact hHeld
      clear hK K
      try simp only [Act.put, List.setIfInBounds_toArray, List.set_cons_zero, List.set_cons_succ]
      refine wpAnyH_ready (rs := [16]) (by kernel_rfl) (by simp) (AllReadyH.cons (by simp only [List.getElem?_toArray, List.getElem?_cons_succ, List.getElem?_cons_zero]; rfl) (fun K hK => ?_) AllReadyH.nil)
      go_simp
      refine (pick_to _ f21 f22 (by omega) (by omega) HP2.out).mono ?_
      rintro e w' ⟨rfl, e9⟩
      obtain rfl := e9.symm
      dsimp only
      refine hK.out _ _ ?_ (fun hHeld => ?_)
      · exact hHeld
      clear hK K
      try simp only [Act.put, List.setIfInBounds_toArray, List.set_cons_zero, List.set_cons_succ]
      refine wpAnyH_take (i := 17) (v := ?_) (by simp only [List.getElem?_toArray, List.getElem?_cons_succ, List.getElem?_cons_zero]; rfl) (by kernel_rfl) (by kernel_rfl) (by kernel_rfl) (fun _ _ _ h => h) (Or.inl ⟨by rfl, ?_⟩) hHeld ?_
      rotate_left 1
      · (intro w0 hSw; (try dsimp only at hSw); go_simp; try (with_reducible rfl))
      simp only [Act.put, List.setIfInBounds_toArray, List.set_cons_zero, List.set_cons_succ]
      refine wpAnyH_ready (rs := [18]) (by kernel_rfl) (by simp) (AllReadyH.cons (by simp only [List.getElem?_toArray, List.getElem?_cons_succ, List.getElem?_cons_zero]; rfl) (fun K hK => ?_) AllReadyH.nil)
      go_simp
      refine hK.out _ _ ?_ (fun hHeld => ?_)
      · simp [go_sem, World.cell?_alloc_past, y0, y2, yb, cC, cR, hx1, hx2]
      clear hK K
      try simp only [Act.put, List.setIfInBounds_toArray, List.set_cons_zero, List.set_cons_succ]
      refine wpAnyH_ready (rs := [19]) (by kernel_rfl) (by simp) (AllReadyH.cons (by simp only [List.getElem?_toArray, List.getElem?_cons_succ, List.getElem?_cons_zero]; rfl) (fun K hK => ?_) AllReadyH.nil)
      refine step_append_lies _ (by rfl) (.tmp 41) (.tmp 58) 22 (by rfl) (w.heap.size + 3) 41 iL (.agg #[.int .i64 0, .int .i64 0]) 2 16 Try.underlying22 hiL zL0 zL1 zL2 rfl (by omega) lv k (flat (kL rl all k)) (by rfl) ((own.alloc _).drew) ⟨wr.heap.size, 0, none⟩ 1 1 [.int .i64 p1, .int .i64 p2] (by rfl) rfl (news2 _ _ _ _) (by simp [Value.oneCell']) (by omega) (by unfold maxLen; omega) (by omega) (by simp; omega) _ rfl ?_
      intro g' cap' w1 hown1 hgrow hat hlt1
      have G8 : Grew _ w1 lv g' := ⟨hgrow, hat⟩
      have hblk : ∀ j, j < w.heap.size + 3 → w1.heap[j]? = wr.heap[j]? := fun j hj => (G8.blk j (hs9 _ j hj) (fun e => hs8 j hj e)).trans (Deep.blk_alloc_lt _ _ _ (hs7 j hj))
      have cC1 : w1.cell? ⟨w.heap.size + 1 + 1, 1, none⟩ = some lv := (World.cell?_of_block (w := wr) (hblk (w.heap.size + 1 + 1) (by omega))).trans cC
      have fC1 : w1.frozen? ⟨w.heap.size + 1 + 1, 1, none⟩ = false := (World.frozen?_of_block (w := wr) (hblk (w.heap.size + 1 + 1) (by omega))).trans fC
      refine hK.out _ _ ?_ (fun hHeld => ?_)
      · exact ⟨cC1, (World.cell?_of_block (w := wr) (hblk w.heap.size (by omega))).trans cR, (World.cell?_of_block (w := wr) (hblk b (by omega))).trans hx1, (World.cell?_of_block (w := wr) (hblk b (by omega))).trans hx2⟩
      clear hK K
      try simp only [Act.put, List.setIfInBounds_toArray, List.set_cons_zero, List.set_cons_succ]
      refine wpAnyH_take (i := 20) (v := ?_) (by simp only [List.getElem?_toArray, List.getElem?_cons_succ, List.getElem?_cons_zero]; rfl) (by kernel_rfl) (by kernel_rfl) (by kernel_rfl) (fun _ _ _ h => h) (Or.inl ⟨by rfl, ?_⟩) hHeld ?_
      rotate_left 1
      · (intro w0 hSw; (try dsimp only at hSw); go_simp; try (with_reducible rfl))
      simp only [Act.put, List.setIfInBounds_toArray, List.set_cons_zero, List.set_cons_succ]
      refine wpAnyH_done (by kernel_rfl) ?_ _
      refine lastQ_step (by simp only [List.size_toArray, List.length_cons, List.length_nil, Nat.zero_add, Nat.reduceAdd, Nat.reduceSub, List.getElem?_toArray, List.getElem?_cons_succ, List.getElem?_cons_zero]; rfl) (fun K hK => ?_)
      go_simp
      refine hK _ _ (NoPanic.normal ?_)
      clear hK K hHeld
      have I9 := (I.alloc (.cells #[.int .i64 p1, .int .i64 p2] 41)).drew
      have own1 : w1.ownsRow (w.heap.size + 3) 41 2 (.slice (some ⟨g', 0, none⟩) ((kL rl all k).length + 1) cap') ((kL rl all k).length + 1) (flat (kL rl all k) ++ [.int .i64 p1, .int .i64 p2]) := by rw [kL_len]; exact hown1
      have x8 := I9.addL own1 G8
      rw [kL_len, ← HK.out] at x8
      have bel1 : Below w.heap.size w w1 := bel.trans ⟨hgrow.os, hgrow.tape, hgrow.output, Nat.le_trans (by show wr.heap.size ≤ (wr.heap.push _).size; simp) hgrow.size, fun j hj => hblk j (by omega)⟩
      have X8 := hideK x8
      clear x8
      go_wp2
      go_roundw
      case rel => exact ⟨k + 1, _, by omega, by go_num, X8.out, by rw [Deep.blk_setCell_other _ _ _ _ (show w.heap.size ≠ w.heap.size + 1 + 1 by omega), hblk _ (by omega)]; exact bR, by rw [Deep.blk_setCell_other _ _ _ _ (show w.heap.size + 1 ≠ w.heap.size + 1 + 1 by omega), hblk _ (by omega)]; exact bA, bel1.setCell (show w.heap.size ≤ w.heap.size + 1 + 1 by omega) _⟩
      case measure => simp [intOf]; omega
    · have hkN : k = 4 := by omega
      rw [hkN] at I
      rw [hkN]
      rw [show ((4 : Nat) : Int) = 4 from rfl]
      clear hkN hk2 hk
      go_wp2_with fail
      go_loopw [12] (fun i wr => ∃ (k : Nat) (gv : Value), k ≤ rg.length ∧ i = .int .i64 k ∧ LInv wr (w.heap.size + 2) (w.heap.size + 3) (.int .i64 a) lv gv (.slice none 0 0) (kL rl all 4) (kG rg (1 + a + 4) k) [] ∧ wr.heap[w.heap.size]? = some (.cells #[.int .i64 r0, .slice la rl.length lc, .slice ga rg.length gc, .slice oa ro.length oc] 26 (0, 0)) ∧ wr.heap[w.heap.size + 1]? = some (.cells #[.int .i64 0, .slice none 0 0, .slice none 0 0, .slice none 0 0] 26 (0, 0)) ∧ Below w.heap.size w wr)
        (fun i _ => rg.length - (intOf i).toNat)
      case atStart => exact ⟨0, _, Nat.zero_le _, rfl, I, bR, bA, bel⟩
      case round =>
        clear I bR bA bel
        obtain ⟨k, gv, hk, rfl, I, bR, bA, bel⟩ := hrel
        by_cases hk2 : k < rg.length
        · obtain ⟨ow, how⟩ : ∃ ow : Int, ow = 2 * (1 + (a : Int) + 4 + (k : Nat)) := ⟨_, rfl⟩
          obtain ⟨b, off, rfl, hlt, hc⟩ := hG.get (by omega)
          have hkr : k < rg.length := by omega
          have hx1 := (bel.cell (p := ⟨b, off + k * 2, none⟩) hlt).trans (hc k hkr).1
          have hx2 := (bel.cell (p := ⟨b, off + k * 2 + 1, none⟩) hlt).trans (hc k hkr).2
          obtain ⟨f1, f2⟩ := fG k hkr
          obtain ⟨x1, hX1⟩ : ∃ x, x = (rg.getD k (0, 0)).1 := ⟨_, rfl⟩
          obtain ⟨x2, hX2⟩ : ∃ x, x = (rg.getD k (0, 0)).2 := ⟨_, rfl⟩
          obtain ⟨p1, hp1⟩ : ∃ p, pickI x1 ow = p := ⟨_, rfl⟩
          obtain ⟨p2, hp2⟩ : ∃ p, pickI x2 ow = p := ⟨_, rfl⟩
          have HK : Hid (kG rg (1 + a + 4) (k + 1) = kG rg (1 + a + 4) k ++ [(p1, p2)]) := by show _ = _; rw [kG_succ, ← hX1, ← hX2, ← hp1, ← hp2, how]; congr 4 <;> omega
          have ow1 : 1 ≤ ow := by omega
          have ow2 : ow ≤ 1000 := by omega
          rw [← hX1] at hx1 f1
          rw [← hX2] at hx2 f2
          obtain ⟨f11, f12⟩ := f1
          obtain ⟨f21, f22⟩ := f2
          have HP1 : Hid (pickI x1 ow = p1) := hp1
          have HP2 : Hid (pickI x2 ow = p2) := hp2
          have yb : b < wr.heap.size := Nat.lt_of_lt_of_le hlt bel.size
          have cR : wr.cell? ⟨w.heap.size, 2, none⟩ = some (.slice (some ⟨b, off, none⟩) rg.length gc) := by rw [cell_of_row _ _ _ _ _ _ bR]; rfl
          have cC : wr.cell? ⟨w.heap.size + 1 + 1, 2, none⟩ = some gv := by rw [cell_of_row _ _ _ _ _ _ I.boxC]; rfl
          have fC : wr.frozen? ⟨w.heap.size + 1 + 1, 2, none⟩ = false := frozen_of_row _ _ _ _ _ I.boxC
          have hsz := I.bs
          have y0 : w.heap.size < wr.heap.size := by omega
          have y2 : w.heap.size + 1 + 1 < wr.heap.size := by omega
          have hob : ∀ q, gv.ownBlock = some q → w.heap.size + 3 ≤ q := fun q hq => (I.ownG.lt q hq).1
          have hs7 : ∀ j, j < w.heap.size + 3 → j < wr.heap.size := fun j hj => by omega
          have hs9 : ∀ (o : Obj) (j : Nat), j < w.heap.size + 3 → j < ((wr.alloc o).drew).heap.size := fun o j hj => by show j < (wr.heap.push o).size; simp; omega
          have hs8 : ∀ j, j < w.heap.size + 3 → gv.ownBlock ≠ some j := fun j hj e => by have := hob j e; omega
          have hk0 : (0 : Int) ≤ (k : Int) := by omega
          have own := I.ownG
          have hkl : (k : Int) < (rg.length : Int) := by omega
          rw [kG_len] at own
          have HW : Hid (ow = 2 * (1 + (a : Int) + 4 + (k : Nat))) := how
          clear hX1 hX2 hp1 hp2 hc how
          go_wp2_with fail
          rw [← HW.out]
          refine wp_region_noPanic ?_
          refine wp_region_last (by kernel_rfl) (by kernel_rfl) ?_
          simp only [List.pop_toArray, List.dropLast_cons_cons, List.dropLast_singleton, List.size_toArray, List.length_cons, List.length_nil, Nat.zero_add, Nat.reduceAdd]
          refine wpAny_of_held (S := fun w' => w'.cell? ⟨w.heap.size + 1 + 1, 2, none⟩ = some gv ∧ w'.cell? ⟨w.heap.size, 2, none⟩ = some (.slice (some ⟨b, off, none⟩) rg.length gc) ∧ w'.cell? ⟨b, off + k * 2, none⟩ = some (.int .i64 x1) ∧ w'.cell? ⟨b, off + k * 2 + 1, none⟩ = some (.int .i64 x2)) _ _ _ _ ?_
          have hHeld : (fun w' : World => w'.cell? ⟨w.heap.size + 1 + 1, 2, none⟩ = some gv ∧ w'.cell? ⟨w.heap.size, 2, none⟩ = some (.slice (some ⟨b, off, none⟩) rg.length gc) ∧ w'.cell? ⟨b, off + k * 2, none⟩ = some (.int .i64 x1) ∧ w'.cell? ⟨b, off + k * 2 + 1, none⟩ = some (.int .i64 x2)) wr.drew := ⟨cC, cR, hx1, hx2⟩
          refine wpAnyH_take (i := 0) (v := ?_) (by simp only [List.getElem?_toArray, List.getElem?_cons_zero]; rfl) (by kernel_rfl) (by kernel_rfl) (by kernel_rfl) (fun _ _ _ h => h) (Or.inl ⟨by rfl, ?_⟩) hHeld ?_
          rotate_left 1
          · (intro w0 hSw; (try dsimp only at hSw); go_simp; try (with_reducible rfl))
          simp only [Act.put, List.setIfInBounds_toArray, List.set_cons_zero, List.set_cons_succ]
          refine wpAnyH_take (i := 1) (v := ?_) (by simp only [List.getElem?_toArray, List.getElem?_cons_succ, List.getElem?_cons_zero]; rfl) (by kernel_rfl) (by kernel_rfl) (by kernel_rfl) (fun _ _ _ h => h) (Or.inl ⟨by rfl, ?_⟩) hHeld ?_
          rotate_left 1
          · (intro w0 hSw; (try dsimp only at hSw); go_simp; try (with_reducible rfl))
          simp only [Act.put, List.setIfInBounds_toArray, List.set_cons_zero, List.set_cons_succ]
          refine wpAnyH_take (i := 2) (v := ?_) (by simp only [List.getElem?_toArray, List.getElem?_cons_succ, List.getElem?_cons_zero]; rfl) (by kernel_rfl) (by kernel_rfl) (by kernel_rfl) (fun _ _ _ h => h) (Or.inl ⟨by rfl, ?_⟩) hHeld ?_
          rotate_left 1
          · (intro w0 hSw; (try dsimp only at hSw); go_simp; try (with_reducible rfl))
          simp only [Act.put, List.setIfInBounds_toArray, List.set_cons_zero, List.set_cons_succ]
          refine wpAnyH_take (i := 3) (v := ?_) (by simp only [List.getElem?_toArray, List.getElem?_cons_succ, List.getElem?_cons_zero]; rfl) (by kernel_rfl) (by kernel_rfl) (by kernel_rfl) (fun _ _ _ h => h) (Or.inl ⟨by rfl, ?_⟩) hHeld ?_
          rotate_left 1
          · (intro w0 hSw; (try dsimp only at hSw); go_simp; try (with_reducible rfl))
          simp only [Act.put, List.setIfInBounds_toArray, List.set_cons_zero, List.set_cons_succ]
          refine wpAnyH_take (i := 4) (v := ?_) (by simp only [List.getElem?_toArray, List.getElem?_cons_succ, List.getElem?_cons_zero]; rfl) (by kernel_rfl) (by kernel_rfl) (by kernel_rfl) (fun _ _ _ h => h) (Or.inl ⟨by rfl, ?_⟩) hHeld ?_
          rotate_left 1
          · (intro w0 hSw; (try dsimp only at hSw); go_simp; try (with_reducible rfl))
          simp only [Act.put, List.setIfInBounds_toArray, List.set_cons_zero, List.set_cons_succ]
          refine wpAnyH_take (i := 5) (v := ?_) (by simp only [List.getElem?_toArray, List.getElem?_cons_succ, List.getElem?_cons_zero]; rfl) (by kernel_rfl) (by kernel_rfl) (by kernel_rfl) (fun _ _ _ h => h) (Or.inl ⟨by rfl, ?_⟩) hHeld ?_
          rotate_left 1
          · (intro w0 hSw; (try dsimp only at hSw); go_simp; try (with_reducible rfl))
          simp only [Act.put, List.setIfInBounds_toArray, List.set_cons_zero, List.set_cons_succ]
          refine wpAnyH_take (i := 6) (v := ?_) (by simp only [List.getElem?_toArray, List.getElem?_cons_succ, List.getElem?_cons_zero]; rfl) (by kernel_rfl) (by kernel_rfl) (by kernel_rfl) (fun _ _ _ h => h) (Or.inl ⟨by rfl, ?_⟩) hHeld ?_
          rotate_left 1
          · (intro w0 hSw; (try dsimp only at hSw); go_simp; try (with_reducible rfl))
          simp only [Act.put, List.setIfInBounds_toArray, List.set_cons_zero, List.set_cons_succ]
          refine wpAnyH_take (i := 7) (v := ?_) (by simp only [List.getElem?_toArray, List.getElem?_cons_succ, List.getElem?_cons_zero]; rfl) (by kernel_rfl) (by kernel_rfl) (by kernel_rfl) (fun _ _ _ h => h) (Or.inl ⟨by rfl, ?_⟩) hHeld ?_
          rotate_left 1
          · (intro w0 hSw; (try dsimp only at hSw); go_simp; try (with_reducible rfl))
          simp only [Act.put, List.setIfInBounds_toArray, List.set_cons_zero, List.set_cons_succ]
          refine wpAnyH_take (i := 8) (v := ?_) (by simp only [List.getElem?_toArray, List.getElem?_cons_succ, List.getElem?_cons_zero]; rfl) (by kernel_rfl) (by kernel_rfl) (by kernel_rfl) (fun _ _ _ h => h) (Or.inl ⟨by rfl, ?_⟩) hHeld ?_
          rotate_left 1
          · (intro w0 hSw; (try dsimp only at hSw); go_simp; try (with_reducible rfl))
          simp only [Act.put, List.setIfInBounds_toArray, List.set_cons_zero, List.set_cons_succ]
          refine wpAnyH_take (i := 10) (v := ?_) (by simp only [List.getElem?_toArray, List.getElem?_cons_succ, List.getElem?_cons_zero]; rfl) (by kernel_rfl) (by kernel_rfl) (by kernel_rfl) (fun _ _ _ h => h) (Or.inl ⟨by rfl, ?_⟩) hHeld ?_
          rotate_left 1
          · (intro w0 hSw; (try dsimp only at hSw); go_simp; try (with_reducible rfl))
          simp only [Act.put, List.setIfInBounds_toArray, List.set_cons_zero, List.set_cons_succ]
          refine wpAnyH_take (i := 11) (v := ?_) (by simp only [List.getElem?_toArray, List.getElem?_cons_succ, List.getElem?_cons_zero]; rfl) (by kernel_rfl) (by kernel_rfl) (by kernel_rfl) (fun _ _ _ h => h) (Or.inl ⟨by rfl, ?_⟩) hHeld ?_
          rotate_left 1
          · (intro w0 hSw; (try dsimp only at hSw); go_simp; try (with_reducible rfl))
          simp only [Act.put, List.setIfInBounds_toArray, List.set_cons_zero, List.set_cons_succ]
          refine wpAnyH_take (i := 12) (v := ?_) (by simp only [List.getElem?_toArray, List.getElem?_cons_succ, List.getElem?_cons_zero]; rfl) (by kernel_rfl) (by kernel_rfl) (by kernel_rfl) (fun _ _ _ h => h) (Or.inl ⟨by rfl, ?_⟩) hHeld ?_
          rotate_left 1
          · (intro w0 hSw; (try dsimp only at hSw); go_simp; try (with_reducible rfl))
          simp only [Act.put, List.setIfInBounds_toArray, List.set_cons_zero, List.set_cons_succ]
          refine wpAnyH_take (i := 13) (v := ?_) (by simp only [List.getElem?_toArray, List.getElem?_cons_succ, List.getElem?_cons_zero]; rfl) (by kernel_rfl) (by kernel_rfl) (by kernel_rfl) (fun _ _ _ h => h) (Or.inl ⟨by rfl, ?_⟩) hHeld ?_
          rotate_left 1
          · (intro w0 hSw; (try dsimp only at hSw); go_simp; try (with_reducible rfl))
          simp only [Act.put, List.setIfInBounds_toArray, List.set_cons_zero, List.set_cons_succ]
          refine wpAnyH_take (i := 14) (v := ?_) (by simp only [List.getElem?_toArray, List.getElem?_cons_succ, List.getElem?_cons_zero]; rfl) (by kernel_rfl) (by kernel_rfl) (by kernel_rfl) (fun _ _ _ h => h) (Or.inl ⟨by rfl, ?_⟩) hHeld ?_
          rotate_left 1
          · (intro w0 hSw; (try dsimp only at hSw); go_simp; try (with_reducible rfl))
          simp only [Act.put, List.setIfInBounds_toArray, List.set_cons_zero, List.set_cons_succ]
          refine wpAnyH_take (i := 15) (v := ?_) (by simp only [List.getElem?_toArray, List.getElem?_cons_succ, List.getElem?_cons_zero]; rfl) (by kernel_rfl) (by kernel_rfl) (by kernel_rfl) (fun _ _ _ h => h) (Or.inl ⟨by rfl, ?_⟩) hHeld ?_
          rotate_left 1
          · (intro w0 hSw; (try dsimp only at hSw); go_simp; try (with_reducible rfl))
          simp only [Act.put, List.setIfInBounds_toArray, List.set_cons_zero, List.set_cons_succ]
          refine wpAnyH_take (i := 16) (v := ?_) (by simp only [List.getElem?_toArray, List.getElem?_cons_succ, List.getElem?_cons_zero]; rfl) (by kernel_rfl) (by kernel_rfl) (by kernel_rfl) (fun _ _ _ h => h) (Or.inl ⟨by rfl, ?_⟩) hHeld ?_
          rotate_left 1
          · (intro w0 hSw; (try dsimp only at hSw); go_simp; try (with_reducible rfl))
          simp only [Act.put, List.setIfInBounds_toArray, List.set_cons_zero, List.set_cons_succ]
          refine wpAnyH_ready (rs := [9]) (by kernel_rfl) (by simp) (AllReadyH.cons (by simp only [List.getElem?_toArray, List.getElem?_cons_succ, List.getElem?_cons_zero]; rfl) (fun K hK => ?_) AllReadyH.nil)
          go_simp
          refine (pick_to _ f11 f12 (by omega) (by omega) HP1.out).mono ?_
          rintro e w' ⟨rfl, e9⟩
          obtain rfl := e9.symm
          dsimp only
          refine hK.out _ _ ?_ (fun hHeld => ?_)
          · exact hHeld
          clear hK K
          try simp only [Act.put, List.setIfInBounds_toArray, List.set_cons_zero, List.set_cons_succ]
          refine wpAnyH_ready (rs := [17]) (by kernel_rfl) (by simp) (AllReadyH.cons (by simp only [List.getElem?_toArray, List.getElem?_cons_succ, List.getElem?_cons_zero]; rfl) (fun K hK => ?_) AllReadyH.nil)
          go_simp
          refine (pick_to _ f21 f22 (by omega) (by omega) HP2.out).mono ?_
          rintro e w' ⟨rfl, e9⟩
          obtain rfl := e9.symm
          dsimp only
          refine hK.out _ _ ?_ (fun hHeld => ?_)
          · exact hHeld
          clear hK K
          try simp only [Act.put, List.setIfInBounds_toArray, List.set_cons_zero, List.set_cons_succ]
          refine wpAnyH_take (i := 18) (v := ?_) (by simp only [List.getElem?_toArray, List.getElem?_cons_succ, List.getElem?_cons_zero]; rfl) (by kernel_rfl) (by kernel_rfl) (by kernel_rfl) (fun _ _ _ h => h) (Or.inl ⟨by rfl, ?_⟩) hHeld ?_
          rotate_left 1
          · (intro w0 hSw; (try dsimp only at hSw); go_simp; try (with_reducible rfl))
          simp only [Act.put, List.setIfInBounds_toArray, List.set_cons_zero, List.set_cons_succ]
          refine wpAnyH_ready (rs := [19]) (by kernel_rfl) (by simp) (AllReadyH.cons (by simp only [List.getElem?_toArray, List.getElem?_cons_succ, List.getElem?_cons_zero]; rfl) (fun K hK => ?_) AllReadyH.nil)
          go_simp
          refine hK.out _ _ ?_ (fun hHeld => ?_)
          · simp [go_sem, World.cell?_alloc_past, y0, y2, yb, cC, cR, hx1, hx2]
          clear hK K
          try simp only [Act.put, List.setIfInBounds_toArray, List.set_cons_zero, List.set_cons_succ]
          refine wpAnyH_ready (rs := [20]) (by kernel_rfl) (by simp) (AllReadyH.cons (by simp only [List.getElem?_toArray, List.getElem?_cons_succ, List.getElem?_cons_zero]; rfl) (fun K hK => ?_) AllReadyH.nil)
          refine step_append_lies _ (by rfl) (.tmp 74) (.tmp 92) 23 (by rfl) (w.heap.size + 3) 43 iG (.agg #[.int .i64 0, .int .i64 0]) 2 16 Try.underlying23 hiG zG0 zG1 zG2 rfl (by omega) gv k (flat (kG rg (1 + a + 4) k)) (by rfl) ((own.alloc _).drew) ⟨wr.heap.size, 0, none⟩ 1 1 [.int .i64 p1, .int .i64 p2] (by rfl) rfl (news2 _ _ _ _) (by simp [Value.oneCell']) (by omega) (by unfold maxLen; omega) (by omega) (by simp; omega) _ rfl ?_
          intro g' cap' w1 hown1 hgrow hat hlt1
          have G8 : Grew _ w1 gv g' := ⟨hgrow, hat⟩
          have hblk : ∀ j, j < w.heap.size + 3 → w1.heap[j]? = wr.heap[j]? := fun j hj => (G8.blk j (hs9 _ j hj) (fun e => hs8 j hj e)).trans (Deep.blk_alloc_lt _ _ _ (hs7 j hj))
          have cC1 : w1.cell? ⟨w.heap.size + 1 + 1, 2, none⟩ = some gv := (World.cell?_of_block (w := wr) (hblk (w.heap.size + 1 + 1) (by omega))).trans cC
          have fC1 : w1.frozen? ⟨w.heap.size + 1 + 1, 2, none⟩ = false := (World.frozen?_of_block (w := wr) (hblk (w.heap.size + 1 + 1) (by omega))).trans fC
          refine hK.out _ _ ?_ (fun hHeld => ?_)
          · exact ⟨cC1, (World.cell?_of_block (w := wr) (hblk w.heap.size (by omega))).trans cR, (World.cell?_of_block (w := wr) (hblk b (by omega))).trans hx1, (World.cell?_of_block (w := wr) (hblk b (by omega))).trans hx2⟩
          clear hK K
          try simp only [Act.put, List.setIfInBounds_toArray, List.set_cons_zero, List.set_cons_succ]
          refine wpAnyH_take (i := 21) (v := ?_) (by simp only [List.getElem?_toArray, List.getElem?_cons_succ, List.getElem?_cons_zero]; rfl) (by kernel_rfl) (by kernel_rfl) (by kernel_rfl) (fun _ _ _ h => h) (Or.inl ⟨by rfl, ?_⟩) hHeld ?_
          rotate_left 1
          · (intro w0 hSw; (try dsimp only at hSw); go_simp; try (with_reducible rfl))
          simp only [Act.put, List.setIfInBounds_toArray, List.set_cons_zero, List.set_cons_succ]
          refine wpAnyH_done (by kernel_rfl) ?_ _
          refine lastQ_step (by simp only [List.size_toArray, List.length_cons, List.length_nil, Nat.zero_add, Nat.reduceAdd, Nat.reduceSub, List.getElem?_toArray, List.getElem?_cons_succ, List.getElem?_cons_zero]; rfl) (fun K hK => ?_)
          go_simp
          refine hK _ _ (NoPanic.normal ?_)
          clear hK K hHeld
          have I9 := (I.alloc (.cells #[.int .i64 p1, .int .i64 p2] 43)).drew
          have own1 : w1.ownsRow (w.heap.size + 3) 43 2 (.slice (some ⟨g', 0, none⟩) ((kG rg (1 + a + 4) k).length + 1) cap') ((kG rg (1 + a + 4) k).length + 1) (flat (kG rg (1 + a + 4) k) ++ [.int .i64 p1, .int .i64 p2]) := by rw [kG_len]; exact hown1
          have x8 := I9.addG own1 G8
          rw [kG_len, ← HK.out] at x8
          have bel1 : Below w.heap.size w w1 := bel.trans ⟨hgrow.os, hgrow.tape, hgrow.output, Nat.le_trans (by show wr.heap.size ≤ (wr.heap.push _).size; simp) hgrow.size, fun j hj => hblk j (by omega)⟩
          have X8 := hideK x8
          clear x8
          go_wp2
          go_roundw
          case rel => exact ⟨k + 1, _, by omega, by go_num, X8.out, by rw [Deep.blk_setCell_other _ _ _ _ (show w.heap.size ≠ w.heap.size + 1 + 1 by omega), hblk _ (by omega)]; exact bR, by rw [Deep.blk_setCell_other _ _ _ _ (show w.heap.size + 1 ≠ w.heap.size + 1 + 1 by omega), hblk _ (by omega)]; exact bA, bel1.setCell (show w.heap.size ≤ w.heap.size + 1 + 1 by omega) _⟩
          case measure => simp [intOf]; omega
        · have hkN : k = rg.length := by omega
          rw [hkN] at I
          rw [hkN]
          clear hkN hk2 hk
          go_wp2_with fail
          go_loopw [14] (fun i wr => ∃ (k : Nat) (ov : Value), k ≤ o ∧ i = .int .i64 k ∧ LInv wr (w.heap.size + 2) (w.heap.size + 3) (.int .i64 a) lv gv ov (kL rl all 4) (kG rg (1 + a + 4) rg.length) (kO ro all k) ∧ wr.heap[w.heap.size]? = some (.cells #[.int .i64 r0, .slice la rl.length lc, .slice ga rg.length gc, .slice oa ro.length oc] 26 (0, 0)) ∧ wr.heap[w.heap.size + 1]? = some (.cells #[.int .i64 0, .slice none 0 0, .slice none 0 0, .slice none 0 0] 26 (0, 0)) ∧ Below w.heap.size w wr)
            (fun i _ => o - (intOf i).toNat)
          case atStart => exact ⟨0, _, Nat.zero_le _, rfl, I, bR, bA, bel⟩
          case round =>
            clear I bR bA bel
            obtain ⟨k, ov, hk, rfl, I, bR, bA, bel⟩ := hrel
            by_cases hk2 : k < o
            · by_cases hk3 : k < ro.length
              · obtain ⟨b, off, rfl, hlt, hc⟩ := hO.get (by omega)
                have hx1 := (bel.cell (p := ⟨b, off + k, none⟩) hlt).trans (hc k hk3)
                obtain ⟨f11, f12⟩ := fO k hk3
                obtain ⟨x1, hX1⟩ : ∃ x, x = ro.getD k 0 := ⟨_, rfl⟩
                rw [← hX1] at hx1 f11 f12
                have cR : wr.cell? ⟨w.heap.size, 3, none⟩ = some (.slice (some ⟨b, off, none⟩) ro.length oc) := by rw [cell_of_row _ _ _ _ _ _ bR]; rfl
                have hkl : (k : Int) < (ro.length : Int) := by omega
                obtain ⟨p1, hp1⟩ : ∃ p, pickI x1 all = p := ⟨_, rfl⟩
                have HK : Hid (kO ro all (k + 1) = kO ro all k ++ [p1]) := by show _ = _; rw [kO_succ, ← hX1, ← hp1]
                have HP1 : Hid (pickI x1 all = p1) := hp1
                have cC : wr.cell? ⟨w.heap.size + 1 + 1, 3, none⟩ = some ov := by rw [cell_of_row _ _ _ _ _ _ I.boxC]; rfl
                have fC : wr.frozen? ⟨w.heap.size + 1 + 1, 3, none⟩ = false := frozen_of_row _ _ _ _ _ I.boxC
                have hsz := I.bs
                have y0 : w.heap.size < wr.heap.size := by omega
                have y2 : w.heap.size + 1 + 1 < wr.heap.size := by omega
                have hob : ∀ q, ov.ownBlock = some q → w.heap.size + 3 ≤ q := fun q hq => (I.ownO.lt q hq).1
                have hs7 : ∀ j, j < w.heap.size + 3 → j < wr.heap.size := fun j hj => by omega
                have hs9 : ∀ (o : Obj) (j : Nat), j < w.heap.size + 3 → j < ((wr.alloc o).drew).heap.size := fun o j hj => by show j < (wr.heap.push o).size; simp; omega
                have hs8 : ∀ j, j < w.heap.size + 3 → ov.ownBlock ≠ some j := fun j hj e => by have := hob j e; omega
                have hk0 : (0 : Int) ≤ (k : Int) := by omega
                have own := I.ownO
                have hko : (k : Int) < (o : Int) := by omega
                rw [kO_len] at own
                clear hX1 hp1 hc
                go_wp2_with fail
                refine wp_region_noPanic ?_
                refine wp_region_last (by kernel_rfl) (by kernel_rfl) ?_
                simp only [List.pop_toArray, List.dropLast_cons_cons, List.dropLast_singleton, List.size_toArray, List.length_cons, List.length_nil, Nat.zero_add, Nat.reduceAdd]
                refine wpAny_of_held (S := fun w' => w'.cell? ⟨w.heap.size + 1 + 1, 3, none⟩ = some ov) _ _ _ _ ?_
                have hHeld : (fun w' : World => w'.cell? ⟨w.heap.size + 1 + 1, 3, none⟩ = some ov) wr.drew := cC
                refine wpAnyH_take (i := 0) (v := ?_) (by simp only [List.getElem?_toArray, List.getElem?_cons_zero]; rfl) (by kernel_rfl) (by kernel_rfl) (by kernel_rfl) (fun _ _ _ h => h) (Or.inl ⟨by rfl, ?_⟩) hHeld ?_
                rotate_left 1
                · (intro w0 hSw; (try dsimp only at hSw); go_simp; try (with_reducible rfl))
                simp only [Act.put, List.setIfInBounds_toArray, List.set_cons_zero, List.set_cons_succ]
                refine wpAnyH_take (i := 1) (v := ?_) (by simp only [List.getElem?_toArray, List.getElem?_cons_succ, List.getElem?_cons_zero]; rfl) (by kernel_rfl) (by kernel_rfl) (by kernel_rfl) (fun _ _ _ h => h) (Or.inl ⟨by rfl, ?_⟩) hHeld ?_
                rotate_left 1
                · (intro w0 hSw; (try dsimp only at hSw); go_simp; try (with_reducible rfl))
                simp only [Act.put, List.setIfInBounds_toArray, List.set_cons_zero, List.set_cons_succ]
                refine wpAnyH_take (i := 2) (v := ?_) (by simp only [List.getElem?_toArray, List.getElem?_cons_succ, List.getElem?_cons_zero]; rfl) (by kernel_rfl) (by kernel_rfl) (by kernel_rfl) (fun _ _ _ h => h) (Or.inl ⟨by rfl, ?_⟩) hHeld ?_
                rotate_left 1
                · (intro w0 hSw; (try dsimp only at hSw); go_simp; try (with_reducible rfl))
                simp only [Act.put, List.setIfInBounds_toArray, List.set_cons_zero, List.set_cons_succ]
                refine wpAnyH_take (i := 3) (v := ?_) (by simp only [List.getElem?_toArray, List.getElem?_cons_succ, List.getElem?_cons_zero]; rfl) (by kernel_rfl) (by kernel_rfl) (by kernel_rfl) (fun _ _ _ h => h) (Or.inl ⟨by rfl, ?_⟩) hHeld ?_
                rotate_left 1
                · (intro w0 hSw; (try dsimp only at hSw); go_simp; try (with_reducible rfl))
                simp only [Act.put, List.setIfInBounds_toArray, List.set_cons_zero, List.set_cons_succ]
                refine wpAnyH_ready (rs := [4]) (by kernel_rfl) (by simp) (AllReadyH.cons (by simp only [List.getElem?_toArray, List.getElem?_cons_succ, List.getElem?_cons_zero]; rfl) (fun K hK => ?_) AllReadyH.nil)
                go_simp
                refine (pick_to _ f11 f12 (by omega) (by omega) HP1.out).mono ?_
                rintro e w' ⟨rfl, e9⟩
                obtain rfl := e9.symm
                dsimp only
                refine hK.out _ _ ?_ (fun hHeld => ?_)
                · exact hHeld
                clear hK K
                try simp only [Act.put, List.setIfInBounds_toArray, List.set_cons_zero, List.set_cons_succ]
                refine wpAnyH_ready (rs := [5]) (by kernel_rfl) (by simp) (AllReadyH.cons (by simp only [List.getElem?_toArray, List.getElem?_cons_succ, List.getElem?_cons_zero]; rfl) (fun K hK => ?_) AllReadyH.nil)
                go_simp
                refine hK.out _ _ ?_ (fun hHeld => ?_)
                · simp [go_sem, World.cell?_alloc_past, y2, cC]
                clear hK K
                try simp only [Act.put, List.setIfInBounds_toArray, List.set_cons_zero, List.set_cons_succ]
                refine wpAnyH_ready (rs := [6]) (by kernel_rfl) (by simp) (AllReadyH.cons (by simp only [List.getElem?_toArray, List.getElem?_cons_succ, List.getElem?_cons_zero]; rfl) (fun K hK => ?_) AllReadyH.nil)
                refine step_append_lies _ (by rfl) (.tmp 111) (.tmp 115) 24 (by rfl) (w.heap.size + 3) 3 iO (.int .i64 0) 1 8 Try.underlying24 hiO zO0 zO1 zO2 rfl (by omega) ov k (ivs (kO ro all k)) (by rfl) ((own.alloc _).drew) ⟨wr.heap.size, 0, none⟩ 1 1 [.int .i64 p1] (by rfl) rfl (news1K _ _ _) (by simp [Value.oneCell']) (by omega) (by unfold maxLen; omega) (by omega) (by simp; omega) _ rfl ?_
                intro g' cap' w1 hown1 hgrow hat hlt1
                have G8 : Grew _ w1 ov g' := ⟨hgrow, hat⟩
                have hblk : ∀ j, j < w.heap.size + 3 → w1.heap[j]? = wr.heap[j]? := fun j hj => (G8.blk j (hs9 _ j hj) (fun e => hs8 j hj e)).trans (Deep.blk_alloc_lt _ _ _ (hs7 j hj))
                have cC1 : w1.cell? ⟨w.heap.size + 1 + 1, 3, none⟩ = some ov := (World.cell?_of_block (w := wr) (hblk (w.heap.size + 1 + 1) (by omega))).trans cC
                have fC1 : w1.frozen? ⟨w.heap.size + 1 + 1, 3, none⟩ = false := (World.frozen?_of_block (w := wr) (hblk (w.heap.size + 1 + 1) (by omega))).trans fC
                refine hK.out _ _ ?_ (fun hHeld => ?_)
                · exact cC1
                clear hK K
                try simp only [Act.put, List.setIfInBounds_toArray, List.set_cons_zero, List.set_cons_succ]
                refine wpAnyH_take (i := 7) (v := ?_) (by simp only [List.getElem?_toArray, List.getElem?_cons_succ, List.getElem?_cons_zero]; rfl) (by kernel_rfl) (by kernel_rfl) (by kernel_rfl) (fun _ _ _ h => h) (Or.inl ⟨by rfl, ?_⟩) hHeld ?_
                rotate_left 1
                · (intro w0 hSw; (try dsimp only at hSw); go_simp; try (with_reducible rfl))
                simp only [Act.put, List.setIfInBounds_toArray, List.set_cons_zero, List.set_cons_succ]
                refine wpAnyH_done (by kernel_rfl) ?_ _
                refine lastQ_step (by simp only [List.size_toArray, List.length_cons, List.length_nil, Nat.zero_add, Nat.reduceAdd, Nat.reduceSub, List.getElem?_toArray, List.getElem?_cons_succ, List.getElem?_cons_zero]; rfl) (fun K hK => ?_)
                go_simp
                refine hK _ _ (NoPanic.normal ?_)
                clear hK K hHeld
                have I9 := (I.alloc (.cells #[.int .i64 p1] 3)).drew
                have own1 : w1.ownsRow (w.heap.size + 3) 3 1 (.slice (some ⟨g', 0, none⟩) ((kO ro all k).length + 1) cap') ((kO ro all k).length + 1) (ivs (kO ro all k) ++ [.int .i64 p1]) := by rw [kO_len]; exact hown1
                have x8 := I9.addO own1 G8
                rw [kO_len, ← HK.out] at x8
                have bel1 : Below w.heap.size w w1 := bel.trans ⟨hgrow.os, hgrow.tape, hgrow.output, Nat.le_trans (by show wr.heap.size ≤ (wr.heap.push _).size; simp) hgrow.size, fun j hj => hblk j (by omega)⟩
                have X8 := hideK x8
                clear x8
                go_wp2
                go_roundw
                case rel => exact ⟨k + 1, _, by omega, by go_num, X8.out, by rw [Deep.blk_setCell_other _ _ _ _ (show w.heap.size ≠ w.heap.size + 1 + 1 by omega), hblk _ (by omega)]; exact bR, by rw [Deep.blk_setCell_other _ _ _ _ (show w.heap.size + 1 ≠ w.heap.size + 1 + 1 by omega), hblk _ (by omega)]; exact bA, bel1.setCell (show w.heap.size ≤ w.heap.size + 1 + 1 by omega) _⟩
                case measure => simp [intOf]; omega
              · have hX1 : (0 : Int) = ro.getD k 0 := by rw [List.getD_eq_getElem?_getD, List.getElem?_eq_none (by omega)]; rfl
                have cR : wr.cell? ⟨w.heap.size, 3, none⟩ = some (.slice oa ro.length oc) := by rw [cell_of_row _ _ _ _ _ _ bR]; rfl
                have hkl : ¬ (k : Int) < (ro.length : Int) := by omega
                have f11 : -9223372036854775808 ≤ (0 : Int) := by omega
                have f12 : (0 : Int) ≤ 9223372036854775807 := by omega
                obtain ⟨p1, hp1⟩ : ∃ p, pickI 0 all = p := ⟨_, rfl⟩
                have HK : Hid (kO ro all (k + 1) = kO ro all k ++ [p1]) := by show _ = _; rw [kO_succ, ← hX1, ← hp1]
                have HP1 : Hid (pickI 0 all = p1) := hp1
                have cC : wr.cell? ⟨w.heap.size + 1 + 1, 3, none⟩ = some ov := by rw [cell_of_row _ _ _ _ _ _ I.boxC]; rfl
                have fC : wr.frozen? ⟨w.heap.size + 1 + 1, 3, none⟩ = false := frozen_of_row _ _ _ _ _ I.boxC
                have hsz := I.bs
                have y0 : w.heap.size < wr.heap.size := by omega
                have y2 : w.heap.size + 1 + 1 < wr.heap.size := by omega
                have hob : ∀ q, ov.ownBlock = some q → w.heap.size + 3 ≤ q := fun q hq => (I.ownO.lt q hq).1
                have hs7 : ∀ j, j < w.heap.size + 3 → j < wr.heap.size := fun j hj => by omega
                have hs9 : ∀ (o : Obj) (j : Nat), j < w.heap.size + 3 → j < ((wr.alloc o).drew).heap.size := fun o j hj => by show j < (wr.heap.push o).size; simp; omega
                have hs8 : ∀ j, j < w.heap.size + 3 → ov.ownBlock ≠ some j := fun j hj e => by have := hob j e; omega
                have hk0 : (0 : Int) ≤ (k : Int) := by omega
                have own := I.ownO
                have hko : (k : Int) < (o : Int) := by omega
                rw [kO_len] at own
                clear hX1 hp1
                go_wp2_with fail
                refine wp_region_noPanic ?_
                refine wp_region_last (by kernel_rfl) (by kernel_rfl) ?_
                simp only [List.pop_toArray, List.dropLast_cons_cons, List.dropLast_singleton, List.size_toArray, List.length_cons, List.length_nil, Nat.zero_add, Nat.reduceAdd]
                refine wpAny_of_held (S := fun w' => w'.cell? ⟨w.heap.size + 1 + 1, 3, none⟩ = some ov) _ _ _ _ ?_
                have hHeld : (fun w' : World => w'.cell? ⟨w.heap.size + 1 + 1, 3, none⟩ = some ov) wr.drew := cC
                refine wpAnyH_take (i := 0) (v := ?_) (by simp only [List.getElem?_toArray, List.getElem?_cons_zero]; rfl) (by kernel_rfl) (by kernel_rfl) (by kernel_rfl) (fun _ _ _ h => h) (Or.inl ⟨by rfl, ?_⟩) hHeld ?_
                rotate_left 1
                · (intro w0 hSw; (try dsimp only at hSw); go_simp; try (with_reducible rfl))
                simp only [Act.put, List.setIfInBounds_toArray, List.set_cons_zero, List.set_cons_succ]
                refine wpAnyH_take (i := 1) (v := ?_) (by simp only [List.getElem?_toArray, List.getElem?_cons_succ, List.getElem?_cons_zero]; rfl) (by kernel_rfl) (by kernel_rfl) (by kernel_rfl) (fun _ _ _ h => h) (Or.inl ⟨by rfl, ?_⟩) hHeld ?_
                rotate_left 1
                · (intro w0 hSw; (try dsimp only at hSw); go_simp; try (with_reducible rfl))
                simp only [Act.put, List.setIfInBounds_toArray, List.set_cons_zero, List.set_cons_succ]
                refine wpAnyH_take (i := 2) (v := ?_) (by simp only [List.getElem?_toArray, List.getElem?_cons_succ, List.getElem?_cons_zero]; rfl) (by kernel_rfl) (by kernel_rfl) (by kernel_rfl) (fun _ _ _ h => h) (Or.inl ⟨by rfl, ?_⟩) hHeld ?_
                rotate_left 1
                · (intro w0 hSw; (try dsimp only at hSw); go_simp; try (with_reducible rfl))
                simp only [Act.put, List.setIfInBounds_toArray, List.set_cons_zero, List.set_cons_succ]
                refine wpAnyH_take (i := 3) (v := ?_) (by simp only [List.getElem?_toArray, List.getElem?_cons_succ, List.getElem?_cons_zero]; rfl) (by kernel_rfl) (by kernel_rfl) (by kernel_rfl) (fun _ _ _ h => h) (Or.inl ⟨by rfl, ?_⟩) hHeld ?_
                rotate_left 1
                · (intro w0 hSw; (try dsimp only at hSw); go_simp; try (with_reducible rfl))
                simp only [Act.put, List.setIfInBounds_toArray, List.set_cons_zero, List.set_cons_succ]
                refine wpAnyH_ready (rs := [4]) (by kernel_rfl) (by simp) (AllReadyH.cons (by simp only [List.getElem?_toArray, List.getElem?_cons_succ, List.getElem?_cons_zero]; rfl) (fun K hK => ?_) AllReadyH.nil)
                go_simp
                refine (pick_to _ f11 f12 (by omega) (by omega) HP1.out).mono ?_
                rintro e w' ⟨rfl, e9⟩
                obtain rfl := e9.symm
                dsimp only
                refine hK.out _ _ ?_ (fun hHeld => ?_)
                · exact hHeld
                clear hK K
                try simp only [Act.put, List.setIfInBounds_toArray, List.set_cons_zero, List.set_cons_succ]
                refine wpAnyH_ready (rs := [5]) (by kernel_rfl) (by simp) (AllReadyH.cons (by simp only [List.getElem?_toArray, List.getElem?_cons_succ, List.getElem?_cons_zero]; rfl) (fun K hK => ?_) AllReadyH.nil)
                go_simp
                refine hK.out _ _ ?_ (fun hHeld => ?_)
                · simp [go_sem, World.cell?_alloc_past, y2, cC]
                clear hK K
                try simp only [Act.put, List.setIfInBounds_toArray, List.set_cons_zero, List.set_cons_succ]
                refine wpAnyH_ready (rs := [6]) (by kernel_rfl) (by simp) (AllReadyH.cons (by simp only [List.getElem?_toArray, List.getElem?_cons_succ, List.getElem?_cons_zero]; rfl) (fun K hK => ?_) AllReadyH.nil)
                refine step_append_lies _ (by rfl) (.tmp 111) (.tmp 115) 24 (by rfl) (w.heap.size + 3) 3 iO (.int .i64 0) 1 8 Try.underlying24 hiO zO0 zO1 zO2 rfl (by omega) ov k (ivs (kO ro all k)) (by rfl) ((own.alloc _).drew) ⟨wr.heap.size, 0, none⟩ 1 1 [.int .i64 p1] (by rfl) rfl (news1K _ _ _) (by simp [Value.oneCell']) (by omega) (by unfold maxLen; omega) (by omega) (by simp; omega) _ rfl ?_
                intro g' cap' w1 hown1 hgrow hat hlt1
                have G8 : Grew _ w1 ov g' := ⟨hgrow, hat⟩
                have hblk : ∀ j, j < w.heap.size + 3 → w1.heap[j]? = wr.heap[j]? := fun j hj => (G8.blk j (hs9 _ j hj) (fun e => hs8 j hj e)).trans (Deep.blk_alloc_lt _ _ _ (hs7 j hj))
                have cC1 : w1.cell? ⟨w.heap.size + 1 + 1, 3, none⟩ = some ov := (World.cell?_of_block (w := wr) (hblk (w.heap.size + 1 + 1) (by omega))).trans cC
                have fC1 : w1.frozen? ⟨w.heap.size + 1 + 1, 3, none⟩ = false := (World.frozen?_of_block (w := wr) (hblk (w.heap.size + 1 + 1) (by omega))).trans fC
                refine hK.out _ _ ?_ (fun hHeld => ?_)
                · exact cC1
                clear hK K
                try simp only [Act.put, List.setIfInBounds_toArray, List.set_cons_zero, List.set_cons_succ]
                refine wpAnyH_take (i := 7) (v := ?_) (by simp only [List.getElem?_toArray, List.getElem?_cons_succ, List.getElem?_cons_zero]; rfl) (by kernel_rfl) (by kernel_rfl) (by kernel_rfl) (fun _ _ _ h => h) (Or.inl ⟨by rfl, ?_⟩) hHeld ?_
                rotate_left 1
                · (intro w0 hSw; (try dsimp only at hSw); go_simp; try (with_reducible rfl))
                simp only [Act.put, List.setIfInBounds_toArray, List.set_cons_zero, List.set_cons_succ]
                refine wpAnyH_done (by kernel_rfl) ?_ _
                refine lastQ_step (by simp only [List.size_toArray, List.length_cons, List.length_nil, Nat.zero_add, Nat.reduceAdd, Nat.reduceSub, List.getElem?_toArray, List.getElem?_cons_succ, List.getElem?_cons_zero]; rfl) (fun K hK => ?_)
                go_simp
                refine hK _ _ (NoPanic.normal ?_)
                clear hK K hHeld
                have I9 := (I.alloc (.cells #[.int .i64 p1] 3)).drew
                have own1 : w1.ownsRow (w.heap.size + 3) 3 1 (.slice (some ⟨g', 0, none⟩) ((kO ro all k).length + 1) cap') ((kO ro all k).length + 1) (ivs (kO ro all k) ++ [.int .i64 p1]) := by rw [kO_len]; exact hown1
                have x8 := I9.addO own1 G8
                rw [kO_len, ← HK.out] at x8
                have bel1 : Below w.heap.size w w1 := bel.trans ⟨hgrow.os, hgrow.tape, hgrow.output, Nat.le_trans (by show wr.heap.size ≤ (wr.heap.push _).size; simp) hgrow.size, fun j hj => hblk j (by omega)⟩
                have X8 := hideK x8
                clear x8
                go_wp2
                go_roundw
                case rel => exact ⟨k + 1, _, by omega, by go_num, X8.out, by rw [Deep.blk_setCell_other _ _ _ _ (show w.heap.size ≠ w.heap.size + 1 + 1 by omega), hblk _ (by omega)]; exact bR, by rw [Deep.blk_setCell_other _ _ _ _ (show w.heap.size + 1 ≠ w.heap.size + 1 + 1 by omega), hblk _ (by omega)]; exact bA, bel1.setCell (show w.heap.size ≤ w.heap.size + 1 + 1 by omega) _⟩
                case measure => simp [intOf]; omega
            · have hkN : k = o := by omega
              rw [hkN] at I
              rw [hkN]
              clear hkN hk2 hk
              have q0 : wr.cell? ⟨w.heap.size + 1 + 1, 0, none⟩ = some (.int .i64 a) := by rw [cell_of_row _ _ _ _ _ _ I.boxC]; rfl
              have q1 : wr.cell? ⟨w.heap.size + 1 + 1, 1, none⟩ = some lv := by rw [cell_of_row _ _ _ _ _ _ I.boxC]; rfl
              have q2 : wr.cell? ⟨w.heap.size + 1 + 1, 2, none⟩ = some gv := by rw [cell_of_row _ _ _ _ _ _ I.boxC]; rfl
              have q3 : wr.cell? ⟨w.heap.size + 1 + 1, 3, none⟩ = some ov := by rw [cell_of_row _ _ _ _ _ _ I.boxC]; rfl
              have u0 : wr.cell? ⟨w.heap.size + 1, 0, none⟩ = some (.int .i64 0) := by rw [cell_of_row _ _ _ _ _ _ bA]; rfl
              have u1 : wr.cell? ⟨w.heap.size + 1, 1, none⟩ = some (.slice none 0 0) := by rw [cell_of_row _ _ _ _ _ _ bA]; rfl
              have u2 : wr.cell? ⟨w.heap.size + 1, 2, none⟩ = some (.slice none 0 0) := by rw [cell_of_row _ _ _ _ _ _ bA]; rfl
              have u3 : wr.cell? ⟨w.heap.size + 1, 3, none⟩ = some (.slice none 0 0) := by rw [cell_of_row _ _ _ _ _ _ bA]; rfl
              have v0 : wr.frozen? ⟨w.heap.size + 1, 0, none⟩ = false := frozen_of_row _ _ _ _ _ bA
              have v1 : wr.frozen? ⟨w.heap.size + 1, 1, none⟩ = false := frozen_of_row _ _ _ _ _ bA
              have v2 : wr.frozen? ⟨w.heap.size + 1, 2, none⟩ = false := frozen_of_row _ _ _ _ _ bA
              have v3 : wr.frozen? ⟨w.heap.size + 1, 3, none⟩ = false := frozen_of_row _ _ _ _ _ bA
              obtain ⟨la', ln', lc', rfl⟩ := own_slice I.ownL
              obtain ⟨ga', gn', gc', rfl⟩ := own_slice I.ownG
              obtain ⟨oa', on', oc', rfl⟩ := own_slice I.ownO
              go_wp2
              refine circ_close (b := w.heap.size + 1) (box4_blk bA _ _ _ _) (by rfl) ?_
              have hsz := I.bs
              refine ⟨_, _, _, rfl, box4_own (b := w.heap.size + 1) (HALL.out ▸ I.ownL) (by omega) (by omega) _ _ _ _, box4_own (b := w.heap.size + 1) I.ownG (by omega) (by omega) _ _ _ _, box4_own (b := w.heap.size + 1) (HALL.out ▸ I.ownO) (by omega) (by omega) _ _ _ _, I.lg, I.lo, I.go', box4_below bel (by omega) _ _ _ _⟩

end Go.Proofs.Ytgpaajdfkekjiab
