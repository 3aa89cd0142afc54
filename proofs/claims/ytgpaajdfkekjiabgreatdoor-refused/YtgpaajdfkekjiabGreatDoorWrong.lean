/-
  What Write, Slim, Chances and Compare of package latch answer where the document refuses: the error alone.
-/
import Derived.Test.YtgpaajdfkekjiabGreatDoorRun
import Derived.Test.YtgpaajdfkekjiabGreatDoorBox
import Derived.Test.YtgpaajdfkekjiabGreatDoorMem
namespace Go.Proofs.YtgpaajdfkekjiabGreatDoor
open Go.RowKit


set_option maxHeartbeats 1000000 in
set_option maxRecDepth 100000 in
theorem write_wrong (n : Int) (la ga oa : Option Addr) (lc gc oc : Nat) (ls gs : List (Int × Int)) (os : List Int) (w : World)
    (hL : PairsAt w la ls) (hG : PairsAt w ga gs) (hO : IntsAt w oa os) (hr : rightB n ls gs os = false) :
    Calls Tryz.prog 8 #[.agg #[.int .i64 n, .slice la ls.length lc, .slice ga gs.length gc, .slice oa os.length oc]] w fun e w' =>
      e = .returned (.tuple #[.string ⟨#[]⟩, .int .i64 2]) ∧ Below w.heap.size w w' := by
  have bel0 : Below w.heap.size w (w.alloc (.cells #[.int .i64 n, .slice la ls.length lc, .slice ga gs.length gc, .slice oa os.length oc] 27)) := (Below.refl _ _).alloc (Nat.le_refl _) _
  have hL0 := hL.below bel0
  have hG0 := hG.below bel0
  have hO0 := hO.below bel0
  go_enter Tryz.func8, Tryz.ntmps8
  go_wp2_with (go_at_call 15; refine (right_is _ hL0 hG0 hO0 hr).mono ?_; rintro e w1 ⟨rfl, b1⟩)
  go_ret2
  exact ⟨rfl, bel0.trans (b1.mono (by simp))⟩

set_option maxHeartbeats 1000000 in
set_option maxRecDepth 100000 in
theorem chances_wrong (n st : Int) (la ga oa : Option Addr) (lc gc oc : Nat) (ls gs : List (Int × Int)) (os : List Int) (w : World)
    (hL : PairsAt w la ls) (hG : PairsAt w ga gs) (hO : IntsAt w oa os) (hr : rightB n ls gs os = false) :
    Calls Tryz.prog 11 #[.agg #[.int .i64 n, .slice la ls.length lc, .slice ga gs.length gc, .slice oa os.length oc], .int .i64 st] w fun e w' =>
      e = .returned (.tuple #[.slice none 0 0, .int .i64 2]) ∧ Below w.heap.size w w' := by
  have bel0 : Below w.heap.size w (w.alloc (.cells #[.int .i64 n, .slice la ls.length lc, .slice ga gs.length gc, .slice oa os.length oc] 27)) := (Below.refl _ _).alloc (Nat.le_refl _) _
  have hL0 := hL.below bel0
  have hG0 := hG.below bel0
  have hO0 := hO.below bel0
  go_enter Tryz.func11, Tryz.ntmps11
  go_wp2_with (go_at_call 15; refine (right_is _ hL0 hG0 hO0 hr).mono ?_; rintro e w1 ⟨rfl, b1⟩)
  go_ret2
  exact ⟨rfl, bel0.trans (b1.mono (by simp))⟩

set_option maxHeartbeats 1000000 in
set_option maxRecDepth 100000 in
theorem chances_steps (n st : Int) (la ga oa : Option Addr) (lc gc oc : Nat) (ls gs : List (Int × Int)) (os : List Int) (w : World)
    (hL : PairsAt w la ls) (hG : PairsAt w ga gs) (hO : IntsAt w oa os) (hr : rightB n ls gs os = true) (hs : st < 1 ∨ 10 < st) :
    Calls Tryz.prog 11 #[.agg #[.int .i64 n, .slice la ls.length lc, .slice ga gs.length gc, .slice oa os.length oc], .int .i64 st] w fun e w' =>
      e = .returned (.tuple #[.slice none 0 0, .int .i64 5]) ∧ Below w.heap.size w w' := by
  have bel0 : Below w.heap.size w (w.alloc (.cells #[.int .i64 n, .slice la ls.length lc, .slice ga gs.length gc, .slice oa os.length oc] 27)) := (Below.refl _ _).alloc (Nat.le_refl _) _
  have hL0 := hL.below bel0
  have hG0 := hG.below bel0
  have hO0 := hO.below bel0
  by_cases h1 : st < 1
  · clear hs
    go_enter Tryz.func11, Tryz.ntmps11
    go_wp2_with (go_at_call 15; refine (right_is _ hL0 hG0 hO0 hr).mono ?_; rintro e w1 ⟨rfl, b1⟩)
    go_ret2
    exact ⟨rfl, bel0.trans (b1.mono (by simp))⟩
  · have h2 : 10 < st := by omega
    clear hs
    go_enter Tryz.func11, Tryz.ntmps11
    go_wp2_with (go_at_call 15; refine (right_is _ hL0 hG0 hO0 hr).mono ?_; rintro e w1 ⟨rfl, b1⟩)
    go_ret2
    exact ⟨rfl, bel0.trans (b1.mono (by simp))⟩

theorem slim_results {w : World} {b : Nat} {tmps : Array Value} {v0 v1 v2 v3 y : Value} (h : w.heap[b]? = some (.cells #[v0, v1, v2, v3] 27 (0, 0)))
    (h2 : tmps[2]?.getD undef = .pointer (some ⟨b, 0, none⟩)) (h3 : tmps[3]?.getD undef = y) :
    (results Tryz.f10 tmps).run Tryz.prog w = .ok (.tuple #[.agg #[v0, v1, v2, v3], y]) w := by
  have c0 : w.cell? ⟨b, 0, none⟩ = some v0 := by rw [cell_of_row _ _ _ _ _ _ h]; rfl
  have c1 : w.cell? ⟨b, 1, none⟩ = some v1 := by rw [cell_of_row _ _ _ _ _ _ h]; rfl
  have c2 : w.cell? ⟨b, 2, none⟩ = some v2 := by rw [cell_of_row _ _ _ _ _ _ h]; rfl
  have c3 : w.cell? ⟨b, 3, none⟩ = some v3 := by rw [cell_of_row _ _ _ _ _ _ h]; rfl
  simp [results, Tryz.results10, go_sem, h2, h3, c0, c1, c2, c3]
theorem slim_close {tmps : Array Value} {Q : Ending → World → Prop} {w : World} {b : Nat} {v0 v1 v2 v3 y : Value} (h : w.heap[b]? = some (.cells #[v0, v1, v2, v3] 27 (0, 0)))
    (h2 : tmps[2]?.getD undef = .pointer (some ⟨b, 0, none⟩)) (h3 : tmps[3]?.getD undef = y) (hQ : Q (.returned (.tuple #[.agg #[v0, v1, v2, v3], y])) w) :
    bodyPost Tryz.prog Tryz.f10 Q Exit.ret ⟨tmps, []⟩ w := bodyPost_ret (slim_results h h2 h3) rfl hQ

set_option maxHeartbeats 1000000 in
set_option maxRecDepth 100000 in
theorem slim_wrong (n : Int) (la ga oa : Option Addr) (lc gc oc : Nat) (ls gs : List (Int × Int)) (os : List Int) (w : World)
    (hL : PairsAt w la ls) (hG : PairsAt w ga gs) (hO : IntsAt w oa os) (hr : rightB n ls gs os = false) :
    Calls Tryz.prog 10 #[.agg #[.int .i64 n, .slice la ls.length lc, .slice ga gs.length gc, .slice oa os.length oc]] w fun e w' =>
      e = .returned (.tuple #[.agg #[.int .i64 0, .slice none 0 0, .slice none 0 0, .slice none 0 0], .int .i64 2]) ∧ Below w.heap.size w w' := by
  obtain ⟨W0, hW0⟩ : ∃ W0, W0 = (w.alloc (.cells #[.int .i64 n, .slice la ls.length lc, .slice ga gs.length gc, .slice oa os.length oc] 27)).alloc (.cells #[.int .i64 0, .slice none 0 0, .slice none 0 0, .slice none 0 0] 27) := ⟨_, rfl⟩
  have bel0 : Below w.heap.size w W0 := by rw [hW0]; exact ((Below.refl _ _).alloc (Nat.le_refl _) _).alloc (by simp) _
  have s0 : W0.heap.size = w.heap.size + 2 := by rw [hW0]; simp
  have bx : W0.heap[w.heap.size + 1]? = some (.cells #[.int .i64 0, .slice none 0 0, .slice none 0 0, .slice none 0 0] 27 (0, 0)) := by rw [hW0]; exact alloc_blk _ _ _ (by simp)
  have hr0 := right_is (n := n) (lc := lc) (gc := gc) (oc := oc) W0 (hL.below bel0) (hG.below bel0) (hO.below bel0) hr
  rw [hW0] at hr0
  go_enter Tryz.func10, Tryz.ntmps10
  go_wp2_with fail
  refine hr0.mono ?_
  rw [← hW0]
  clear hr0 hW0
  rintro e w1 ⟨rfl, b1⟩
  have bx1 := (b1.block (w.heap.size + 1) (by omega)).trans bx
  have B1 : Below w.heap.size w w1 := bel0.trans (b1.mono (by omega))
  have q0 : w1.cell? ⟨w.heap.size + 1, 0, none⟩ = some (.int .i64 0) := by rw [cell_of_row _ _ _ _ _ _ bx1]; rfl
  have q1 : w1.cell? ⟨w.heap.size + 1, 1, none⟩ = some (.slice none 0 0) := by rw [cell_of_row _ _ _ _ _ _ bx1]; rfl
  have q2 : w1.cell? ⟨w.heap.size + 1, 2, none⟩ = some (.slice none 0 0) := by rw [cell_of_row _ _ _ _ _ _ bx1]; rfl
  have q3 : w1.cell? ⟨w.heap.size + 1, 3, none⟩ = some (.slice none 0 0) := by rw [cell_of_row _ _ _ _ _ _ bx1]; rfl
  have qf0 : w1.frozen? ⟨w.heap.size + 1, 0, none⟩ = false := frozen_of_row _ _ _ _ _ bx1
  have qf1 : w1.frozen? ⟨w.heap.size + 1, 1, none⟩ = false := frozen_of_row _ _ _ _ _ bx1
  have qf2 : w1.frozen? ⟨w.heap.size + 1, 2, none⟩ = false := frozen_of_row _ _ _ _ _ bx1
  have qf3 : w1.frozen? ⟨w.heap.size + 1, 3, none⟩ = false := frozen_of_row _ _ _ _ _ bx1
  go_wp2
  exact slim_close (b := w.heap.size + 1) (y := .int .i64 2) (box4_blk bx1 _ _ _ _) rfl rfl ⟨rfl, box4_below B1 (by omega) _ _ _ _⟩

theorem box4_blkT {w : World} {b : Nat} {t : TypeId} {u0 u1 u2 u3 : Value} (h : w.heap[b]? = some (.cells #[u0, u1, u2, u3] t (0, 0))) (v0 v1 v2 v3 : Value) : (box4 w b v0 v1 v2 v3).heap[b]? = some (.cells #[v0, v1, v2, v3] t (0, 0)) := by
  unfold box4
  exact blk_set (blk_set (blk_set (blk_set h 0 v0) 1 v1) 2 v2) 3 v3
theorem compare_results {w : World} {b : Nat} {tmps : Array Value} {v0 v1 v2 v3 y : Value} (h : w.heap[b]? = some (.cells #[v0, v1, v2, v3] 45 (0, 0)))
    (h2 : tmps[4]?.getD undef = .pointer (some ⟨b, 0, none⟩)) (h3 : tmps[5]?.getD undef = y) :
    (results Tryz.f12 tmps).run Tryz.prog w = .ok (.tuple #[.agg #[v0, v1, v2, v3], y]) w := by
  have c0 : w.cell? ⟨b, 0, none⟩ = some v0 := by rw [cell_of_row _ _ _ _ _ _ h]; rfl
  have c1 : w.cell? ⟨b, 1, none⟩ = some v1 := by rw [cell_of_row _ _ _ _ _ _ h]; rfl
  have c2 : w.cell? ⟨b, 2, none⟩ = some v2 := by rw [cell_of_row _ _ _ _ _ _ h]; rfl
  have c3 : w.cell? ⟨b, 3, none⟩ = some v3 := by rw [cell_of_row _ _ _ _ _ _ h]; rfl
  simp [results, Tryz.results12, go_sem, h2, h3, c0, c1, c2, c3]
theorem compare_close {tmps : Array Value} {Q : Ending → World → Prop} {w : World} {b : Nat} {v0 v1 v2 v3 y : Value} (h : w.heap[b]? = some (.cells #[v0, v1, v2, v3] 45 (0, 0)))
    (h2 : tmps[4]?.getD undef = .pointer (some ⟨b, 0, none⟩)) (h3 : tmps[5]?.getD undef = y) (hQ : Q (.returned (.tuple #[.agg #[v0, v1, v2, v3], y])) w) :
    bodyPost Tryz.prog Tryz.f12 Q Exit.ret ⟨tmps, []⟩ w := bodyPost_ret (compare_results h h2 h3) rfl hQ

/-! What Compare refuses: one of the two is not right (2); they have not as many inputs, or outputs (4). -/
set_option maxHeartbeats 1000000 in
set_option maxRecDepth 100000 in
theorem compare_wrongA (n n' : Int) (la ga oa la' ga' oa' : Option Addr) (lc gc oc lc' gc' oc' : Nat) (ls gs ls' gs' : List (Int × Int)) (os os' : List Int) (w : World)
    (hL : PairsAt w la ls) (hG : PairsAt w ga gs) (hO : IntsAt w oa os) (hr : rightB n ls gs os = false) :
    Calls Tryz.prog 12 #[.agg #[.int .i64 n, .slice la ls.length lc, .slice ga gs.length gc, .slice oa os.length oc], .agg #[.int .i64 n', .slice la' ls'.length lc', .slice ga' gs'.length gc', .slice oa' os'.length oc']] w fun e w' =>
      e = .returned (.tuple #[.agg #[.bool false, .int .i64 0, .slice none 0 0, .int .i64 0], .int .i64 2]) ∧ Below w.heap.size w w' := by
  obtain ⟨W0, hW0⟩ : ∃ W0, W0 = ((w.alloc (.cells #[.int .i64 n, .slice la ls.length lc, .slice ga gs.length gc, .slice oa os.length oc] 27)).alloc (.cells #[.int .i64 n', .slice la' ls'.length lc', .slice ga' gs'.length gc', .slice oa' os'.length oc'] 27)).alloc (.cells #[.bool false, .int .i64 0, .slice none 0 0, .int .i64 0] 45) := ⟨_, rfl⟩
  have bel0 : Below w.heap.size w W0 := by rw [hW0]; exact (((Below.refl _ _).alloc (Nat.le_refl _) _).alloc (by simp) _).alloc (by simp; omega) _
  have s0 : W0.heap.size = w.heap.size + 3 := by rw [hW0]; simp
  have bA : W0.heap[w.heap.size]? = some (.cells #[.int .i64 n, .slice la ls.length lc, .slice ga gs.length gc, .slice oa os.length oc] 27 (0, 0)) := by rw [hW0]; exact alloc_old (alloc_old (alloc_blk _ _ _ rfl))
  have bB : W0.heap[w.heap.size + 1]? = some (.cells #[.int .i64 n', .slice la' ls'.length lc', .slice ga' gs'.length gc', .slice oa' os'.length oc'] 27 (0, 0)) := by rw [hW0]; exact alloc_old (alloc_blk _ _ _ (by simp))
  have bx : W0.heap[w.heap.size + 1 + 1]? = some (.cells #[.bool false, .int .i64 0, .slice none 0 0, .int .i64 0] 45 (0, 0)) := by rw [hW0]; exact alloc_blk _ _ _ (by simp)
  have hr0 := right_is (n := n) (lc := lc) (gc := gc) (oc := oc) W0 (hL.below bel0) (hG.below bel0) (hO.below bel0) hr
  rw [hW0] at hr0
  go_enter Tryz.func12, Tryz.ntmps12
  go_wp2_with fail
  refine hr0.mono ?_
  rw [← hW0]
  clear hr0 hW0
  rintro e w1 ⟨rfl, b1⟩
  have s1 := b1.size
  have B1 : Below w.heap.size w w1 := bel0.trans (b1.mono (by omega))
  have bA1 := (b1.block w.heap.size (by omega)).trans bA
  have bB1 := (b1.block (w.heap.size + 1) (by omega)).trans bB
  have bx1 := (b1.block (w.heap.size + 1 + 1) (by omega)).trans bx
  clear bA bB bx bel0
  clear bA1 bB1 b1 s1 hL hG hO hr
  have q0 : w1.cell? ⟨w.heap.size + 1 + 1, 0, none⟩ = some (.bool false) := by rw [cell_of_row _ _ _ _ _ _ bx1]; rfl
  have q1 : w1.cell? ⟨w.heap.size + 1 + 1, 1, none⟩ = some (.int .i64 0) := by rw [cell_of_row _ _ _ _ _ _ bx1]; rfl
  have q2 : w1.cell? ⟨w.heap.size + 1 + 1, 2, none⟩ = some (.slice none 0 0) := by rw [cell_of_row _ _ _ _ _ _ bx1]; rfl
  have q3 : w1.cell? ⟨w.heap.size + 1 + 1, 3, none⟩ = some (.int .i64 0) := by rw [cell_of_row _ _ _ _ _ _ bx1]; rfl
  have qf0 : w1.frozen? ⟨w.heap.size + 1 + 1, 0, none⟩ = false := frozen_of_row _ _ _ _ _ bx1
  have qf1 : w1.frozen? ⟨w.heap.size + 1 + 1, 1, none⟩ = false := frozen_of_row _ _ _ _ _ bx1
  have qf2 : w1.frozen? ⟨w.heap.size + 1 + 1, 2, none⟩ = false := frozen_of_row _ _ _ _ _ bx1
  have qf3 : w1.frozen? ⟨w.heap.size + 1 + 1, 3, none⟩ = false := frozen_of_row _ _ _ _ _ bx1
  go_wp2
  exact compare_close (b := w.heap.size + 1 + 1) (y := .int .i64 2) (box4_blkT bx1 _ _ _ _) rfl rfl ⟨rfl, box4_below B1 (by omega) _ _ _ _⟩

set_option maxHeartbeats 1000000 in
set_option maxRecDepth 100000 in
theorem compare_wrongB (n n' : Int) (la ga oa la' ga' oa' : Option Addr) (lc gc oc lc' gc' oc' : Nat) (ls gs ls' gs' : List (Int × Int)) (os os' : List Int) (w : World)
    (hL : PairsAt w la ls) (hG : PairsAt w ga gs) (hO : IntsAt w oa os) (hL' : PairsAt w la' ls') (hG' : PairsAt w ga' gs') (hO' : IntsAt w oa' os') (hr : rightB n ls gs os = true) (hr' : rightB n' ls' gs' os' = false) :
    Calls Tryz.prog 12 #[.agg #[.int .i64 n, .slice la ls.length lc, .slice ga gs.length gc, .slice oa os.length oc], .agg #[.int .i64 n', .slice la' ls'.length lc', .slice ga' gs'.length gc', .slice oa' os'.length oc']] w fun e w' =>
      e = .returned (.tuple #[.agg #[.bool false, .int .i64 0, .slice none 0 0, .int .i64 0], .int .i64 2]) ∧ Below w.heap.size w w' := by
  obtain ⟨W0, hW0⟩ : ∃ W0, W0 = ((w.alloc (.cells #[.int .i64 n, .slice la ls.length lc, .slice ga gs.length gc, .slice oa os.length oc] 27)).alloc (.cells #[.int .i64 n', .slice la' ls'.length lc', .slice ga' gs'.length gc', .slice oa' os'.length oc'] 27)).alloc (.cells #[.bool false, .int .i64 0, .slice none 0 0, .int .i64 0] 45) := ⟨_, rfl⟩
  have bel0 : Below w.heap.size w W0 := by rw [hW0]; exact (((Below.refl _ _).alloc (Nat.le_refl _) _).alloc (by simp) _).alloc (by simp; omega) _
  have s0 : W0.heap.size = w.heap.size + 3 := by rw [hW0]; simp
  have bA : W0.heap[w.heap.size]? = some (.cells #[.int .i64 n, .slice la ls.length lc, .slice ga gs.length gc, .slice oa os.length oc] 27 (0, 0)) := by rw [hW0]; exact alloc_old (alloc_old (alloc_blk _ _ _ rfl))
  have bB : W0.heap[w.heap.size + 1]? = some (.cells #[.int .i64 n', .slice la' ls'.length lc', .slice ga' gs'.length gc', .slice oa' os'.length oc'] 27 (0, 0)) := by rw [hW0]; exact alloc_old (alloc_blk _ _ _ (by simp))
  have bx : W0.heap[w.heap.size + 1 + 1]? = some (.cells #[.bool false, .int .i64 0, .slice none 0 0, .int .i64 0] 45 (0, 0)) := by rw [hW0]; exact alloc_blk _ _ _ (by simp)
  have hr0 := right_is (n := n) (lc := lc) (gc := gc) (oc := oc) W0 (hL.below bel0) (hG.below bel0) (hO.below bel0) hr
  rw [hW0] at hr0
  go_enter Tryz.func12, Tryz.ntmps12
  go_wp2_with fail
  refine hr0.mono ?_
  rw [← hW0]
  clear hr0 hW0
  rintro e w1 ⟨rfl, b1⟩
  have s1 := b1.size
  have B1 : Below w.heap.size w w1 := bel0.trans (b1.mono (by omega))
  have bA1 := (b1.block w.heap.size (by omega)).trans bA
  have bB1 := (b1.block (w.heap.size + 1) (by omega)).trans bB
  have bx1 := (b1.block (w.heap.size + 1 + 1) (by omega)).trans bx
  clear bA bB bx bel0
  have r0 : w1.cell? ⟨w.heap.size + 1, 0, none⟩ = some (.int .i64 n') := by rw [cell_of_row _ _ _ _ _ _ bB1]; rfl
  have r1 : w1.cell? ⟨w.heap.size + 1, 1, none⟩ = some (.slice la' ls'.length lc') := by rw [cell_of_row _ _ _ _ _ _ bB1]; rfl
  have r2 : w1.cell? ⟨w.heap.size + 1, 2, none⟩ = some (.slice ga' gs'.length gc') := by rw [cell_of_row _ _ _ _ _ _ bB1]; rfl
  have r3 : w1.cell? ⟨w.heap.size + 1, 3, none⟩ = some (.slice oa' os'.length oc') := by rw [cell_of_row _ _ _ _ _ _ bB1]; rfl
  go_wp2_with fail
  refine (right_is (n := n') _ (hL'.below B1) (hG'.below B1) (hO'.below B1) hr').mono ?_
  rintro e w2 ⟨rfl, b2⟩
  have B2 : Below w.heap.size w w2 := B1.trans (b2.mono (by omega))
  have bx2 := (b2.block (w.heap.size + 1 + 1) (by omega)).trans bx1
  have bA2 := (b2.block w.heap.size (by omega)).trans bA1
  have bB2 := (b2.block (w.heap.size + 1) (by omega)).trans bB1
  have p0 : w2.cell? ⟨w.heap.size, 0, none⟩ = some (.int .i64 n) := by rw [cell_of_row _ _ _ _ _ _ bA2]; rfl
  have p3 : w2.cell? ⟨w.heap.size, 3, none⟩ = some (.slice oa os.length oc) := by rw [cell_of_row _ _ _ _ _ _ bA2]; rfl
  have t0 : w2.cell? ⟨w.heap.size + 1, 0, none⟩ = some (.int .i64 n') := by rw [cell_of_row _ _ _ _ _ _ bB2]; rfl
  have t3 : w2.cell? ⟨w.heap.size + 1, 3, none⟩ = some (.slice oa' os'.length oc') := by rw [cell_of_row _ _ _ _ _ _ bB2]; rfl
  clear r0 r1 r2 r3 bA1 bB1 bx1 bA2 bB2 b1 b2 hL hG hO hL' hG' hO' hr hr' s1 B1
  have q0 : w2.cell? ⟨w.heap.size + 1 + 1, 0, none⟩ = some (.bool false) := by rw [cell_of_row _ _ _ _ _ _ bx2]; rfl
  have q1 : w2.cell? ⟨w.heap.size + 1 + 1, 1, none⟩ = some (.int .i64 0) := by rw [cell_of_row _ _ _ _ _ _ bx2]; rfl
  have q2 : w2.cell? ⟨w.heap.size + 1 + 1, 2, none⟩ = some (.slice none 0 0) := by rw [cell_of_row _ _ _ _ _ _ bx2]; rfl
  have q3 : w2.cell? ⟨w.heap.size + 1 + 1, 3, none⟩ = some (.int .i64 0) := by rw [cell_of_row _ _ _ _ _ _ bx2]; rfl
  have qf0 : w2.frozen? ⟨w.heap.size + 1 + 1, 0, none⟩ = false := frozen_of_row _ _ _ _ _ bx2
  have qf1 : w2.frozen? ⟨w.heap.size + 1 + 1, 1, none⟩ = false := frozen_of_row _ _ _ _ _ bx2
  have qf2 : w2.frozen? ⟨w.heap.size + 1 + 1, 2, none⟩ = false := frozen_of_row _ _ _ _ _ bx2
  have qf3 : w2.frozen? ⟨w.heap.size + 1 + 1, 3, none⟩ = false := frozen_of_row _ _ _ _ _ bx2
  go_wp2
  exact compare_close (b := w.heap.size + 1 + 1) (y := .int .i64 2) (box4_blkT bx2 _ _ _ _) rfl rfl ⟨rfl, box4_below B2 (by omega) _ _ _ _⟩

set_option maxHeartbeats 1000000 in
set_option maxRecDepth 100000 in
theorem compare_inputs (n n' : Int) (la ga oa la' ga' oa' : Option Addr) (lc gc oc lc' gc' oc' : Nat) (ls gs ls' gs' : List (Int × Int)) (os os' : List Int) (w : World)
    (hL : PairsAt w la ls) (hG : PairsAt w ga gs) (hO : IntsAt w oa os) (hL' : PairsAt w la' ls') (hG' : PairsAt w ga' gs') (hO' : IntsAt w oa' os') (hr : rightB n ls gs os = true) (hr' : rightB n' ls' gs' os' = true) (hne : (n != n') = true) :
    Calls Tryz.prog 12 #[.agg #[.int .i64 n, .slice la ls.length lc, .slice ga gs.length gc, .slice oa os.length oc], .agg #[.int .i64 n', .slice la' ls'.length lc', .slice ga' gs'.length gc', .slice oa' os'.length oc']] w fun e w' =>
      e = .returned (.tuple #[.agg #[.bool false, .int .i64 0, .slice none 0 0, .int .i64 0], .int .i64 4]) ∧ Below w.heap.size w w' := by
  obtain ⟨W0, hW0⟩ : ∃ W0, W0 = ((w.alloc (.cells #[.int .i64 n, .slice la ls.length lc, .slice ga gs.length gc, .slice oa os.length oc] 27)).alloc (.cells #[.int .i64 n', .slice la' ls'.length lc', .slice ga' gs'.length gc', .slice oa' os'.length oc'] 27)).alloc (.cells #[.bool false, .int .i64 0, .slice none 0 0, .int .i64 0] 45) := ⟨_, rfl⟩
  have bel0 : Below w.heap.size w W0 := by rw [hW0]; exact (((Below.refl _ _).alloc (Nat.le_refl _) _).alloc (by simp) _).alloc (by simp; omega) _
  have s0 : W0.heap.size = w.heap.size + 3 := by rw [hW0]; simp
  have bA : W0.heap[w.heap.size]? = some (.cells #[.int .i64 n, .slice la ls.length lc, .slice ga gs.length gc, .slice oa os.length oc] 27 (0, 0)) := by rw [hW0]; exact alloc_old (alloc_old (alloc_blk _ _ _ rfl))
  have bB : W0.heap[w.heap.size + 1]? = some (.cells #[.int .i64 n', .slice la' ls'.length lc', .slice ga' gs'.length gc', .slice oa' os'.length oc'] 27 (0, 0)) := by rw [hW0]; exact alloc_old (alloc_blk _ _ _ (by simp))
  have bx : W0.heap[w.heap.size + 1 + 1]? = some (.cells #[.bool false, .int .i64 0, .slice none 0 0, .int .i64 0] 45 (0, 0)) := by rw [hW0]; exact alloc_blk _ _ _ (by simp)
  have hr0 := right_is (n := n) (lc := lc) (gc := gc) (oc := oc) W0 (hL.below bel0) (hG.below bel0) (hO.below bel0) hr
  rw [hW0] at hr0
  go_enter Tryz.func12, Tryz.ntmps12
  go_wp2_with fail
  refine hr0.mono ?_
  rw [← hW0]
  clear hr0 hW0
  rintro e w1 ⟨rfl, b1⟩
  have s1 := b1.size
  have B1 : Below w.heap.size w w1 := bel0.trans (b1.mono (by omega))
  have bA1 := (b1.block w.heap.size (by omega)).trans bA
  have bB1 := (b1.block (w.heap.size + 1) (by omega)).trans bB
  have bx1 := (b1.block (w.heap.size + 1 + 1) (by omega)).trans bx
  clear bA bB bx bel0
  have r0 : w1.cell? ⟨w.heap.size + 1, 0, none⟩ = some (.int .i64 n') := by rw [cell_of_row _ _ _ _ _ _ bB1]; rfl
  have r1 : w1.cell? ⟨w.heap.size + 1, 1, none⟩ = some (.slice la' ls'.length lc') := by rw [cell_of_row _ _ _ _ _ _ bB1]; rfl
  have r2 : w1.cell? ⟨w.heap.size + 1, 2, none⟩ = some (.slice ga' gs'.length gc') := by rw [cell_of_row _ _ _ _ _ _ bB1]; rfl
  have r3 : w1.cell? ⟨w.heap.size + 1, 3, none⟩ = some (.slice oa' os'.length oc') := by rw [cell_of_row _ _ _ _ _ _ bB1]; rfl
  go_wp2_with fail
  refine (right_is (n := n') _ (hL'.below B1) (hG'.below B1) (hO'.below B1) hr').mono ?_
  rintro e w2 ⟨rfl, b2⟩
  have B2 : Below w.heap.size w w2 := B1.trans (b2.mono (by omega))
  have bx2 := (b2.block (w.heap.size + 1 + 1) (by omega)).trans bx1
  have bA2 := (b2.block w.heap.size (by omega)).trans bA1
  have bB2 := (b2.block (w.heap.size + 1) (by omega)).trans bB1
  have p0 : w2.cell? ⟨w.heap.size, 0, none⟩ = some (.int .i64 n) := by rw [cell_of_row _ _ _ _ _ _ bA2]; rfl
  have p3 : w2.cell? ⟨w.heap.size, 3, none⟩ = some (.slice oa os.length oc) := by rw [cell_of_row _ _ _ _ _ _ bA2]; rfl
  have t0 : w2.cell? ⟨w.heap.size + 1, 0, none⟩ = some (.int .i64 n') := by rw [cell_of_row _ _ _ _ _ _ bB2]; rfl
  have t3 : w2.cell? ⟨w.heap.size + 1, 3, none⟩ = some (.slice oa' os'.length oc') := by rw [cell_of_row _ _ _ _ _ _ bB2]; rfl
  clear r0 r1 r2 r3 bA1 bB1 bx1 bA2 bB2 b1 b2 hL hG hO hL' hG' hO' hr hr' s1 B1
  have q0 : w2.cell? ⟨w.heap.size + 1 + 1, 0, none⟩ = some (.bool false) := by rw [cell_of_row _ _ _ _ _ _ bx2]; rfl
  have q1 : w2.cell? ⟨w.heap.size + 1 + 1, 1, none⟩ = some (.int .i64 0) := by rw [cell_of_row _ _ _ _ _ _ bx2]; rfl
  have q2 : w2.cell? ⟨w.heap.size + 1 + 1, 2, none⟩ = some (.slice none 0 0) := by rw [cell_of_row _ _ _ _ _ _ bx2]; rfl
  have q3 : w2.cell? ⟨w.heap.size + 1 + 1, 3, none⟩ = some (.int .i64 0) := by rw [cell_of_row _ _ _ _ _ _ bx2]; rfl
  have qf0 : w2.frozen? ⟨w.heap.size + 1 + 1, 0, none⟩ = false := frozen_of_row _ _ _ _ _ bx2
  have qf1 : w2.frozen? ⟨w.heap.size + 1 + 1, 1, none⟩ = false := frozen_of_row _ _ _ _ _ bx2
  have qf2 : w2.frozen? ⟨w.heap.size + 1 + 1, 2, none⟩ = false := frozen_of_row _ _ _ _ _ bx2
  have qf3 : w2.frozen? ⟨w.heap.size + 1 + 1, 3, none⟩ = false := frozen_of_row _ _ _ _ _ bx2
  go_wp2
  exact compare_close (b := w.heap.size + 1 + 1) (y := .int .i64 4) (box4_blkT bx2 _ _ _ _) rfl rfl ⟨rfl, box4_below B2 (by omega) _ _ _ _⟩

set_option maxHeartbeats 1000000 in
set_option maxRecDepth 100000 in
theorem compare_outputs (n : Int) (la ga oa la' ga' oa' : Option Addr) (lc gc oc lc' gc' oc' : Nat) (ls gs ls' gs' : List (Int × Int)) (os os' : List Int) (w : World)
    (hL : PairsAt w la ls) (hG : PairsAt w ga gs) (hO : IntsAt w oa os) (hL' : PairsAt w la' ls') (hG' : PairsAt w ga' gs') (hO' : IntsAt w oa' os') (hr : rightB n ls gs os = true) (hr' : rightB n ls' gs' os' = true) (hne : ((os.length : Int) != (os'.length : Int)) = true) :
    Calls Tryz.prog 12 #[.agg #[.int .i64 n, .slice la ls.length lc, .slice ga gs.length gc, .slice oa os.length oc], .agg #[.int .i64 n, .slice la' ls'.length lc', .slice ga' gs'.length gc', .slice oa' os'.length oc']] w fun e w' =>
      e = .returned (.tuple #[.agg #[.bool false, .int .i64 0, .slice none 0 0, .int .i64 0], .int .i64 4]) ∧ Below w.heap.size w w' := by
  obtain ⟨W0, hW0⟩ : ∃ W0, W0 = ((w.alloc (.cells #[.int .i64 n, .slice la ls.length lc, .slice ga gs.length gc, .slice oa os.length oc] 27)).alloc (.cells #[.int .i64 n, .slice la' ls'.length lc', .slice ga' gs'.length gc', .slice oa' os'.length oc'] 27)).alloc (.cells #[.bool false, .int .i64 0, .slice none 0 0, .int .i64 0] 45) := ⟨_, rfl⟩
  have bel0 : Below w.heap.size w W0 := by rw [hW0]; exact (((Below.refl _ _).alloc (Nat.le_refl _) _).alloc (by simp) _).alloc (by simp; omega) _
  have s0 : W0.heap.size = w.heap.size + 3 := by rw [hW0]; simp
  have bA : W0.heap[w.heap.size]? = some (.cells #[.int .i64 n, .slice la ls.length lc, .slice ga gs.length gc, .slice oa os.length oc] 27 (0, 0)) := by rw [hW0]; exact alloc_old (alloc_old (alloc_blk _ _ _ rfl))
  have bB : W0.heap[w.heap.size + 1]? = some (.cells #[.int .i64 n, .slice la' ls'.length lc', .slice ga' gs'.length gc', .slice oa' os'.length oc'] 27 (0, 0)) := by rw [hW0]; exact alloc_old (alloc_blk _ _ _ (by simp))
  have bx : W0.heap[w.heap.size + 1 + 1]? = some (.cells #[.bool false, .int .i64 0, .slice none 0 0, .int .i64 0] 45 (0, 0)) := by rw [hW0]; exact alloc_blk _ _ _ (by simp)
  have hr0 := right_is (n := n) (lc := lc) (gc := gc) (oc := oc) W0 (hL.below bel0) (hG.below bel0) (hO.below bel0) hr
  rw [hW0] at hr0
  go_enter Tryz.func12, Tryz.ntmps12
  go_wp2_with fail
  refine hr0.mono ?_
  rw [← hW0]
  clear hr0 hW0
  rintro e w1 ⟨rfl, b1⟩
  have s1 := b1.size
  have B1 : Below w.heap.size w w1 := bel0.trans (b1.mono (by omega))
  have bA1 := (b1.block w.heap.size (by omega)).trans bA
  have bB1 := (b1.block (w.heap.size + 1) (by omega)).trans bB
  have bx1 := (b1.block (w.heap.size + 1 + 1) (by omega)).trans bx
  clear bA bB bx bel0
  have r0 : w1.cell? ⟨w.heap.size + 1, 0, none⟩ = some (.int .i64 n) := by rw [cell_of_row _ _ _ _ _ _ bB1]; rfl
  have r1 : w1.cell? ⟨w.heap.size + 1, 1, none⟩ = some (.slice la' ls'.length lc') := by rw [cell_of_row _ _ _ _ _ _ bB1]; rfl
  have r2 : w1.cell? ⟨w.heap.size + 1, 2, none⟩ = some (.slice ga' gs'.length gc') := by rw [cell_of_row _ _ _ _ _ _ bB1]; rfl
  have r3 : w1.cell? ⟨w.heap.size + 1, 3, none⟩ = some (.slice oa' os'.length oc') := by rw [cell_of_row _ _ _ _ _ _ bB1]; rfl
  go_wp2_with fail
  refine (right_is (n := n) _ (hL'.below B1) (hG'.below B1) (hO'.below B1) hr').mono ?_
  rintro e w2 ⟨rfl, b2⟩
  have B2 : Below w.heap.size w w2 := B1.trans (b2.mono (by omega))
  have bx2 := (b2.block (w.heap.size + 1 + 1) (by omega)).trans bx1
  have bA2 := (b2.block w.heap.size (by omega)).trans bA1
  have bB2 := (b2.block (w.heap.size + 1) (by omega)).trans bB1
  have p0 : w2.cell? ⟨w.heap.size, 0, none⟩ = some (.int .i64 n) := by rw [cell_of_row _ _ _ _ _ _ bA2]; rfl
  have p3 : w2.cell? ⟨w.heap.size, 3, none⟩ = some (.slice oa os.length oc) := by rw [cell_of_row _ _ _ _ _ _ bA2]; rfl
  have t0 : w2.cell? ⟨w.heap.size + 1, 0, none⟩ = some (.int .i64 n) := by rw [cell_of_row _ _ _ _ _ _ bB2]; rfl
  have t3 : w2.cell? ⟨w.heap.size + 1, 3, none⟩ = some (.slice oa' os'.length oc') := by rw [cell_of_row _ _ _ _ _ _ bB2]; rfl
  clear r0 r1 r2 r3 bA1 bB1 bx1 bA2 bB2 b1 b2 hL hG hO hL' hG' hO' hr hr' s1 B1
  have q0 : w2.cell? ⟨w.heap.size + 1 + 1, 0, none⟩ = some (.bool false) := by rw [cell_of_row _ _ _ _ _ _ bx2]; rfl
  have q1 : w2.cell? ⟨w.heap.size + 1 + 1, 1, none⟩ = some (.int .i64 0) := by rw [cell_of_row _ _ _ _ _ _ bx2]; rfl
  have q2 : w2.cell? ⟨w.heap.size + 1 + 1, 2, none⟩ = some (.slice none 0 0) := by rw [cell_of_row _ _ _ _ _ _ bx2]; rfl
  have q3 : w2.cell? ⟨w.heap.size + 1 + 1, 3, none⟩ = some (.int .i64 0) := by rw [cell_of_row _ _ _ _ _ _ bx2]; rfl
  have qf0 : w2.frozen? ⟨w.heap.size + 1 + 1, 0, none⟩ = false := frozen_of_row _ _ _ _ _ bx2
  have qf1 : w2.frozen? ⟨w.heap.size + 1 + 1, 1, none⟩ = false := frozen_of_row _ _ _ _ _ bx2
  have qf2 : w2.frozen? ⟨w.heap.size + 1 + 1, 2, none⟩ = false := frozen_of_row _ _ _ _ _ bx2
  have qf3 : w2.frozen? ⟨w.heap.size + 1 + 1, 3, none⟩ = false := frozen_of_row _ _ _ _ _ bx2
  go_wp2
  exact compare_close (b := w.heap.size + 1 + 1) (y := .int .i64 4) (box4_blkT bx2 _ _ _ _) rfl rfl ⟨rfl, box4_below B2 (by omega) _ _ _ _⟩

end Go.Proofs.YtgpaajdfkekjiabGreatDoor
