/-
  Compare of package latch where a circuit is wrong, and where the shapes differ. Written by wip/mk_cmpbad.py.
  The one answer of Compare, of any two circuits; the program's Compare gives it.
-/
import Derived.Test.YtgpaajdfkekjiaaGreatDoorCmpN
namespace Go.Proofs.YtgpaajdfkekjiaaGreatDoor
open Go.RowKit

set_option maxHeartbeats 2000000 in
set_option maxRecDepth 100000 in
theorem cmp_wrongA (n m : Int) (la ga : List (Int × Int)) (oa : List Int) (lb gb : List (Int × Int)) (ob : List Int) (la1 ga1 oa1 lb1 gb1 ob1 : Option Addr) (lc1 gc1 oc1 ld1 gd1 od1 : Nat) (w : World)
    (ra : rightB n la ga oa = false)
    (pLa : PairsAt w la1 la) (pGa : PairsAt w ga1 ga) (pOa : IntsAt w oa1 oa) :
    Calls Tryz.prog 33 #[.agg #[.int .i64 n, .slice la1 la.length lc1, .slice ga1 ga.length gc1, .slice oa1 oa.length oc1], .agg #[.int .i64 m, .slice lb1 lb.length ld1, .slice gb1 gb.length gd1, .slice ob1 ob.length od1]] w fun e w' =>
      e = .returned (.tuple #[.agg #[.bool false, .int .i64 0, .slice none 0 0, .int .i64 0], .int .i64 2]) ∧ Below w.heap.size w w' := by
  obtain ⟨W3, hW3⟩ : ∃ W3, W3 = ((w.alloc (.cells #[.int .i64 n, .slice la1 la.length lc1, .slice ga1 ga.length gc1, .slice oa1 oa.length oc1] 34)).alloc (.cells #[.int .i64 m, .slice lb1 lb.length ld1, .slice gb1 gb.length gd1, .slice ob1 ob.length od1] 34)).alloc (.cells #[.bool false, .int .i64 0, .slice none 0 0, .int .i64 0] 82) := ⟨_, rfl⟩
  have s3 : W3.heap.size = w.heap.size + 3 := by rw [hW3]; simp
  have B3 : Below w.heap.size w W3 := by rw [hW3]; exact (((Below.refl _ _).alloc (Nat.le_refl _) _).alloc (by simp) _).alloc (by simp; omega) _
  have xA : W3.heap[w.heap.size]? = some (.cells #[.int .i64 n, .slice la1 la.length lc1, .slice ga1 ga.length gc1, .slice oa1 oa.length oc1] 34 (0, 0)) := by rw [hW3]; exact alloc_old (alloc_old (alloc_blk _ _ _ rfl))
  have xB : W3.heap[w.heap.size + 1]? = some (.cells #[.int .i64 m, .slice lb1 lb.length ld1, .slice gb1 gb.length gd1, .slice ob1 ob.length od1] 34 (0, 0)) := by rw [hW3]; exact alloc_old (alloc_blk _ _ _ (by simp))
  have xR : W3.heap[w.heap.size + 1 + 1]? = some (.cells #[.bool false, .int .i64 0, .slice none 0 0, .int .i64 0] 82 (0, 0)) := by rw [hW3]; exact alloc_blk _ _ _ (by simp)
  obtain ⟨A0, A1, A2, A3, D0, D1, D2, D3⟩ := row8 xA xB
  go_enter Tryz.func33, Tryz.ntmps33
  go_upto_region 1 with fail
  rw [← hW3]
  clear hW3
  go_wp2_with fail
  refine (right_is W3 (pLa.below B3) (pGa.below B3) (pOa.below B3) ra).mono ?_
  rintro r w4 ⟨rfl, b4⟩
  have blk4 : ∀ k, k < w.heap.size + 3 → w4.heap[k]? = W3.heap[k]? := fun k hk => b4.block k (by omega)
  have B4 : Below w.heap.size w w4 := B3.trans (b4.mono B3.size)
  have yA := (blk4 w.heap.size (by omega)).trans xA
  have yB := (blk4 (w.heap.size + 1) (by omega)).trans xB
  have yR := (blk4 (w.heap.size + 1 + 1) (by omega)).trans xR
  have s4 := b4.size
  clear A0 A1 A2 A3 D0 D1 D2 D3 xA xB xR blk4
  obtain ⟨A0, A1, A2, A3, D0, D1, D2, D3⟩ := row8 yA yB
  have F0 : w4.cell? ⟨w.heap.size + 1 + 1, 0, none⟩ = some (.bool false) := by rw [cell_of_row _ _ _ _ _ _ yR]; rfl
  have F1 : w4.cell? ⟨w.heap.size + 1 + 1, 1, none⟩ = some (.int .i64 0) := by rw [cell_of_row _ _ _ _ _ _ yR]; rfl
  have F2 : w4.cell? ⟨w.heap.size + 1 + 1, 2, none⟩ = some (.slice none 0 0) := by rw [cell_of_row _ _ _ _ _ _ yR]; rfl
  have F3 : w4.cell? ⟨w.heap.size + 1 + 1, 3, none⟩ = some (.int .i64 0) := by rw [cell_of_row _ _ _ _ _ _ yR]; rfl
  have G0 : w4.frozen? ⟨w.heap.size + 1 + 1, 0, none⟩ = false := frozen_of_row _ _ _ _ _ yR
  have G1 : w4.frozen? ⟨w.heap.size + 1 + 1, 1, none⟩ = false := frozen_of_row _ _ _ _ _ yR
  have G2 : w4.frozen? ⟨w.heap.size + 1 + 1, 2, none⟩ = false := frozen_of_row _ _ _ _ _ yR
  have G3 : w4.frozen? ⟨w.heap.size + 1 + 1, 3, none⟩ = false := frozen_of_row _ _ _ _ _ yR
  go_wp2
  refine cmp_close (b := w.heap.size + 1 + 1) (box4_blkW yR _ _ _ _) (by rfl) (by rfl) ?_
  exact ⟨rfl, box4_below B4 (by omega) _ _ _ _⟩

set_option maxHeartbeats 2000000 in
set_option maxRecDepth 100000 in
theorem cmp_wrongB (n m : Int) (la ga : List (Int × Int)) (oa : List Int) (lb gb : List (Int × Int)) (ob : List Int) (la1 ga1 oa1 lb1 gb1 ob1 : Option Addr) (lc1 gc1 oc1 ld1 gd1 od1 : Nat) (w : World)
    (ra : rightB n la ga oa = true) (rb : rightB m lb gb ob = false)
    (pLa : PairsAt w la1 la) (pGa : PairsAt w ga1 ga) (pOa : IntsAt w oa1 oa) (pLb : PairsAt w lb1 lb) (pGb : PairsAt w gb1 gb) (pOb : IntsAt w ob1 ob) :
    Calls Tryz.prog 33 #[.agg #[.int .i64 n, .slice la1 la.length lc1, .slice ga1 ga.length gc1, .slice oa1 oa.length oc1], .agg #[.int .i64 m, .slice lb1 lb.length ld1, .slice gb1 gb.length gd1, .slice ob1 ob.length od1]] w fun e w' =>
      e = .returned (.tuple #[.agg #[.bool false, .int .i64 0, .slice none 0 0, .int .i64 0], .int .i64 2]) ∧ Below w.heap.size w w' := by
  obtain ⟨W3, hW3⟩ : ∃ W3, W3 = ((w.alloc (.cells #[.int .i64 n, .slice la1 la.length lc1, .slice ga1 ga.length gc1, .slice oa1 oa.length oc1] 34)).alloc (.cells #[.int .i64 m, .slice lb1 lb.length ld1, .slice gb1 gb.length gd1, .slice ob1 ob.length od1] 34)).alloc (.cells #[.bool false, .int .i64 0, .slice none 0 0, .int .i64 0] 82) := ⟨_, rfl⟩
  have s3 : W3.heap.size = w.heap.size + 3 := by rw [hW3]; simp
  have B3 : Below w.heap.size w W3 := by rw [hW3]; exact (((Below.refl _ _).alloc (Nat.le_refl _) _).alloc (by simp) _).alloc (by simp; omega) _
  have xA : W3.heap[w.heap.size]? = some (.cells #[.int .i64 n, .slice la1 la.length lc1, .slice ga1 ga.length gc1, .slice oa1 oa.length oc1] 34 (0, 0)) := by rw [hW3]; exact alloc_old (alloc_old (alloc_blk _ _ _ rfl))
  have xB : W3.heap[w.heap.size + 1]? = some (.cells #[.int .i64 m, .slice lb1 lb.length ld1, .slice gb1 gb.length gd1, .slice ob1 ob.length od1] 34 (0, 0)) := by rw [hW3]; exact alloc_old (alloc_blk _ _ _ (by simp))
  have xR : W3.heap[w.heap.size + 1 + 1]? = some (.cells #[.bool false, .int .i64 0, .slice none 0 0, .int .i64 0] 82 (0, 0)) := by rw [hW3]; exact alloc_blk _ _ _ (by simp)
  obtain ⟨A0, A1, A2, A3, D0, D1, D2, D3⟩ := row8 xA xB
  go_enter Tryz.func33, Tryz.ntmps33
  go_upto_region 1 with fail
  rw [← hW3]
  clear hW3
  go_wp2_with fail
  refine (right_is W3 (pLa.below B3) (pGa.below B3) (pOa.below B3) ra).mono ?_
  rintro r w4 ⟨rfl, b4⟩
  have blk4 : ∀ k, k < w.heap.size + 3 → w4.heap[k]? = W3.heap[k]? := fun k hk => b4.block k (by omega)
  have B4 : Below w.heap.size w w4 := B3.trans (b4.mono B3.size)
  have yA := (blk4 w.heap.size (by omega)).trans xA
  have yB := (blk4 (w.heap.size + 1) (by omega)).trans xB
  have yR := (blk4 (w.heap.size + 1 + 1) (by omega)).trans xR
  have s4 := b4.size
  clear A0 A1 A2 A3 D0 D1 D2 D3 xA xB xR blk4
  obtain ⟨A0, A1, A2, A3, D0, D1, D2, D3⟩ := row8 yA yB
  go_wp2_with fail
  refine (right_is w4 (pLb.below B4) (pGb.below B4) (pOb.below B4) rb).mono ?_
  rintro r w5 ⟨rfl, b5⟩
  have blk5 : ∀ k, k < w.heap.size + 3 → w5.heap[k]? = w4.heap[k]? := fun k hk => b5.block k (by omega)
  have B5 : Below w.heap.size w w5 := B4.trans (b5.mono B4.size)
  have zA := (blk5 w.heap.size (by omega)).trans yA
  have zB := (blk5 (w.heap.size + 1) (by omega)).trans yB
  have zR := (blk5 (w.heap.size + 1 + 1) (by omega)).trans yR
  clear A0 A1 A2 A3 D0 D1 D2 D3 yA yB yR blk5
  obtain ⟨A0, A1, A2, A3, D0, D1, D2, D3⟩ := row8 zA zB
  have F0 : w5.cell? ⟨w.heap.size + 1 + 1, 0, none⟩ = some (.bool false) := by rw [cell_of_row _ _ _ _ _ _ zR]; rfl
  have F1 : w5.cell? ⟨w.heap.size + 1 + 1, 1, none⟩ = some (.int .i64 0) := by rw [cell_of_row _ _ _ _ _ _ zR]; rfl
  have F2 : w5.cell? ⟨w.heap.size + 1 + 1, 2, none⟩ = some (.slice none 0 0) := by rw [cell_of_row _ _ _ _ _ _ zR]; rfl
  have F3 : w5.cell? ⟨w.heap.size + 1 + 1, 3, none⟩ = some (.int .i64 0) := by rw [cell_of_row _ _ _ _ _ _ zR]; rfl
  have G0 : w5.frozen? ⟨w.heap.size + 1 + 1, 0, none⟩ = false := frozen_of_row _ _ _ _ _ zR
  have G1 : w5.frozen? ⟨w.heap.size + 1 + 1, 1, none⟩ = false := frozen_of_row _ _ _ _ _ zR
  have G2 : w5.frozen? ⟨w.heap.size + 1 + 1, 2, none⟩ = false := frozen_of_row _ _ _ _ _ zR
  have G3 : w5.frozen? ⟨w.heap.size + 1 + 1, 3, none⟩ = false := frozen_of_row _ _ _ _ _ zR
  go_wp2
  refine cmp_close (b := w.heap.size + 1 + 1) (box4_blkW zR _ _ _ _) (by rfl) (by rfl) ?_
  exact ⟨rfl, box4_below B5 (by omega) _ _ _ _⟩

set_option maxHeartbeats 2000000 in
set_option maxRecDepth 100000 in
theorem cmp_inputs (n m : Int) (la ga : List (Int × Int)) (oa : List Int) (lb gb : List (Int × Int)) (ob : List Int) (la1 ga1 oa1 lb1 gb1 ob1 : Option Addr) (lc1 gc1 oc1 ld1 gd1 od1 : Nat) (w : World)
    (ra : rightB n la ga oa = true) (rb : rightB m lb gb ob = true) (hne : n ≠ m)
    (pLa : PairsAt w la1 la) (pGa : PairsAt w ga1 ga) (pOa : IntsAt w oa1 oa) (pLb : PairsAt w lb1 lb) (pGb : PairsAt w gb1 gb) (pOb : IntsAt w ob1 ob) :
    Calls Tryz.prog 33 #[.agg #[.int .i64 n, .slice la1 la.length lc1, .slice ga1 ga.length gc1, .slice oa1 oa.length oc1], .agg #[.int .i64 m, .slice lb1 lb.length ld1, .slice gb1 gb.length gd1, .slice ob1 ob.length od1]] w fun e w' =>
      e = .returned (.tuple #[.agg #[.bool false, .int .i64 0, .slice none 0 0, .int .i64 0], .int .i64 4]) ∧ Below w.heap.size w w' := by
  have hnn : (n != m) = true := by simp [hne]
  obtain ⟨W3, hW3⟩ : ∃ W3, W3 = ((w.alloc (.cells #[.int .i64 n, .slice la1 la.length lc1, .slice ga1 ga.length gc1, .slice oa1 oa.length oc1] 34)).alloc (.cells #[.int .i64 m, .slice lb1 lb.length ld1, .slice gb1 gb.length gd1, .slice ob1 ob.length od1] 34)).alloc (.cells #[.bool false, .int .i64 0, .slice none 0 0, .int .i64 0] 82) := ⟨_, rfl⟩
  have s3 : W3.heap.size = w.heap.size + 3 := by rw [hW3]; simp
  have B3 : Below w.heap.size w W3 := by rw [hW3]; exact (((Below.refl _ _).alloc (Nat.le_refl _) _).alloc (by simp) _).alloc (by simp; omega) _
  have xA : W3.heap[w.heap.size]? = some (.cells #[.int .i64 n, .slice la1 la.length lc1, .slice ga1 ga.length gc1, .slice oa1 oa.length oc1] 34 (0, 0)) := by rw [hW3]; exact alloc_old (alloc_old (alloc_blk _ _ _ rfl))
  have xB : W3.heap[w.heap.size + 1]? = some (.cells #[.int .i64 m, .slice lb1 lb.length ld1, .slice gb1 gb.length gd1, .slice ob1 ob.length od1] 34 (0, 0)) := by rw [hW3]; exact alloc_old (alloc_blk _ _ _ (by simp))
  have xR : W3.heap[w.heap.size + 1 + 1]? = some (.cells #[.bool false, .int .i64 0, .slice none 0 0, .int .i64 0] 82 (0, 0)) := by rw [hW3]; exact alloc_blk _ _ _ (by simp)
  obtain ⟨A0, A1, A2, A3, D0, D1, D2, D3⟩ := row8 xA xB
  go_enter Tryz.func33, Tryz.ntmps33
  go_upto_region 1 with fail
  rw [← hW3]
  clear hW3
  go_wp2_with fail
  refine (right_is W3 (pLa.below B3) (pGa.below B3) (pOa.below B3) ra).mono ?_
  rintro r w4 ⟨rfl, b4⟩
  have blk4 : ∀ k, k < w.heap.size + 3 → w4.heap[k]? = W3.heap[k]? := fun k hk => b4.block k (by omega)
  have B4 : Below w.heap.size w w4 := B3.trans (b4.mono B3.size)
  have yA := (blk4 w.heap.size (by omega)).trans xA
  have yB := (blk4 (w.heap.size + 1) (by omega)).trans xB
  have yR := (blk4 (w.heap.size + 1 + 1) (by omega)).trans xR
  have s4 := b4.size
  clear A0 A1 A2 A3 D0 D1 D2 D3 xA xB xR blk4
  obtain ⟨A0, A1, A2, A3, D0, D1, D2, D3⟩ := row8 yA yB
  go_wp2_with fail
  refine (right_is w4 (pLb.below B4) (pGb.below B4) (pOb.below B4) rb).mono ?_
  rintro r w5 ⟨rfl, b5⟩
  have blk5 : ∀ k, k < w.heap.size + 3 → w5.heap[k]? = w4.heap[k]? := fun k hk => b5.block k (by omega)
  have B5 : Below w.heap.size w w5 := B4.trans (b5.mono B4.size)
  have zA := (blk5 w.heap.size (by omega)).trans yA
  have zB := (blk5 (w.heap.size + 1) (by omega)).trans yB
  have zR := (blk5 (w.heap.size + 1 + 1) (by omega)).trans yR
  clear A0 A1 A2 A3 D0 D1 D2 D3 yA yB yR blk5
  obtain ⟨A0, A1, A2, A3, D0, D1, D2, D3⟩ := row8 zA zB
  have F0 : w5.cell? ⟨w.heap.size + 1 + 1, 0, none⟩ = some (.bool false) := by rw [cell_of_row _ _ _ _ _ _ zR]; rfl
  have F1 : w5.cell? ⟨w.heap.size + 1 + 1, 1, none⟩ = some (.int .i64 0) := by rw [cell_of_row _ _ _ _ _ _ zR]; rfl
  have F2 : w5.cell? ⟨w.heap.size + 1 + 1, 2, none⟩ = some (.slice none 0 0) := by rw [cell_of_row _ _ _ _ _ _ zR]; rfl
  have F3 : w5.cell? ⟨w.heap.size + 1 + 1, 3, none⟩ = some (.int .i64 0) := by rw [cell_of_row _ _ _ _ _ _ zR]; rfl
  have G0 : w5.frozen? ⟨w.heap.size + 1 + 1, 0, none⟩ = false := frozen_of_row _ _ _ _ _ zR
  have G1 : w5.frozen? ⟨w.heap.size + 1 + 1, 1, none⟩ = false := frozen_of_row _ _ _ _ _ zR
  have G2 : w5.frozen? ⟨w.heap.size + 1 + 1, 2, none⟩ = false := frozen_of_row _ _ _ _ _ zR
  have G3 : w5.frozen? ⟨w.heap.size + 1 + 1, 3, none⟩ = false := frozen_of_row _ _ _ _ _ zR
  go_wp2
  refine cmp_close (b := w.heap.size + 1 + 1) (box4_blkW zR _ _ _ _) (by rfl) (by rfl) ?_
  exact ⟨rfl, box4_below B5 (by omega) _ _ _ _⟩

set_option maxHeartbeats 2000000 in
set_option maxRecDepth 100000 in
theorem cmp_outputs (n m : Int) (la ga : List (Int × Int)) (oa : List Int) (lb gb : List (Int × Int)) (ob : List Int) (la1 ga1 oa1 lb1 gb1 ob1 : Option Addr) (lc1 gc1 oc1 ld1 gd1 od1 : Nat) (w : World)
    (ra : rightB n la ga oa = true) (rb : rightB m lb gb ob = true) (hnm : n = m) (hne : oa.length ≠ ob.length)
    (pLa : PairsAt w la1 la) (pGa : PairsAt w ga1 ga) (pOa : IntsAt w oa1 oa) (pLb : PairsAt w lb1 lb) (pGb : PairsAt w gb1 gb) (pOb : IntsAt w ob1 ob) :
    Calls Tryz.prog 33 #[.agg #[.int .i64 n, .slice la1 la.length lc1, .slice ga1 ga.length gc1, .slice oa1 oa.length oc1], .agg #[.int .i64 m, .slice lb1 lb.length ld1, .slice gb1 gb.length gd1, .slice ob1 ob.length od1]] w fun e w' =>
      e = .returned (.tuple #[.agg #[.bool false, .int .i64 0, .slice none 0 0, .int .i64 0], .int .i64 4]) ∧ Below w.heap.size w w' := by
  subst hnm
  have hnn : (n != n) = false := by simp
  have hoo : ((oa.length : Int) != (ob.length : Int)) = true := by simp; omega
  obtain ⟨W3, hW3⟩ : ∃ W3, W3 = ((w.alloc (.cells #[.int .i64 n, .slice la1 la.length lc1, .slice ga1 ga.length gc1, .slice oa1 oa.length oc1] 34)).alloc (.cells #[.int .i64 n, .slice lb1 lb.length ld1, .slice gb1 gb.length gd1, .slice ob1 ob.length od1] 34)).alloc (.cells #[.bool false, .int .i64 0, .slice none 0 0, .int .i64 0] 82) := ⟨_, rfl⟩
  have s3 : W3.heap.size = w.heap.size + 3 := by rw [hW3]; simp
  have B3 : Below w.heap.size w W3 := by rw [hW3]; exact (((Below.refl _ _).alloc (Nat.le_refl _) _).alloc (by simp) _).alloc (by simp; omega) _
  have xA : W3.heap[w.heap.size]? = some (.cells #[.int .i64 n, .slice la1 la.length lc1, .slice ga1 ga.length gc1, .slice oa1 oa.length oc1] 34 (0, 0)) := by rw [hW3]; exact alloc_old (alloc_old (alloc_blk _ _ _ rfl))
  have xB : W3.heap[w.heap.size + 1]? = some (.cells #[.int .i64 n, .slice lb1 lb.length ld1, .slice gb1 gb.length gd1, .slice ob1 ob.length od1] 34 (0, 0)) := by rw [hW3]; exact alloc_old (alloc_blk _ _ _ (by simp))
  have xR : W3.heap[w.heap.size + 1 + 1]? = some (.cells #[.bool false, .int .i64 0, .slice none 0 0, .int .i64 0] 82 (0, 0)) := by rw [hW3]; exact alloc_blk _ _ _ (by simp)
  obtain ⟨A0, A1, A2, A3, D0, D1, D2, D3⟩ := row8 xA xB
  go_enter Tryz.func33, Tryz.ntmps33
  go_upto_region 1 with fail
  rw [← hW3]
  clear hW3
  go_wp2_with fail
  refine (right_is W3 (pLa.below B3) (pGa.below B3) (pOa.below B3) ra).mono ?_
  rintro r w4 ⟨rfl, b4⟩
  have blk4 : ∀ k, k < w.heap.size + 3 → w4.heap[k]? = W3.heap[k]? := fun k hk => b4.block k (by omega)
  have B4 : Below w.heap.size w w4 := B3.trans (b4.mono B3.size)
  have yA := (blk4 w.heap.size (by omega)).trans xA
  have yB := (blk4 (w.heap.size + 1) (by omega)).trans xB
  have yR := (blk4 (w.heap.size + 1 + 1) (by omega)).trans xR
  have s4 := b4.size
  clear A0 A1 A2 A3 D0 D1 D2 D3 xA xB xR blk4
  obtain ⟨A0, A1, A2, A3, D0, D1, D2, D3⟩ := row8 yA yB
  go_wp2_with fail
  refine (right_is w4 (pLb.below B4) (pGb.below B4) (pOb.below B4) rb).mono ?_
  rintro r w5 ⟨rfl, b5⟩
  have blk5 : ∀ k, k < w.heap.size + 3 → w5.heap[k]? = w4.heap[k]? := fun k hk => b5.block k (by omega)
  have B5 : Below w.heap.size w w5 := B4.trans (b5.mono B4.size)
  have zA := (blk5 w.heap.size (by omega)).trans yA
  have zB := (blk5 (w.heap.size + 1) (by omega)).trans yB
  have zR := (blk5 (w.heap.size + 1 + 1) (by omega)).trans yR
  clear A0 A1 A2 A3 D0 D1 D2 D3 yA yB yR blk5
  obtain ⟨A0, A1, A2, A3, D0, D1, D2, D3⟩ := row8 zA zB
  have F0 : w5.cell? ⟨w.heap.size + 1 + 1, 0, none⟩ = some (.bool false) := by rw [cell_of_row _ _ _ _ _ _ zR]; rfl
  have F1 : w5.cell? ⟨w.heap.size + 1 + 1, 1, none⟩ = some (.int .i64 0) := by rw [cell_of_row _ _ _ _ _ _ zR]; rfl
  have F2 : w5.cell? ⟨w.heap.size + 1 + 1, 2, none⟩ = some (.slice none 0 0) := by rw [cell_of_row _ _ _ _ _ _ zR]; rfl
  have F3 : w5.cell? ⟨w.heap.size + 1 + 1, 3, none⟩ = some (.int .i64 0) := by rw [cell_of_row _ _ _ _ _ _ zR]; rfl
  have G0 : w5.frozen? ⟨w.heap.size + 1 + 1, 0, none⟩ = false := frozen_of_row _ _ _ _ _ zR
  have G1 : w5.frozen? ⟨w.heap.size + 1 + 1, 1, none⟩ = false := frozen_of_row _ _ _ _ _ zR
  have G2 : w5.frozen? ⟨w.heap.size + 1 + 1, 2, none⟩ = false := frozen_of_row _ _ _ _ _ zR
  have G3 : w5.frozen? ⟨w.heap.size + 1 + 1, 3, none⟩ = false := frozen_of_row _ _ _ _ _ zR
  go_wp2
  refine cmp_close (b := w.heap.size + 1 + 1) (box4_blkW zR _ _ _ _) (by rfl) (by rfl) ?_
  exact ⟨rfl, box4_below B5 (by omega) _ _ _ _⟩

end Go.Proofs.YtgpaajdfkekjiaaGreatDoor

namespace Go.Proofs.YtgpaajdfkekjiaaGreatDoor
open Go.RowKit

/-- What Compare answers of two circuits: are they the same, how many pairs were reached, the trace, the output, the error. -/
def CmpAns (n : Int) (la ga : List (Int × Int)) (oa : List Int) (m : Int) (lb gb : List (Int × Int)) (ob : List Int) (sm : Bool) (rc : Nat) (tr : List Nat) (ou : Nat) (er : Int) : Prop :=
  if rightB n la ga oa = false ∨ rightB m lb gb ob = false then sm = false ∧ rc = 0 ∧ tr = [] ∧ ou = 0 ∧ er = 2
  else if n ≠ m ∨ oa.length ≠ ob.length then sm = false ∧ rc = 0 ∧ tr = [] ∧ ou = 0 ∧ er = 4
  else ∃ d, (duo n.toNat la ga oa lb gb ob).Says sm rc tr d ∧ ou = (if sm then 0 else tzN d) ∧ er = 0

theorem right_n {n : Int} {ls gs : List (Int × Int)} {os : List Int} (h : rightB n ls gs os = true) : 0 ≤ n ∧ n ≤ 4 := by
  simp only [rightB, sizesB, Bool.and_eq_true, decide_eq_true_eq, inB] at h
  obtain ⟨⟨⟨⟨⟨⟨h1, h2⟩, h3⟩, h4⟩, hl⟩, hg⟩, ho⟩ := h
  omega

theorem cmpAns_one {n : Int} {la ga : List (Int × Int)} {oa : List Int} {m : Int} {lb gb : List (Int × Int)} {ob : List Int} {sm sm' : Bool} {rc rc' : Nat} {tr tr' : List Nat} {ou ou' : Nat} {er er' : Int}
    (h : CmpAns n la ga oa m lb gb ob sm rc tr ou er) (h' : CmpAns n la ga oa m lb gb ob sm' rc' tr' ou' er') : sm = sm' ∧ rc = rc' ∧ tr = tr' ∧ ou = ou' ∧ er = er' := by
  unfold CmpAns at h h'
  split at h
  · rename_i hc
    rw [if_pos hc] at h'
    obtain ⟨rfl, rfl, rfl, rfl, rfl⟩ := h
    obtain ⟨rfl, rfl, rfl, rfl, rfl⟩ := h'
    exact ⟨rfl, rfl, rfl, rfl, rfl⟩
  · rename_i hc
    rw [if_neg hc] at h'
    split at h
    · rename_i hc2
      rw [if_pos hc2] at h'
      obtain ⟨rfl, rfl, rfl, rfl, rfl⟩ := h
      obtain ⟨rfl, rfl, rfl, rfl, rfl⟩ := h'
      exact ⟨rfl, rfl, rfl, rfl, rfl⟩
    · rename_i hc2
      rw [if_neg hc2] at h'
      obtain ⟨d, h1, h2, h3⟩ := h
      obtain ⟨d', h1', h2', h3'⟩ := h'
      have hn : rightB n la ga oa = true := by
        cases hb : rightB n la ga oa
        · exact absurd (.inl hb) hc
        · rfl
      have hn4 := right_n hn
      obtain ⟨rfl, rfl, rfl, rfl⟩ := Duo.says_one (duo_K (by omega)) h1 h1'
      exact ⟨rfl, rfl, rfl, by rw [h2, h2'], by rw [h3, h3']⟩

/-- The end of a call that answers so. -/
def CmpEnd (ans : Bool → Nat → List Nat → Nat → Int → Prop) (w : World) (r : Ending) (w' : World) : Prop :=
  ∃ (sm : Bool) (rc : Nat) (tr : List Nat) (ou : Nat) (er : Int) (ta : Option Addr) (tc : Nat), ans sm rc tr ou er ∧ r = .returned (.tuple #[.agg #[.bool sm, .int .i64 rc, .slice ta tr.length tc, .int .i64 ou], .int .i64 er]) ∧
    w'.ownsRow w.heap.size 3 1 (.slice ta tr.length tc) tr.length (ivals tr) ∧ tr.length ≤ 256 ∧ Below w.heap.size w w'

theorem cmpEnd_bad {n : Int} {la ga : List (Int × Int)} {oa : List Int} {m : Int} {lb gb : List (Int × Int)} {ob : List Int} {w w' : World} {e : Ending} {er : Int} (h : CmpAns n la ga oa m lb gb ob false 0 [] 0 er)
    (he : e = .returned (.tuple #[.agg #[.bool false, .int .i64 0, .slice none 0 0, .int .i64 0], .int .i64 er]) ∧ Below w.heap.size w w') : CmpEnd (CmpAns n la ga oa m lb gb ob) w e w' :=
  ⟨false, 0, [], 0, er, none, 0, h, he.1, World.ownsRow_nil _ _ _ _, by simp, he.2⟩
theorem cmpAns_wrong {n : Int} {la ga : List (Int × Int)} {oa : List Int} {m : Int} {lb gb : List (Int × Int)} {ob : List Int} (h : rightB n la ga oa = false ∨ rightB m lb gb ob = false) : CmpAns n la ga oa m lb gb ob false 0 [] 0 2 := by
  unfold CmpAns; rw [if_pos h]; exact ⟨rfl, rfl, rfl, rfl, rfl⟩
theorem cmpAns_shape {n : Int} {la ga : List (Int × Int)} {oa : List Int} {m : Int} {lb gb : List (Int × Int)} {ob : List Int} (h1 : rightB n la ga oa = true) (h2 : rightB m lb gb ob = true) (h : n ≠ m ∨ oa.length ≠ ob.length) : CmpAns n la ga oa m lb gb ob false 0 [] 0 4 := by
  unfold CmpAns; rw [if_neg (by rw [h1, h2]; simp), if_pos h]; exact ⟨rfl, rfl, rfl, rfl, rfl⟩
theorem cmpEnd_ok {n : Nat} {la ga : List (Int × Int)} {oa : List Int} {lb gb : List (Int × Int)} {ob : List Int} {w w' : World} {e : Ending} (h1 : rightB n la ga oa = true) (h2 : rightB n lb gb ob = true) (h : oa.length = ob.length)
    (he : CmpRes (duo n la ga oa lb gb ob) w e w') : CmpEnd (CmpAns n la ga oa n lb gb ob) w e w' := by
  obtain ⟨sm, rc, tr, d, ta, tc, hs, he, ho, hl, hb⟩ := he
  refine ⟨sm, rc, tr, if sm then 0 else tzN d, 0, ta, tc, ?_, he, ho, hl, hb⟩
  unfold CmpAns
  rw [if_neg (by rw [h1, h2]; simp), if_neg (by simp [h])]
  exact ⟨d, by simpa using hs, rfl, rfl⟩

theorem latchCompare_all (n m : Int) (la ga : List (Int × Int)) (oa : List Int) (lb gb : List (Int × Int)) (ob : List Int) (la1 ga1 oa1 lb1 gb1 ob1 : Option Addr) (lc1 gc1 oc1 ld1 gd1 od1 : Nat) (w : World) (hdb : TabDB w)
    (pLa : PairsAt w la1 la) (pGa : PairsAt w ga1 ga) (pOa : IntsAt w oa1 oa) (pLb : PairsAt w lb1 lb) (pGb : PairsAt w gb1 gb) (pOb : IntsAt w ob1 ob) :
    Calls Tryz.prog 33 #[.agg #[.int .i64 n, .slice la1 la.length lc1, .slice ga1 ga.length gc1, .slice oa1 oa.length oc1], .agg #[.int .i64 m, .slice lb1 lb.length ld1, .slice gb1 gb.length gd1, .slice ob1 ob.length od1]] w (CmpEnd (CmpAns n la ga oa m lb gb ob) w) := by
  cases ra : rightB n la ga oa
  · exact (cmp_wrongA n m la ga oa lb gb ob la1 ga1 oa1 lb1 gb1 ob1 lc1 gc1 oc1 ld1 gd1 od1 w ra pLa pGa pOa).mono fun e w' h => cmpEnd_bad (cmpAns_wrong (.inl ra)) h
  · cases rb : rightB m lb gb ob
    · exact (cmp_wrongB n m la ga oa lb gb ob la1 ga1 oa1 lb1 gb1 ob1 lc1 gc1 oc1 ld1 gd1 od1 w ra rb pLa pGa pOa pLb pGb pOb).mono fun e w' h => cmpEnd_bad (cmpAns_wrong (.inr rb)) h
    · by_cases hnm : n = m
      · by_cases hl : oa.length = ob.length
        · subst hnm
          obtain ⟨k, rfl⟩ := Int.eq_ofNat_of_zero_le (right_n ra).1
          exact (cmp_ok k la ga oa lb gb ob la1 ga1 oa1 lb1 gb1 ob1 lc1 gc1 oc1 ld1 gd1 od1 w ra rb hl.symm hdb pLa pGa pOa pLb pGb pOb).mono fun e w' h => cmpEnd_ok ra rb hl h
        · exact (cmp_outputs n m la ga oa lb gb ob la1 ga1 oa1 lb1 gb1 ob1 lc1 gc1 oc1 ld1 gd1 od1 w ra rb hnm hl pLa pGa pOa pLb pGb pOb).mono fun e w' h => cmpEnd_bad (cmpAns_shape ra rb (.inr hl)) h
      · exact (cmp_inputs n m la ga oa lb gb ob la1 ga1 oa1 lb1 gb1 ob1 lc1 gc1 oc1 ld1 gd1 od1 w ra rb hnm pLa pGa pOa pLb pGb pOb).mono fun e w' h => cmpEnd_bad (cmpAns_shape ra rb (.inl hnm)) h

end Go.Proofs.YtgpaajdfkekjiaaGreatDoor
