/-
  Compare of package latchref where a circuit is wrong, and where the shapes differ. Written by wip/mk_refbad.py.
  The reference's Compare gives the one answer, of any two circuits.
-/
import Derived.Test.YtgpaajdfkekjiaaGreatDoorCmpEnds
import Derived.Test.YtgpaajdfkekjiaaGreatDoorRefAll
import Derived.Test.YtgpaajdfkekjiaaGreatDoorRefCmp
namespace Go.Proofs.YtgpaajdfkekjiaaGreatDoor
open Go.RowKit

set_option maxHeartbeats 1000000 in
theorem rbad_close {tmps : Array Value} {Q : Ending → World → Prop} {w : World} {b : Nat} {v0 v1 v2 v3 y : Value} (h : w.heap[b]? = some (.cells #[v0, v1, v2, v3] 82 (0, 0)))
    (h4 : tmps[4]?.getD undef = .pointer (some ⟨b, 0, none⟩)) (h5 : tmps[5]?.getD undef = y) (hQ : Q (.returned (.tuple #[.agg #[v0, v1, v2, v3], y])) w) :
    bodyPost Tryz.prog Tryz.f34 Q Exit.ret ⟨tmps, []⟩ w := by
  have c0 : w.cell? ⟨b, 0, none⟩ = some v0 := by rw [cell_of_row _ _ _ _ _ _ h]; rfl
  have c1 : w.cell? ⟨b, 1, none⟩ = some v1 := by rw [cell_of_row _ _ _ _ _ _ h]; rfl
  have c2 : w.cell? ⟨b, 2, none⟩ = some v2 := by rw [cell_of_row _ _ _ _ _ _ h]; rfl
  have c3 : w.cell? ⟨b, 3, none⟩ = some v3 := by rw [cell_of_row _ _ _ _ _ _ h]; rfl
  exact bodyPost_ret (by simp [results, Tryz.results34, go_sem, h4, h5, c0, c1, c2, c3]) rfl hQ

set_option maxHeartbeats 2000000 in
set_option maxRecDepth 100000 in
theorem rcmp_ff (n m : Int) (la ga : List (Int × Int)) (oa : List Int) (lb gb : List (Int × Int)) (ob : List Int) (la1 ga1 oa1 lb1 gb1 ob1 : Option Addr) (lc1 gc1 oc1 ld1 gd1 od1 : Nat) (w : World)
    (ra : rightB n la ga oa = false) (rb : rightB m lb gb ob = false) 
    (fLa : ∀ i, i < la.length → Fits (la.getD i (0, 0)).1) (fGa : ∀ i, i < ga.length → Fits (ga.getD i (0, 0)).1 ∧ Fits (ga.getD i (0, 0)).2) (fOa : ∀ i, i < oa.length → Fits (oa.getD i 0))
    (fLb : ∀ i, i < lb.length → Fits (lb.getD i (0, 0)).1) (fGb : ∀ i, i < gb.length → Fits (gb.getD i (0, 0)).1 ∧ Fits (gb.getD i (0, 0)).2) (fOb : ∀ i, i < ob.length → Fits (ob.getD i 0))
    (pLa : PairsAt w la1 la) (pGa : PairsAt w ga1 ga) (pOa : IntsAt w oa1 oa) (pLb : PairsAt w lb1 lb) (pGb : PairsAt w gb1 gb) (pOb : IntsAt w ob1 ob) :
    Calls Tryz.prog 34 #[.agg #[.int .i64 n, .slice la1 la.length lc1, .slice ga1 ga.length gc1, .slice oa1 oa.length oc1], .agg #[.int .i64 m, .slice lb1 lb.length ld1, .slice gb1 gb.length gd1, .slice ob1 ob.length od1]] w fun e w' =>
      e = .returned (.tuple #[.agg #[.bool false, .int .i64 0, .slice none 0 0, .int .i64 0], .int .i64 2]) ∧ Below w.heap.size w w' := by
  have rgA : ∀ W, Below w.heap.size w W → Calls Tryz.prog 46 #[.agg #[.int .i64 n, .slice la1 la.length lc1, .slice ga1 ga.length gc1, .slice oa1 oa.length oc1]] W fun e w' => e = .returned (.bool false) ∧ Below W.heap.size W w' := fun W hW => by
    have h := refRight_any n la1 ga1 oa1 lc1 gc1 oc1 la ga oa W (pLa.below hW) (pGa.below hW) (pOa.below hW) fLa fGa fOa
    rw [ra] at h
    exact h
  have rgB : ∀ W, Below w.heap.size w W → Calls Tryz.prog 46 #[.agg #[.int .i64 m, .slice lb1 lb.length ld1, .slice gb1 gb.length gd1, .slice ob1 ob.length od1]] W fun e w' => e = .returned (.bool false) ∧ Below W.heap.size W w' := fun W hW => by
    have h := refRight_any m lb1 gb1 ob1 ld1 gd1 od1 lb gb ob W (pLb.below hW) (pGb.below hW) (pOb.below hW) fLb fGb fOb
    rw [rb] at h
    exact h
  have RGA := hideW rgA
  have RGB := hideW rgB
  clear rgA rgB ra rb fLa fGa fOa fLb fGb fOb pLa pGa pOa pLb pGb pOb
  obtain ⟨W3, hW3⟩ : ∃ W3, W3 = ((w.alloc (.cells #[.int .i64 n, .slice la1 la.length lc1, .slice ga1 ga.length gc1, .slice oa1 oa.length oc1] 34)).alloc (.cells #[.int .i64 m, .slice lb1 lb.length ld1, .slice gb1 gb.length gd1, .slice ob1 ob.length od1] 34)).alloc (.cells #[.bool false, .int .i64 0, .slice none 0 0, .int .i64 0] 82) := ⟨_, rfl⟩
  have s3 : W3.heap.size = w.heap.size + 3 := by rw [hW3]; simp
  have B3 : Below w.heap.size w W3 := by rw [hW3]; exact (((Below.refl _ _).alloc (Nat.le_refl _) _).alloc (by simp) _).alloc (by simp; omega) _
  have xA : W3.heap[w.heap.size]? = some (.cells #[.int .i64 n, .slice la1 la.length lc1, .slice ga1 ga.length gc1, .slice oa1 oa.length oc1] 34 (0, 0)) := by rw [hW3]; exact alloc_old (alloc_old (alloc_blk _ _ _ rfl))
  have xB : W3.heap[w.heap.size + 1]? = some (.cells #[.int .i64 m, .slice lb1 lb.length ld1, .slice gb1 gb.length gd1, .slice ob1 ob.length od1] 34 (0, 0)) := by rw [hW3]; exact alloc_old (alloc_blk _ _ _ (by simp))
  have xR : W3.heap[w.heap.size + 1 + 1]? = some (.cells #[.bool false, .int .i64 0, .slice none 0 0, .int .i64 0] 82 (0, 0)) := by rw [hW3]; exact alloc_blk _ _ _ (by simp)
  obtain ⟨A0, A1, A2, A3, D0, D1, D2, D3⟩ := row8 xA xB
  go_enter Tryz.func34, Tryz.ntmps34
  go_upto_region 1 with fail
  rw [← hW3]
  clear hW3
  go_wp2_with fail
  refine (RGA.out W3 B3).mono ?_
  rintro r w4 ⟨rfl, b4⟩
  have B4 : Below w.heap.size w w4 := B3.trans (b4.mono B3.size)
  have yA := (b4.block w.heap.size (by omega)).trans xA
  have yB := (b4.block (w.heap.size + 1) (by omega)).trans xB
  have yR := (b4.block (w.heap.size + 1 + 1) (by omega)).trans xR
  have s4 := b4.size
  clear A0 A1 A2 A3 D0 D1 D2 D3 xA xB xR
  obtain ⟨A0, A1, A2, A3, D0, D1, D2, D3⟩ := row8 yA yB
  go_wp2_with fail
  refine (RGB.out w4 B4).mono ?_
  rintro r w5 ⟨rfl, b5⟩
  have B5 : Below w.heap.size w w5 := B4.trans (b5.mono B4.size)
  have zA := (b5.block w.heap.size (by omega)).trans yA
  have zB := (b5.block (w.heap.size + 1) (by omega)).trans yB
  have zR := (b5.block (w.heap.size + 1 + 1) (by omega)).trans yR
  have s5 := b5.size
  clear A0 A1 A2 A3 D0 D1 D2 D3 yA yB yR b4 b5
  obtain ⟨A0, A1, A2, A3, D0, D1, D2, D3⟩ := row8 zA zB
  have F0 : w5.cell? ⟨w.heap.size + 1 + 1, 0, none⟩ = some (.bool false) := by rw [cell_of_row _ _ _ _ _ _ zR]; rfl
  have F1 : w5.cell? ⟨w.heap.size + 1 + 1, 1, none⟩ = some (.int .i64 0) := by rw [cell_of_row _ _ _ _ _ _ zR]; rfl
  have F2 : w5.cell? ⟨w.heap.size + 1 + 1, 2, none⟩ = some (.slice none 0 0) := by rw [cell_of_row _ _ _ _ _ _ zR]; rfl
  have F3 : w5.cell? ⟨w.heap.size + 1 + 1, 3, none⟩ = some (.int .i64 0) := by rw [cell_of_row _ _ _ _ _ _ zR]; rfl
  have G0 : w5.frozen? ⟨w.heap.size + 1 + 1, 0, none⟩ = false := frozen_of_row _ _ _ _ _ zR
  have G1 : w5.frozen? ⟨w.heap.size + 1 + 1, 1, none⟩ = false := frozen_of_row _ _ _ _ _ zR
  have G2 : w5.frozen? ⟨w.heap.size + 1 + 1, 2, none⟩ = false := frozen_of_row _ _ _ _ _ zR
  have G3 : w5.frozen? ⟨w.heap.size + 1 + 1, 3, none⟩ = false := frozen_of_row _ _ _ _ _ zR
  go_wp2
  refine rbad_close (b := w.heap.size + 1 + 1) (box4_blkW zR _ _ _ _) (by rfl) (by rfl) ?_
  exact ⟨rfl, box4_below B5 (by omega) _ _ _ _⟩

set_option maxHeartbeats 2000000 in
set_option maxRecDepth 100000 in
theorem rcmp_ft (n m : Int) (la ga : List (Int × Int)) (oa : List Int) (lb gb : List (Int × Int)) (ob : List Int) (la1 ga1 oa1 lb1 gb1 ob1 : Option Addr) (lc1 gc1 oc1 ld1 gd1 od1 : Nat) (w : World)
    (ra : rightB n la ga oa = false) (rb : rightB m lb gb ob = true) 
    (fLa : ∀ i, i < la.length → Fits (la.getD i (0, 0)).1) (fGa : ∀ i, i < ga.length → Fits (ga.getD i (0, 0)).1 ∧ Fits (ga.getD i (0, 0)).2) (fOa : ∀ i, i < oa.length → Fits (oa.getD i 0))
    (fLb : ∀ i, i < lb.length → Fits (lb.getD i (0, 0)).1) (fGb : ∀ i, i < gb.length → Fits (gb.getD i (0, 0)).1 ∧ Fits (gb.getD i (0, 0)).2) (fOb : ∀ i, i < ob.length → Fits (ob.getD i 0))
    (pLa : PairsAt w la1 la) (pGa : PairsAt w ga1 ga) (pOa : IntsAt w oa1 oa) (pLb : PairsAt w lb1 lb) (pGb : PairsAt w gb1 gb) (pOb : IntsAt w ob1 ob) :
    Calls Tryz.prog 34 #[.agg #[.int .i64 n, .slice la1 la.length lc1, .slice ga1 ga.length gc1, .slice oa1 oa.length oc1], .agg #[.int .i64 m, .slice lb1 lb.length ld1, .slice gb1 gb.length gd1, .slice ob1 ob.length od1]] w fun e w' =>
      e = .returned (.tuple #[.agg #[.bool false, .int .i64 0, .slice none 0 0, .int .i64 0], .int .i64 2]) ∧ Below w.heap.size w w' := by
  have rgA : ∀ W, Below w.heap.size w W → Calls Tryz.prog 46 #[.agg #[.int .i64 n, .slice la1 la.length lc1, .slice ga1 ga.length gc1, .slice oa1 oa.length oc1]] W fun e w' => e = .returned (.bool false) ∧ Below W.heap.size W w' := fun W hW => by
    have h := refRight_any n la1 ga1 oa1 lc1 gc1 oc1 la ga oa W (pLa.below hW) (pGa.below hW) (pOa.below hW) fLa fGa fOa
    rw [ra] at h
    exact h
  have rgB : ∀ W, Below w.heap.size w W → Calls Tryz.prog 46 #[.agg #[.int .i64 m, .slice lb1 lb.length ld1, .slice gb1 gb.length gd1, .slice ob1 ob.length od1]] W fun e w' => e = .returned (.bool true) ∧ Below W.heap.size W w' := fun W hW => by
    have h := refRight_any m lb1 gb1 ob1 ld1 gd1 od1 lb gb ob W (pLb.below hW) (pGb.below hW) (pOb.below hW) fLb fGb fOb
    rw [rb] at h
    exact h
  have RGA := hideW rgA
  have RGB := hideW rgB
  clear rgA rgB ra rb fLa fGa fOa fLb fGb fOb pLa pGa pOa pLb pGb pOb
  obtain ⟨W3, hW3⟩ : ∃ W3, W3 = ((w.alloc (.cells #[.int .i64 n, .slice la1 la.length lc1, .slice ga1 ga.length gc1, .slice oa1 oa.length oc1] 34)).alloc (.cells #[.int .i64 m, .slice lb1 lb.length ld1, .slice gb1 gb.length gd1, .slice ob1 ob.length od1] 34)).alloc (.cells #[.bool false, .int .i64 0, .slice none 0 0, .int .i64 0] 82) := ⟨_, rfl⟩
  have s3 : W3.heap.size = w.heap.size + 3 := by rw [hW3]; simp
  have B3 : Below w.heap.size w W3 := by rw [hW3]; exact (((Below.refl _ _).alloc (Nat.le_refl _) _).alloc (by simp) _).alloc (by simp; omega) _
  have xA : W3.heap[w.heap.size]? = some (.cells #[.int .i64 n, .slice la1 la.length lc1, .slice ga1 ga.length gc1, .slice oa1 oa.length oc1] 34 (0, 0)) := by rw [hW3]; exact alloc_old (alloc_old (alloc_blk _ _ _ rfl))
  have xB : W3.heap[w.heap.size + 1]? = some (.cells #[.int .i64 m, .slice lb1 lb.length ld1, .slice gb1 gb.length gd1, .slice ob1 ob.length od1] 34 (0, 0)) := by rw [hW3]; exact alloc_old (alloc_blk _ _ _ (by simp))
  have xR : W3.heap[w.heap.size + 1 + 1]? = some (.cells #[.bool false, .int .i64 0, .slice none 0 0, .int .i64 0] 82 (0, 0)) := by rw [hW3]; exact alloc_blk _ _ _ (by simp)
  obtain ⟨A0, A1, A2, A3, D0, D1, D2, D3⟩ := row8 xA xB
  go_enter Tryz.func34, Tryz.ntmps34
  go_upto_region 1 with fail
  rw [← hW3]
  clear hW3
  go_wp2_with fail
  refine (RGA.out W3 B3).mono ?_
  rintro r w4 ⟨rfl, b4⟩
  have B4 : Below w.heap.size w w4 := B3.trans (b4.mono B3.size)
  have yA := (b4.block w.heap.size (by omega)).trans xA
  have yB := (b4.block (w.heap.size + 1) (by omega)).trans xB
  have yR := (b4.block (w.heap.size + 1 + 1) (by omega)).trans xR
  have s4 := b4.size
  clear A0 A1 A2 A3 D0 D1 D2 D3 xA xB xR
  obtain ⟨A0, A1, A2, A3, D0, D1, D2, D3⟩ := row8 yA yB
  go_wp2_with fail
  refine (RGB.out w4 B4).mono ?_
  rintro r w5 ⟨rfl, b5⟩
  have B5 : Below w.heap.size w w5 := B4.trans (b5.mono B4.size)
  have zA := (b5.block w.heap.size (by omega)).trans yA
  have zB := (b5.block (w.heap.size + 1) (by omega)).trans yB
  have zR := (b5.block (w.heap.size + 1 + 1) (by omega)).trans yR
  have s5 := b5.size
  clear A0 A1 A2 A3 D0 D1 D2 D3 yA yB yR b4 b5
  obtain ⟨A0, A1, A2, A3, D0, D1, D2, D3⟩ := row8 zA zB
  have F0 : w5.cell? ⟨w.heap.size + 1 + 1, 0, none⟩ = some (.bool false) := by rw [cell_of_row _ _ _ _ _ _ zR]; rfl
  have F1 : w5.cell? ⟨w.heap.size + 1 + 1, 1, none⟩ = some (.int .i64 0) := by rw [cell_of_row _ _ _ _ _ _ zR]; rfl
  have F2 : w5.cell? ⟨w.heap.size + 1 + 1, 2, none⟩ = some (.slice none 0 0) := by rw [cell_of_row _ _ _ _ _ _ zR]; rfl
  have F3 : w5.cell? ⟨w.heap.size + 1 + 1, 3, none⟩ = some (.int .i64 0) := by rw [cell_of_row _ _ _ _ _ _ zR]; rfl
  have G0 : w5.frozen? ⟨w.heap.size + 1 + 1, 0, none⟩ = false := frozen_of_row _ _ _ _ _ zR
  have G1 : w5.frozen? ⟨w.heap.size + 1 + 1, 1, none⟩ = false := frozen_of_row _ _ _ _ _ zR
  have G2 : w5.frozen? ⟨w.heap.size + 1 + 1, 2, none⟩ = false := frozen_of_row _ _ _ _ _ zR
  have G3 : w5.frozen? ⟨w.heap.size + 1 + 1, 3, none⟩ = false := frozen_of_row _ _ _ _ _ zR
  go_wp2
  refine rbad_close (b := w.heap.size + 1 + 1) (box4_blkW zR _ _ _ _) (by rfl) (by rfl) ?_
  exact ⟨rfl, box4_below B5 (by omega) _ _ _ _⟩

set_option maxHeartbeats 2000000 in
set_option maxRecDepth 100000 in
theorem rcmp_tf (n m : Int) (la ga : List (Int × Int)) (oa : List Int) (lb gb : List (Int × Int)) (ob : List Int) (la1 ga1 oa1 lb1 gb1 ob1 : Option Addr) (lc1 gc1 oc1 ld1 gd1 od1 : Nat) (w : World)
    (ra : rightB n la ga oa = true) (rb : rightB m lb gb ob = false) 
    (fLa : ∀ i, i < la.length → Fits (la.getD i (0, 0)).1) (fGa : ∀ i, i < ga.length → Fits (ga.getD i (0, 0)).1 ∧ Fits (ga.getD i (0, 0)).2) (fOa : ∀ i, i < oa.length → Fits (oa.getD i 0))
    (fLb : ∀ i, i < lb.length → Fits (lb.getD i (0, 0)).1) (fGb : ∀ i, i < gb.length → Fits (gb.getD i (0, 0)).1 ∧ Fits (gb.getD i (0, 0)).2) (fOb : ∀ i, i < ob.length → Fits (ob.getD i 0))
    (pLa : PairsAt w la1 la) (pGa : PairsAt w ga1 ga) (pOa : IntsAt w oa1 oa) (pLb : PairsAt w lb1 lb) (pGb : PairsAt w gb1 gb) (pOb : IntsAt w ob1 ob) :
    Calls Tryz.prog 34 #[.agg #[.int .i64 n, .slice la1 la.length lc1, .slice ga1 ga.length gc1, .slice oa1 oa.length oc1], .agg #[.int .i64 m, .slice lb1 lb.length ld1, .slice gb1 gb.length gd1, .slice ob1 ob.length od1]] w fun e w' =>
      e = .returned (.tuple #[.agg #[.bool false, .int .i64 0, .slice none 0 0, .int .i64 0], .int .i64 2]) ∧ Below w.heap.size w w' := by
  have rgA : ∀ W, Below w.heap.size w W → Calls Tryz.prog 46 #[.agg #[.int .i64 n, .slice la1 la.length lc1, .slice ga1 ga.length gc1, .slice oa1 oa.length oc1]] W fun e w' => e = .returned (.bool true) ∧ Below W.heap.size W w' := fun W hW => by
    have h := refRight_any n la1 ga1 oa1 lc1 gc1 oc1 la ga oa W (pLa.below hW) (pGa.below hW) (pOa.below hW) fLa fGa fOa
    rw [ra] at h
    exact h
  have rgB : ∀ W, Below w.heap.size w W → Calls Tryz.prog 46 #[.agg #[.int .i64 m, .slice lb1 lb.length ld1, .slice gb1 gb.length gd1, .slice ob1 ob.length od1]] W fun e w' => e = .returned (.bool false) ∧ Below W.heap.size W w' := fun W hW => by
    have h := refRight_any m lb1 gb1 ob1 ld1 gd1 od1 lb gb ob W (pLb.below hW) (pGb.below hW) (pOb.below hW) fLb fGb fOb
    rw [rb] at h
    exact h
  have RGA := hideW rgA
  have RGB := hideW rgB
  clear rgA rgB ra rb fLa fGa fOa fLb fGb fOb pLa pGa pOa pLb pGb pOb
  obtain ⟨W3, hW3⟩ : ∃ W3, W3 = ((w.alloc (.cells #[.int .i64 n, .slice la1 la.length lc1, .slice ga1 ga.length gc1, .slice oa1 oa.length oc1] 34)).alloc (.cells #[.int .i64 m, .slice lb1 lb.length ld1, .slice gb1 gb.length gd1, .slice ob1 ob.length od1] 34)).alloc (.cells #[.bool false, .int .i64 0, .slice none 0 0, .int .i64 0] 82) := ⟨_, rfl⟩
  have s3 : W3.heap.size = w.heap.size + 3 := by rw [hW3]; simp
  have B3 : Below w.heap.size w W3 := by rw [hW3]; exact (((Below.refl _ _).alloc (Nat.le_refl _) _).alloc (by simp) _).alloc (by simp; omega) _
  have xA : W3.heap[w.heap.size]? = some (.cells #[.int .i64 n, .slice la1 la.length lc1, .slice ga1 ga.length gc1, .slice oa1 oa.length oc1] 34 (0, 0)) := by rw [hW3]; exact alloc_old (alloc_old (alloc_blk _ _ _ rfl))
  have xB : W3.heap[w.heap.size + 1]? = some (.cells #[.int .i64 m, .slice lb1 lb.length ld1, .slice gb1 gb.length gd1, .slice ob1 ob.length od1] 34 (0, 0)) := by rw [hW3]; exact alloc_old (alloc_blk _ _ _ (by simp))
  have xR : W3.heap[w.heap.size + 1 + 1]? = some (.cells #[.bool false, .int .i64 0, .slice none 0 0, .int .i64 0] 82 (0, 0)) := by rw [hW3]; exact alloc_blk _ _ _ (by simp)
  obtain ⟨A0, A1, A2, A3, D0, D1, D2, D3⟩ := row8 xA xB
  go_enter Tryz.func34, Tryz.ntmps34
  go_upto_region 1 with fail
  rw [← hW3]
  clear hW3
  go_wp2_with fail
  refine (RGA.out W3 B3).mono ?_
  rintro r w4 ⟨rfl, b4⟩
  have B4 : Below w.heap.size w w4 := B3.trans (b4.mono B3.size)
  have yA := (b4.block w.heap.size (by omega)).trans xA
  have yB := (b4.block (w.heap.size + 1) (by omega)).trans xB
  have yR := (b4.block (w.heap.size + 1 + 1) (by omega)).trans xR
  have s4 := b4.size
  clear A0 A1 A2 A3 D0 D1 D2 D3 xA xB xR
  obtain ⟨A0, A1, A2, A3, D0, D1, D2, D3⟩ := row8 yA yB
  go_wp2_with fail
  refine (RGB.out w4 B4).mono ?_
  rintro r w5 ⟨rfl, b5⟩
  have B5 : Below w.heap.size w w5 := B4.trans (b5.mono B4.size)
  have zA := (b5.block w.heap.size (by omega)).trans yA
  have zB := (b5.block (w.heap.size + 1) (by omega)).trans yB
  have zR := (b5.block (w.heap.size + 1 + 1) (by omega)).trans yR
  have s5 := b5.size
  clear A0 A1 A2 A3 D0 D1 D2 D3 yA yB yR b4 b5
  obtain ⟨A0, A1, A2, A3, D0, D1, D2, D3⟩ := row8 zA zB
  have F0 : w5.cell? ⟨w.heap.size + 1 + 1, 0, none⟩ = some (.bool false) := by rw [cell_of_row _ _ _ _ _ _ zR]; rfl
  have F1 : w5.cell? ⟨w.heap.size + 1 + 1, 1, none⟩ = some (.int .i64 0) := by rw [cell_of_row _ _ _ _ _ _ zR]; rfl
  have F2 : w5.cell? ⟨w.heap.size + 1 + 1, 2, none⟩ = some (.slice none 0 0) := by rw [cell_of_row _ _ _ _ _ _ zR]; rfl
  have F3 : w5.cell? ⟨w.heap.size + 1 + 1, 3, none⟩ = some (.int .i64 0) := by rw [cell_of_row _ _ _ _ _ _ zR]; rfl
  have G0 : w5.frozen? ⟨w.heap.size + 1 + 1, 0, none⟩ = false := frozen_of_row _ _ _ _ _ zR
  have G1 : w5.frozen? ⟨w.heap.size + 1 + 1, 1, none⟩ = false := frozen_of_row _ _ _ _ _ zR
  have G2 : w5.frozen? ⟨w.heap.size + 1 + 1, 2, none⟩ = false := frozen_of_row _ _ _ _ _ zR
  have G3 : w5.frozen? ⟨w.heap.size + 1 + 1, 3, none⟩ = false := frozen_of_row _ _ _ _ _ zR
  go_wp2
  refine rbad_close (b := w.heap.size + 1 + 1) (box4_blkW zR _ _ _ _) (by rfl) (by rfl) ?_
  exact ⟨rfl, box4_below B5 (by omega) _ _ _ _⟩

set_option maxHeartbeats 2000000 in
set_option maxRecDepth 100000 in
theorem rcmp_inputs (n m : Int) (la ga : List (Int × Int)) (oa : List Int) (lb gb : List (Int × Int)) (ob : List Int) (la1 ga1 oa1 lb1 gb1 ob1 : Option Addr) (lc1 gc1 oc1 ld1 gd1 od1 : Nat) (w : World)
    (ra : rightB n la ga oa = true) (rb : rightB m lb gb ob = true) (hne : n ≠ m)
    (fLa : ∀ i, i < la.length → Fits (la.getD i (0, 0)).1) (fGa : ∀ i, i < ga.length → Fits (ga.getD i (0, 0)).1 ∧ Fits (ga.getD i (0, 0)).2) (fOa : ∀ i, i < oa.length → Fits (oa.getD i 0))
    (fLb : ∀ i, i < lb.length → Fits (lb.getD i (0, 0)).1) (fGb : ∀ i, i < gb.length → Fits (gb.getD i (0, 0)).1 ∧ Fits (gb.getD i (0, 0)).2) (fOb : ∀ i, i < ob.length → Fits (ob.getD i 0))
    (pLa : PairsAt w la1 la) (pGa : PairsAt w ga1 ga) (pOa : IntsAt w oa1 oa) (pLb : PairsAt w lb1 lb) (pGb : PairsAt w gb1 gb) (pOb : IntsAt w ob1 ob) :
    Calls Tryz.prog 34 #[.agg #[.int .i64 n, .slice la1 la.length lc1, .slice ga1 ga.length gc1, .slice oa1 oa.length oc1], .agg #[.int .i64 m, .slice lb1 lb.length ld1, .slice gb1 gb.length gd1, .slice ob1 ob.length od1]] w fun e w' =>
      e = .returned (.tuple #[.agg #[.bool false, .int .i64 0, .slice none 0 0, .int .i64 0], .int .i64 4]) ∧ Below w.heap.size w w' := by
  have hnn : (n != m) = true := by simp [hne]
  have rgA : ∀ W, Below w.heap.size w W → Calls Tryz.prog 46 #[.agg #[.int .i64 n, .slice la1 la.length lc1, .slice ga1 ga.length gc1, .slice oa1 oa.length oc1]] W fun e w' => e = .returned (.bool true) ∧ Below W.heap.size W w' := fun W hW => by
    have h := refRight_any n la1 ga1 oa1 lc1 gc1 oc1 la ga oa W (pLa.below hW) (pGa.below hW) (pOa.below hW) fLa fGa fOa
    rw [ra] at h
    exact h
  have rgB : ∀ W, Below w.heap.size w W → Calls Tryz.prog 46 #[.agg #[.int .i64 m, .slice lb1 lb.length ld1, .slice gb1 gb.length gd1, .slice ob1 ob.length od1]] W fun e w' => e = .returned (.bool true) ∧ Below W.heap.size W w' := fun W hW => by
    have h := refRight_any m lb1 gb1 ob1 ld1 gd1 od1 lb gb ob W (pLb.below hW) (pGb.below hW) (pOb.below hW) fLb fGb fOb
    rw [rb] at h
    exact h
  have RGA := hideW rgA
  have RGB := hideW rgB
  clear rgA rgB ra rb fLa fGa fOa fLb fGb fOb pLa pGa pOa pLb pGb pOb
  obtain ⟨W3, hW3⟩ : ∃ W3, W3 = ((w.alloc (.cells #[.int .i64 n, .slice la1 la.length lc1, .slice ga1 ga.length gc1, .slice oa1 oa.length oc1] 34)).alloc (.cells #[.int .i64 m, .slice lb1 lb.length ld1, .slice gb1 gb.length gd1, .slice ob1 ob.length od1] 34)).alloc (.cells #[.bool false, .int .i64 0, .slice none 0 0, .int .i64 0] 82) := ⟨_, rfl⟩
  have s3 : W3.heap.size = w.heap.size + 3 := by rw [hW3]; simp
  have B3 : Below w.heap.size w W3 := by rw [hW3]; exact (((Below.refl _ _).alloc (Nat.le_refl _) _).alloc (by simp) _).alloc (by simp; omega) _
  have xA : W3.heap[w.heap.size]? = some (.cells #[.int .i64 n, .slice la1 la.length lc1, .slice ga1 ga.length gc1, .slice oa1 oa.length oc1] 34 (0, 0)) := by rw [hW3]; exact alloc_old (alloc_old (alloc_blk _ _ _ rfl))
  have xB : W3.heap[w.heap.size + 1]? = some (.cells #[.int .i64 m, .slice lb1 lb.length ld1, .slice gb1 gb.length gd1, .slice ob1 ob.length od1] 34 (0, 0)) := by rw [hW3]; exact alloc_old (alloc_blk _ _ _ (by simp))
  have xR : W3.heap[w.heap.size + 1 + 1]? = some (.cells #[.bool false, .int .i64 0, .slice none 0 0, .int .i64 0] 82 (0, 0)) := by rw [hW3]; exact alloc_blk _ _ _ (by simp)
  obtain ⟨A0, A1, A2, A3, D0, D1, D2, D3⟩ := row8 xA xB
  go_enter Tryz.func34, Tryz.ntmps34
  go_upto_region 1 with fail
  rw [← hW3]
  clear hW3
  go_wp2_with fail
  refine (RGA.out W3 B3).mono ?_
  rintro r w4 ⟨rfl, b4⟩
  have B4 : Below w.heap.size w w4 := B3.trans (b4.mono B3.size)
  have yA := (b4.block w.heap.size (by omega)).trans xA
  have yB := (b4.block (w.heap.size + 1) (by omega)).trans xB
  have yR := (b4.block (w.heap.size + 1 + 1) (by omega)).trans xR
  have s4 := b4.size
  clear A0 A1 A2 A3 D0 D1 D2 D3 xA xB xR
  obtain ⟨A0, A1, A2, A3, D0, D1, D2, D3⟩ := row8 yA yB
  go_wp2_with fail
  refine (RGB.out w4 B4).mono ?_
  rintro r w5 ⟨rfl, b5⟩
  have B5 : Below w.heap.size w w5 := B4.trans (b5.mono B4.size)
  have zA := (b5.block w.heap.size (by omega)).trans yA
  have zB := (b5.block (w.heap.size + 1) (by omega)).trans yB
  have zR := (b5.block (w.heap.size + 1 + 1) (by omega)).trans yR
  have s5 := b5.size
  clear A0 A1 A2 A3 D0 D1 D2 D3 yA yB yR b4 b5
  obtain ⟨A0, A1, A2, A3, D0, D1, D2, D3⟩ := row8 zA zB
  have F0 : w5.cell? ⟨w.heap.size + 1 + 1, 0, none⟩ = some (.bool false) := by rw [cell_of_row _ _ _ _ _ _ zR]; rfl
  have F1 : w5.cell? ⟨w.heap.size + 1 + 1, 1, none⟩ = some (.int .i64 0) := by rw [cell_of_row _ _ _ _ _ _ zR]; rfl
  have F2 : w5.cell? ⟨w.heap.size + 1 + 1, 2, none⟩ = some (.slice none 0 0) := by rw [cell_of_row _ _ _ _ _ _ zR]; rfl
  have F3 : w5.cell? ⟨w.heap.size + 1 + 1, 3, none⟩ = some (.int .i64 0) := by rw [cell_of_row _ _ _ _ _ _ zR]; rfl
  have G0 : w5.frozen? ⟨w.heap.size + 1 + 1, 0, none⟩ = false := frozen_of_row _ _ _ _ _ zR
  have G1 : w5.frozen? ⟨w.heap.size + 1 + 1, 1, none⟩ = false := frozen_of_row _ _ _ _ _ zR
  have G2 : w5.frozen? ⟨w.heap.size + 1 + 1, 2, none⟩ = false := frozen_of_row _ _ _ _ _ zR
  have G3 : w5.frozen? ⟨w.heap.size + 1 + 1, 3, none⟩ = false := frozen_of_row _ _ _ _ _ zR
  go_wp2
  refine rbad_close (b := w.heap.size + 1 + 1) (box4_blkW zR _ _ _ _) (by rfl) (by rfl) ?_
  exact ⟨rfl, box4_below B5 (by omega) _ _ _ _⟩

set_option maxHeartbeats 2000000 in
set_option maxRecDepth 100000 in
theorem rcmp_outputs (n m : Int) (la ga : List (Int × Int)) (oa : List Int) (lb gb : List (Int × Int)) (ob : List Int) (la1 ga1 oa1 lb1 gb1 ob1 : Option Addr) (lc1 gc1 oc1 ld1 gd1 od1 : Nat) (w : World)
    (ra : rightB n la ga oa = true) (rb : rightB m lb gb ob = true) (hnm : n = m) (hne : oa.length ≠ ob.length)
    (fLa : ∀ i, i < la.length → Fits (la.getD i (0, 0)).1) (fGa : ∀ i, i < ga.length → Fits (ga.getD i (0, 0)).1 ∧ Fits (ga.getD i (0, 0)).2) (fOa : ∀ i, i < oa.length → Fits (oa.getD i 0))
    (fLb : ∀ i, i < lb.length → Fits (lb.getD i (0, 0)).1) (fGb : ∀ i, i < gb.length → Fits (gb.getD i (0, 0)).1 ∧ Fits (gb.getD i (0, 0)).2) (fOb : ∀ i, i < ob.length → Fits (ob.getD i 0))
    (pLa : PairsAt w la1 la) (pGa : PairsAt w ga1 ga) (pOa : IntsAt w oa1 oa) (pLb : PairsAt w lb1 lb) (pGb : PairsAt w gb1 gb) (pOb : IntsAt w ob1 ob) :
    Calls Tryz.prog 34 #[.agg #[.int .i64 n, .slice la1 la.length lc1, .slice ga1 ga.length gc1, .slice oa1 oa.length oc1], .agg #[.int .i64 m, .slice lb1 lb.length ld1, .slice gb1 gb.length gd1, .slice ob1 ob.length od1]] w fun e w' =>
      e = .returned (.tuple #[.agg #[.bool false, .int .i64 0, .slice none 0 0, .int .i64 0], .int .i64 4]) ∧ Below w.heap.size w w' := by
  have hnn : (n != m) = false := by simp [hnm]
  have hoo : ((oa.length : Int) != (ob.length : Int)) = true := by simp; omega
  clear hnm
  have rgA : ∀ W, Below w.heap.size w W → Calls Tryz.prog 46 #[.agg #[.int .i64 n, .slice la1 la.length lc1, .slice ga1 ga.length gc1, .slice oa1 oa.length oc1]] W fun e w' => e = .returned (.bool true) ∧ Below W.heap.size W w' := fun W hW => by
    have h := refRight_any n la1 ga1 oa1 lc1 gc1 oc1 la ga oa W (pLa.below hW) (pGa.below hW) (pOa.below hW) fLa fGa fOa
    rw [ra] at h
    exact h
  have rgB : ∀ W, Below w.heap.size w W → Calls Tryz.prog 46 #[.agg #[.int .i64 m, .slice lb1 lb.length ld1, .slice gb1 gb.length gd1, .slice ob1 ob.length od1]] W fun e w' => e = .returned (.bool true) ∧ Below W.heap.size W w' := fun W hW => by
    have h := refRight_any m lb1 gb1 ob1 ld1 gd1 od1 lb gb ob W (pLb.below hW) (pGb.below hW) (pOb.below hW) fLb fGb fOb
    rw [rb] at h
    exact h
  have RGA := hideW rgA
  have RGB := hideW rgB
  clear rgA rgB ra rb fLa fGa fOa fLb fGb fOb pLa pGa pOa pLb pGb pOb
  obtain ⟨W3, hW3⟩ : ∃ W3, W3 = ((w.alloc (.cells #[.int .i64 n, .slice la1 la.length lc1, .slice ga1 ga.length gc1, .slice oa1 oa.length oc1] 34)).alloc (.cells #[.int .i64 m, .slice lb1 lb.length ld1, .slice gb1 gb.length gd1, .slice ob1 ob.length od1] 34)).alloc (.cells #[.bool false, .int .i64 0, .slice none 0 0, .int .i64 0] 82) := ⟨_, rfl⟩
  have s3 : W3.heap.size = w.heap.size + 3 := by rw [hW3]; simp
  have B3 : Below w.heap.size w W3 := by rw [hW3]; exact (((Below.refl _ _).alloc (Nat.le_refl _) _).alloc (by simp) _).alloc (by simp; omega) _
  have xA : W3.heap[w.heap.size]? = some (.cells #[.int .i64 n, .slice la1 la.length lc1, .slice ga1 ga.length gc1, .slice oa1 oa.length oc1] 34 (0, 0)) := by rw [hW3]; exact alloc_old (alloc_old (alloc_blk _ _ _ rfl))
  have xB : W3.heap[w.heap.size + 1]? = some (.cells #[.int .i64 m, .slice lb1 lb.length ld1, .slice gb1 gb.length gd1, .slice ob1 ob.length od1] 34 (0, 0)) := by rw [hW3]; exact alloc_old (alloc_blk _ _ _ (by simp))
  have xR : W3.heap[w.heap.size + 1 + 1]? = some (.cells #[.bool false, .int .i64 0, .slice none 0 0, .int .i64 0] 82 (0, 0)) := by rw [hW3]; exact alloc_blk _ _ _ (by simp)
  obtain ⟨A0, A1, A2, A3, D0, D1, D2, D3⟩ := row8 xA xB
  go_enter Tryz.func34, Tryz.ntmps34
  go_upto_region 1 with fail
  rw [← hW3]
  clear hW3
  go_wp2_with fail
  refine (RGA.out W3 B3).mono ?_
  rintro r w4 ⟨rfl, b4⟩
  have B4 : Below w.heap.size w w4 := B3.trans (b4.mono B3.size)
  have yA := (b4.block w.heap.size (by omega)).trans xA
  have yB := (b4.block (w.heap.size + 1) (by omega)).trans xB
  have yR := (b4.block (w.heap.size + 1 + 1) (by omega)).trans xR
  have s4 := b4.size
  clear A0 A1 A2 A3 D0 D1 D2 D3 xA xB xR
  obtain ⟨A0, A1, A2, A3, D0, D1, D2, D3⟩ := row8 yA yB
  go_wp2_with fail
  refine (RGB.out w4 B4).mono ?_
  rintro r w5 ⟨rfl, b5⟩
  have B5 : Below w.heap.size w w5 := B4.trans (b5.mono B4.size)
  have zA := (b5.block w.heap.size (by omega)).trans yA
  have zB := (b5.block (w.heap.size + 1) (by omega)).trans yB
  have zR := (b5.block (w.heap.size + 1 + 1) (by omega)).trans yR
  have s5 := b5.size
  clear A0 A1 A2 A3 D0 D1 D2 D3 yA yB yR b4 b5
  obtain ⟨A0, A1, A2, A3, D0, D1, D2, D3⟩ := row8 zA zB
  have F0 : w5.cell? ⟨w.heap.size + 1 + 1, 0, none⟩ = some (.bool false) := by rw [cell_of_row _ _ _ _ _ _ zR]; rfl
  have F1 : w5.cell? ⟨w.heap.size + 1 + 1, 1, none⟩ = some (.int .i64 0) := by rw [cell_of_row _ _ _ _ _ _ zR]; rfl
  have F2 : w5.cell? ⟨w.heap.size + 1 + 1, 2, none⟩ = some (.slice none 0 0) := by rw [cell_of_row _ _ _ _ _ _ zR]; rfl
  have F3 : w5.cell? ⟨w.heap.size + 1 + 1, 3, none⟩ = some (.int .i64 0) := by rw [cell_of_row _ _ _ _ _ _ zR]; rfl
  have G0 : w5.frozen? ⟨w.heap.size + 1 + 1, 0, none⟩ = false := frozen_of_row _ _ _ _ _ zR
  have G1 : w5.frozen? ⟨w.heap.size + 1 + 1, 1, none⟩ = false := frozen_of_row _ _ _ _ _ zR
  have G2 : w5.frozen? ⟨w.heap.size + 1 + 1, 2, none⟩ = false := frozen_of_row _ _ _ _ _ zR
  have G3 : w5.frozen? ⟨w.heap.size + 1 + 1, 3, none⟩ = false := frozen_of_row _ _ _ _ _ zR
  go_wp2
  refine rbad_close (b := w.heap.size + 1 + 1) (box4_blkW zR _ _ _ _) (by rfl) (by rfl) ?_
  exact ⟨rfl, box4_below B5 (by omega) _ _ _ _⟩

end Go.Proofs.YtgpaajdfkekjiaaGreatDoor

namespace Go.Proofs.YtgpaajdfkekjiaaGreatDoor
open Go.RowKit

theorem refCompare_all (n m : Int) (la ga : List (Int × Int)) (oa : List Int) (lb gb : List (Int × Int)) (ob : List Int) (la1 ga1 oa1 lb1 gb1 ob1 : Option Addr) (lc1 gc1 oc1 ld1 gd1 od1 : Nat) (w : World)
    (fLa : ∀ i, i < la.length → Fits (la.getD i (0, 0)).1) (fGa : ∀ i, i < ga.length → Fits (ga.getD i (0, 0)).1 ∧ Fits (ga.getD i (0, 0)).2) (fOa : ∀ i, i < oa.length → Fits (oa.getD i 0))
    (fLb : ∀ i, i < lb.length → Fits (lb.getD i (0, 0)).1) (fGb : ∀ i, i < gb.length → Fits (gb.getD i (0, 0)).1 ∧ Fits (gb.getD i (0, 0)).2) (fOb : ∀ i, i < ob.length → Fits (ob.getD i 0))
    (pLa : PairsAt w la1 la) (pGa : PairsAt w ga1 ga) (pOa : IntsAt w oa1 oa) (pLb : PairsAt w lb1 lb) (pGb : PairsAt w gb1 gb) (pOb : IntsAt w ob1 ob) :
    Calls Tryz.prog 34 #[.agg #[.int .i64 n, .slice la1 la.length lc1, .slice ga1 ga.length gc1, .slice oa1 oa.length oc1], .agg #[.int .i64 m, .slice lb1 lb.length ld1, .slice gb1 gb.length gd1, .slice ob1 ob.length od1]] w (CmpEnd (CmpAns n la ga oa m lb gb ob) w) := by
  cases ra : rightB n la ga oa
  · cases rb : rightB m lb gb ob
    · exact (rcmp_ff n m la ga oa lb gb ob la1 ga1 oa1 lb1 gb1 ob1 lc1 gc1 oc1 ld1 gd1 od1 w ra rb fLa fGa fOa fLb fGb fOb pLa pGa pOa pLb pGb pOb).mono fun e w' h => cmpEnd_bad (cmpAns_wrong (.inl ra)) h
    · exact (rcmp_ft n m la ga oa lb gb ob la1 ga1 oa1 lb1 gb1 ob1 lc1 gc1 oc1 ld1 gd1 od1 w ra rb fLa fGa fOa fLb fGb fOb pLa pGa pOa pLb pGb pOb).mono fun e w' h => cmpEnd_bad (cmpAns_wrong (.inl ra)) h
  · cases rb : rightB m lb gb ob
    · exact (rcmp_tf n m la ga oa lb gb ob la1 ga1 oa1 lb1 gb1 ob1 lc1 gc1 oc1 ld1 gd1 od1 w ra rb fLa fGa fOa fLb fGb fOb pLa pGa pOa pLb pGb pOb).mono fun e w' h => cmpEnd_bad (cmpAns_wrong (.inr rb)) h
    · by_cases hnm : n = m
      · by_cases hl : oa.length = ob.length
        · subst hnm
          obtain ⟨k, rfl⟩ := Int.eq_ofNat_of_zero_le (right_n ra).1
          exact (refCmp_ok k la ga oa lb gb ob la1 ga1 oa1 lb1 gb1 ob1 lc1 gc1 oc1 ld1 gd1 od1 w ra rb hl.symm pLa pGa pOa pLb pGb pOb).mono fun e w' h => cmpEnd_ok ra rb hl h
        · exact (rcmp_outputs n m la ga oa lb gb ob la1 ga1 oa1 lb1 gb1 ob1 lc1 gc1 oc1 ld1 gd1 od1 w ra rb hnm hl fLa fGa fOa fLb fGb fOb pLa pGa pOa pLb pGb pOb).mono fun e w' h => cmpEnd_bad (cmpAns_shape ra rb (.inr hl)) h
      · exact (rcmp_inputs n m la ga oa lb gb ob la1 ga1 oa1 lb1 gb1 ob1 lc1 gc1 oc1 ld1 gd1 od1 w ra rb hnm fLa fGa fOa fLb fGb fOb pLa pGa pOa pLb pGb pOb).mono fun e w' h => cmpEnd_bad (cmpAns_shape ra rb (.inl hnm)) h

end Go.Proofs.YtgpaajdfkekjiaaGreatDoor
