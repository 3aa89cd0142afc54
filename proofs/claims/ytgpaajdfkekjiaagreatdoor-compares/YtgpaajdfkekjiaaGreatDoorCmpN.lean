/-
  Compare of package latch, of two right circuits with as many inputs and outputs.
-/
import Derived.Test.YtgpaajdfkekjiaaGreatDoorCmpL
namespace Go.Proofs.YtgpaajdfkekjiaaGreatDoor
open Go.RowKit

set_option maxHeartbeats 1000000 in
theorem cmp_results {w : World} {b : Nat} {tmps : Array Value} {v0 v1 v2 v3 y : Value} (h : w.heap[b]? = some (.cells #[v0, v1, v2, v3] 82 (0, 0)))
    (h4 : tmps[4]?.getD undef = .pointer (some ⟨b, 0, none⟩)) (h5 : tmps[5]?.getD undef = y) :
    (results Tryz.f33 tmps).run Tryz.prog w = .ok (.tuple #[.agg #[v0, v1, v2, v3], y]) w := by
  have c0 : w.cell? ⟨b, 0, none⟩ = some v0 := by rw [cell_of_row _ _ _ _ _ _ h]; rfl
  have c1 : w.cell? ⟨b, 1, none⟩ = some v1 := by rw [cell_of_row _ _ _ _ _ _ h]; rfl
  have c2 : w.cell? ⟨b, 2, none⟩ = some v2 := by rw [cell_of_row _ _ _ _ _ _ h]; rfl
  have c3 : w.cell? ⟨b, 3, none⟩ = some v3 := by rw [cell_of_row _ _ _ _ _ _ h]; rfl
  simp [results, Tryz.results33, go_sem, h4, h5, c0, c1, c2, c3]
theorem cmp_close {tmps : Array Value} {Q : Ending → World → Prop} {w : World} {b : Nat} {v0 v1 v2 v3 y : Value} (h : w.heap[b]? = some (.cells #[v0, v1, v2, v3] 82 (0, 0)))
    (h4 : tmps[4]?.getD undef = .pointer (some ⟨b, 0, none⟩)) (h5 : tmps[5]?.getD undef = y) (hQ : Q (.returned (.tuple #[.agg #[v0, v1, v2, v3], y])) w) :
    bodyPost Tryz.prog Tryz.f33 Q Exit.ret ⟨tmps, []⟩ w := bodyPost_ret (cmp_results h h4 h5) rfl hQ

/-- What Compare answers of two such circuits. -/
def CmpRes (M : Duo) (w : World) (r : Ending) (w' : World) : Prop :=
  ∃ (same : Bool) (reached : Nat) (trace : List Nat) (d : Nat) (ta : Option Addr) (tc : Nat), M.Says same reached trace d ∧ r = .returned (.tuple #[.agg #[.bool same, .int .i64 reached, .slice ta trace.length tc, .int .i64 ((if same then 0 else tzN d : Nat) : Int)], .int .i64 0]) ∧
    w'.ownsRow w.heap.size 3 1 (.slice ta trace.length tc) trace.length (ivals trace) ∧ trace.length ≤ 256 ∧ Below w.heap.size w w'

set_option maxHeartbeats 2000000 in
set_option maxRecDepth 100000 in
theorem cmp_ok (n : Nat) (la ga : List (Int × Int)) (oa : List Int) (lb gb : List (Int × Int)) (ob : List Int) (la1 ga1 oa1 lb1 gb1 ob1 : Option Addr) (lc1 gc1 oc1 ld1 gd1 od1 : Nat) (w : World)
    (ra : rightB n la ga oa = true) (rb : rightB n lb gb ob = true) (hab : ob.length = oa.length) (hdb : TabDB w)
    (pLa : PairsAt w la1 la) (pGa : PairsAt w ga1 ga) (pOa : IntsAt w oa1 oa) (pLb : PairsAt w lb1 lb) (pGb : PairsAt w gb1 gb) (pOb : IntsAt w ob1 ob) :
    Calls Tryz.prog 33 #[.agg #[.int .i64 n, .slice la1 la.length lc1, .slice ga1 ga.length gc1, .slice oa1 oa.length oc1], .agg #[.int .i64 n, .slice lb1 lb.length ld1, .slice gb1 gb.length gd1, .slice ob1 ob.length od1]] w (CmpRes (duo n la ga oa lb gb ob) w) := by
  obtain ⟨W3, hW3⟩ : ∃ W3, W3 = ((w.alloc (.cells #[.int .i64 n, .slice la1 la.length lc1, .slice ga1 ga.length gc1, .slice oa1 oa.length oc1] 34)).alloc (.cells #[.int .i64 n, .slice lb1 lb.length ld1, .slice gb1 gb.length gd1, .slice ob1 ob.length od1] 34)).alloc (.cells #[.bool false, .int .i64 0, .slice none 0 0, .int .i64 0] 82) := ⟨_, rfl⟩
  have s3 : W3.heap.size = w.heap.size + 3 := by rw [hW3]; simp
  have B3 : Below w.heap.size w W3 := by rw [hW3]; exact (((Below.refl _ _).alloc (Nat.le_refl _) _).alloc (by simp) _).alloc (by simp; omega) _
  have xA : W3.heap[w.heap.size]? = some (.cells #[.int .i64 n, .slice la1 la.length lc1, .slice ga1 ga.length gc1, .slice oa1 oa.length oc1] 34 (0, 0)) := by rw [hW3]; exact alloc_old (alloc_old (alloc_blk _ _ _ rfl))
  have xB : W3.heap[w.heap.size + 1]? = some (.cells #[.int .i64 n, .slice lb1 lb.length ld1, .slice gb1 gb.length gd1, .slice ob1 ob.length od1] 34 (0, 0)) := by rw [hW3]; exact alloc_old (alloc_blk _ _ _ (by simp))
  have xR : W3.heap[w.heap.size + 1 + 1]? = some (.cells #[.bool false, .int .i64 0, .slice none 0 0, .int .i64 0] 82 (0, 0)) := by rw [hW3]; exact alloc_blk _ _ _ (by simp)
  obtain ⟨A0, A1, A2, A3, D0, D1, D2, D3⟩ := row8 xA xB
  have HAB := hideW hab
  have hne : ((oa.length : Int) != (ob.length : Int)) = false := by rw [hab]; simp
  have hnn : ((n : Int) != (n : Int)) = false := by simp
  clear hab
  go_enter Tryz.func33, Tryz.ntmps33
  go_upto_region 1 with fail
  rw [← hW3]
  clear hW3
  go_wp2_with fail
  refine (right_is W3 (pLa.below B3) (pGa.below B3) (pOa.below B3) ra).mono ?_
  rintro r w4 ⟨rfl, b4⟩
  have blk4 : ∀ k, k < w.heap.size + 3 → w4.heap[k]? = W3.heap[k]? := fun k hk => b4.block k (by omega)
  have B4 : Below w.heap.size w w4 := B3.trans (b4.mono B3.size)
  have yA := (blk4 w.heap.size (by omega)).trans xA
  have yB := (blk4 (w.heap.size + 1) (by omega)).trans xB
  have yR := (blk4 (w.heap.size + 1 + 1) (by omega)).trans xR
  have s4 := b4.size
  clear A0 A1 A2 A3 D0 D1 D2 D3 xA xB xR blk4
  obtain ⟨A0, A1, A2, A3, D0, D1, D2, D3⟩ := row8 yA yB
  go_wp2_with fail
  refine (right_is w4 (pLb.below B4) (pGb.below B4) (pOb.below B4) rb).mono ?_
  rintro r w5 ⟨rfl, b5⟩
  have blk5 : ∀ k, k < w.heap.size + 3 → w5.heap[k]? = w4.heap[k]? := fun k hk => b5.block k (by omega)
  have B5 : Below w.heap.size w w5 := B4.trans (b5.mono B4.size)
  have zA := (blk5 w.heap.size (by omega)).trans yA
  have zB := (blk5 (w.heap.size + 1) (by omega)).trans yB
  have zR := (blk5 (w.heap.size + 1 + 1) (by omega)).trans yR
  have s5 := b5.size
  clear A0 A1 A2 A3 D0 D1 D2 D3 yA yB yR blk5
  obtain ⟨A0, A1, A2, A3, D0, D1, D2, D3⟩ := row8 zA zB
  have hof := of_walk n la ga oa lb gb ob la1 ga1 oa1 lb1 gb1 ob1 lc1 gc1 oc1 ld1 gd1 od1 w5 (stepOk_of ra) (stepOk_of rb) HAB.out (hdb.below B5) (pLa.below B5) (pGa.below B5) (pOa.below B5) (pLb.below B5) (pGb.below B5) (pOb.below B5)
  go_wp2_with fail
  refine hof.mono ?_
  rintro r w6 ⟨same, reached, trace, d, tv, hsays, rfl, htv, ht256, b6⟩
  clear hof
  have uR := (b6.block (w.heap.size + 1 + 1) (by omega)).trans zR
  have F0 : w6.cell? ⟨w.heap.size + 1 + 1, 0, none⟩ = some (.bool false) := by rw [cell_of_row _ _ _ _ _ _ uR]; rfl
  have F1 : w6.cell? ⟨w.heap.size + 1 + 1, 1, none⟩ = some (.int .i64 0) := by rw [cell_of_row _ _ _ _ _ _ uR]; rfl
  have F2 : w6.cell? ⟨w.heap.size + 1 + 1, 2, none⟩ = some (.slice none 0 0) := by rw [cell_of_row _ _ _ _ _ _ uR]; rfl
  have F3 : w6.cell? ⟨w.heap.size + 1 + 1, 3, none⟩ = some (.int .i64 0) := by rw [cell_of_row _ _ _ _ _ _ uR]; rfl
  have G0 : w6.frozen? ⟨w.heap.size + 1 + 1, 0, none⟩ = false := frozen_of_row _ _ _ _ _ uR
  have G1 : w6.frozen? ⟨w.heap.size + 1 + 1, 1, none⟩ = false := frozen_of_row _ _ _ _ _ uR
  have G2 : w6.frozen? ⟨w.heap.size + 1 + 1, 2, none⟩ = false := frozen_of_row _ _ _ _ _ uR
  have G3 : w6.frozen? ⟨w.heap.size + 1 + 1, 3, none⟩ = false := frozen_of_row _ _ _ _ _ uR
  obtain ⟨tx, hx⟩ : ∃ tx : Int, tx = ((if same then 0 else tzN d : Nat) : Int) := ⟨_, rfl⟩
  rw [← hx]
  have HX := hideW hx
  have HS := hideW hsays
  have HT := hideW htv
  have hform : ∃ ta tc, tv = .slice ta trace.length tc := by
    rcases htv.2 with ⟨h1, h2⟩ | ⟨g, cap, cur, h1, _⟩
    · exact ⟨none, 0, by rw [h1, h2]⟩
    · exact ⟨_, _, h1⟩
  clear hx hsays htv
  obtain ⟨ta, tc, rfl⟩ := hform
  go_wp2
  refine cmp_close (b := w.heap.size + 1 + 1) (box4_blkW uR _ _ _ _) (by rfl) (by rfl) ?_
  refine ⟨same, reached, trace, d, ta, tc, HS.out, (by rw [← HX.out]; rfl), ?_, ht256, box4_below (B5.trans (b6.mono B5.size)) (by omega) _ _ _ _⟩
  have hb := B5.size
  exact box4_own HT.out (by omega) hb _ _ _ _

end Go.Proofs.YtgpaajdfkekjiaaGreatDoor
