/-
  The results of Read of packages text and latch, read out of their boxes.
-/
import Derived.Test.YtgpaajdfkekjiaaGreatDoorBox
namespace Go.Proofs.YtgpaajdfkekjiaaGreatDoor
open Go.RowKit

set_option maxHeartbeats 1000000 in
theorem read_results {w : World} {b : Nat} {tmps : Array Value} {v0 v1 v2 v3 x y : Value} (h : w.heap[b]? = some (.cells #[v0, v1, v2, v3] 34 (0, 0)))
    (h2 : tmps[2]?.getD undef = .pointer (some ⟨b, 0, none⟩)) (h3 : tmps[3]?.getD undef = x) (h4 : tmps[4]?.getD undef = y) :
    (results Tryz.f16 tmps).run Tryz.prog w = .ok (.tuple #[.agg #[v0, v1, v2, v3], x, y]) w := by
  have c0 : w.cell? ⟨b, 0, none⟩ = some v0 := by rw [cell_of_row _ _ _ _ _ _ h]; rfl
  have c1 : w.cell? ⟨b, 1, none⟩ = some v1 := by rw [cell_of_row _ _ _ _ _ _ h]; rfl
  have c2 : w.cell? ⟨b, 2, none⟩ = some v2 := by rw [cell_of_row _ _ _ _ _ _ h]; rfl
  have c3 : w.cell? ⟨b, 3, none⟩ = some v3 := by rw [cell_of_row _ _ _ _ _ _ h]; rfl
  simp [results, Tryz.results16, go_sem, h2, h3, h4, c0, c1, c2, c3]
theorem read_close {tmps : Array Value} {Q : Ending → World → Prop} {w : World} {b : Nat} {v0 v1 v2 v3 x y : Value} (h : w.heap[b]? = some (.cells #[v0, v1, v2, v3] 34 (0, 0)))
    (h2 : tmps[2]?.getD undef = .pointer (some ⟨b, 0, none⟩)) (h3 : tmps[3]?.getD undef = x) (h4 : tmps[4]?.getD undef = y) (hQ : Q (.returned (.tuple #[.agg #[v0, v1, v2, v3], x, y])) w) :
    bodyPost Tryz.prog Tryz.f16 Q Exit.ret ⟨tmps, []⟩ w := bodyPost_ret (read_results h h2 h3 h4) rfl hQ
set_option maxHeartbeats 1000000 in
theorem latchRead_results {w : World} {b : Nat} {tmps : Array Value} {v0 v1 v2 v3 x y : Value} (h : w.heap[b]? = some (.cells #[v0, v1, v2, v3] 34 (0, 0)))
    (h2 : tmps[2]?.getD undef = .pointer (some ⟨b, 0, none⟩)) (h3 : tmps[3]?.getD undef = x) (h4 : tmps[4]?.getD undef = y) :
    (results Tryz.f10 tmps).run Tryz.prog w = .ok (.tuple #[.agg #[v0, v1, v2, v3], x, y]) w := by
  have c0 : w.cell? ⟨b, 0, none⟩ = some v0 := by rw [cell_of_row _ _ _ _ _ _ h]; rfl
  have c1 : w.cell? ⟨b, 1, none⟩ = some v1 := by rw [cell_of_row _ _ _ _ _ _ h]; rfl
  have c2 : w.cell? ⟨b, 2, none⟩ = some v2 := by rw [cell_of_row _ _ _ _ _ _ h]; rfl
  have c3 : w.cell? ⟨b, 3, none⟩ = some v3 := by rw [cell_of_row _ _ _ _ _ _ h]; rfl
  simp [results, Tryz.results10, go_sem, h2, h3, h4, c0, c1, c2, c3]
theorem latchRead_close {tmps : Array Value} {Q : Ending → World → Prop} {w : World} {b : Nat} {v0 v1 v2 v3 x y : Value} (h : w.heap[b]? = some (.cells #[v0, v1, v2, v3] 34 (0, 0)))
    (h2 : tmps[2]?.getD undef = .pointer (some ⟨b, 0, none⟩)) (h3 : tmps[3]?.getD undef = x) (h4 : tmps[4]?.getD undef = y) (hQ : Q (.returned (.tuple #[.agg #[v0, v1, v2, v3], x, y])) w) :
    bodyPost Tryz.prog Tryz.f10 Q Exit.ret ⟨tmps, []⟩ w := bodyPost_ret (latchRead_results h h2 h3 h4) rfl hQ

end Go.Proofs.YtgpaajdfkekjiaaGreatDoor
