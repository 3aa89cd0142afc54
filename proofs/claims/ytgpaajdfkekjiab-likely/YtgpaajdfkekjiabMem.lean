/-
  Lists that lie in a block that is known whole.
-/
import Derived.Test.YtgpaajdfkekjiabRight
namespace Go.Proofs.Ytgpaajdfkekjiab
open Go.RowKit

theorem pairs_of_block {w : World} {B : Nat} {cs : Array Value} {t : TypeId} {fr : Nat × Nat} {ps : List (Int × Int)} (hb : w.heap[B]? = some (.cells cs t fr))
    (h : ∀ i, i < ps.length → cs[i * 2]? = some (.int .i64 (ps.getD i (0, 0)).1) ∧ cs[i * 2 + 1]? = some (.int .i64 (ps.getD i (0, 0)).2)) : PairsAt w (some ⟨B, 0, none⟩) ps := by
  refine .inr ⟨B, 0, rfl, ?_, fun i hi => ?_⟩
  · rcases Nat.lt_or_ge B w.heap.size with hlt | hge
    · exact hlt
    · rw [Array.getElem?_eq_none hge] at hb; cases hb
  · rw [Nat.zero_add, cell_of_row w B _ cs t fr hb, cell_of_row w B _ cs t fr hb]
    exact h i hi
theorem ints_of_block {w : World} {B : Nat} {cs : Array Value} {t : TypeId} {fr : Nat × Nat} {xs : List Int} (hb : w.heap[B]? = some (.cells cs t fr))
    (h : ∀ i, i < xs.length → cs[i]? = some (.int .i64 (xs.getD i 0))) : IntsAt w (some ⟨B, 0, none⟩) xs := by
  refine .inr ⟨B, 0, rfl, ?_, fun i hi => ?_⟩
  · rcases Nat.lt_or_ge B w.heap.size with hlt | hge
    · exact hlt
    · rw [Array.getElem?_eq_none hge] at hb; cases hb
  · rw [Nat.zero_add, cell_of_row w B _ cs t fr hb]
    exact h i hi

theorem alloc_blk (w : World) (o : Obj) (B : Nat) (hB : B = w.heap.size) : (w.alloc o).heap[B]? = some o := by subst hB; exact heap_alloc_new w o
theorem alloc_old {w : World} {o x : Obj} {B : Nat} (h : w.heap[B]? = some x) : (w.alloc o).heap[B]? = some x := by
  rw [Below.heap_alloc w o B ?_]; exact h
  rcases Nat.lt_or_ge B w.heap.size with hlt | hge
  · exact hlt
  · rw [Array.getElem?_eq_none hge] at h; cases h

end Go.Proofs.Ytgpaajdfkekjiab
