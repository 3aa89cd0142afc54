/-
  Small things for the walks of package slim: rows of the type table, new blocks, a circuit that is answered.
-/
import Derived.Test.YtgpaajdfkekjiaaGreatDoorBox
import Derived.Test.YtgpaajdfkekjiaaGreatDoorMem
import Derived.Test.YtgpaajdfkekjiaaGreatDoorLast
import Derived.Deep.RegionWith
import Derived.Handy
namespace Go.Proofs.YtgpaajdfkekjiaaGreatDoor
open Go.RowKit

theorem Tryz.infoLS : (Tryz.prog.info? 54).map (fun i => (i.zero, i.size, i.bytes)) = some (some (.agg #[.int .i64 0, .int .i64 0]), 2, 16) := by kernel_rfl
theorem Tryz.infoGS : (Tryz.prog.info? 56).map (fun i => (i.zero, i.size, i.bytes)) = some (some (.agg #[.int .i64 0, .int .i64 0]), 2, 16) := by kernel_rfl
theorem news2S (w : World) (u v : Value) (t : TypeId) : ∀ j x, [u, v][j]? = some x → (w.alloc (.cells #[u, v] t)).drew.cell? ((⟨w.heap.size, 0, none⟩ : Addr).add j) = some x :=
  fun j x hx => World.news_of_block (w := (w.alloc (.cells #[u, v] t)).drew) (heap_alloc_new w _) j x hx
theorem news1S (w : World) (v : Value) (t : TypeId) : ∀ j x, [v][j]? = some x → (w.alloc (.cells #[v] t)).drew.cell? ((⟨w.heap.size, 0, none⟩ : Addr).add j) = some x :=
  fun j x hx => World.news_of_block (w := (w.alloc (.cells #[v] t)).drew) (heap_alloc_new w _) j x hx
theorem setC_own {wr' : World} {C base e size : Nat} {v : Value} {n : Nat} {xs : List Value} (hA : C < base) (h : wr'.ownsRow base e size v n xs) (i : Nat) (x : Value) : (wr'.setCell ⟨C, i, none⟩ x).ownsRow base e size v n xs :=
  own_blocks h (fun q hq => Deep.blk_setCell_other _ _ _ _ (show q ≠ C by have := h.lt q hq; omega))
/-- A circuit that is answered, its lists owned and apart. -/
def MkRes (w : World) (N : Nat) (ls gs : List (Int × Int)) (os : List Int) (e : Ending) (w' : World) : Prop :=
  ∃ lv gv ov, e = .returned (.agg #[.int .i64 N, lv, gv, ov]) ∧ w'.ownsRow w.heap.size 54 2 lv ls.length (flat ls) ∧ w'.ownsRow w.heap.size 56 2 gv gs.length (flat gs) ∧ w'.ownsRow w.heap.size 3 1 ov os.length (ivs os) ∧
    (∀ q, lv.ownBlock = some q → gv.ownBlock ≠ some q) ∧ (∀ q, lv.ownBlock = some q → ov.ownBlock ≠ some q) ∧ (∀ q, gv.ownBlock = some q → ov.ownBlock ≠ some q) ∧ Below w.heap.size w w'

end Go.Proofs.YtgpaajdfkekjiaaGreatDoor
