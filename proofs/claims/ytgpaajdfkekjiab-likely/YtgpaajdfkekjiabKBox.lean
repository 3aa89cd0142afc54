/-
  Small things for circuit of package latchkeep: its results, what it answers.
-/
import Derived.Test.YtgpaajdfkekjiabKInv
import Derived.Test.YtgpaajdfkekjiabLast
import Derived.Deep.RegionWith
import Derived.Handy
namespace Go.Proofs.Ytgpaajdfkekjiab
open Go.RowKit

theorem hideK {p : Prop} (h : p) : Hid p := h

theorem Try.infoLK : (Try.prog.info? 41).map (fun i => (i.zero, i.size, i.bytes)) = some (some (.agg #[.int .i64 0, .int .i64 0]), 2, 16) := by kernel_rfl
theorem Try.infoGK : (Try.prog.info? 43).map (fun i => (i.zero, i.size, i.bytes)) = some (some (.agg #[.int .i64 0, .int .i64 0]), 2, 16) := by kernel_rfl
def FitsK (x : Int) : Prop := -9223372036854775808 ≤ x ∧ x ≤ 9223372036854775807
theorem pick_to {c n p : Int} (w : World) (hc : -9223372036854775808 ≤ c) (hc2 : c ≤ 9223372036854775807) (hn : 1 ≤ n) (hn2 : n ≤ 1000000) (h : pickI c n = p) :
    Calls Try.prog 5 #[.int .i64 c, .int .i64 n] w fun e w' => e = .returned (.int .i64 p) ∧ w' = w := by
  subst h; exact pick_any c n w hc hc2 hn hn2
theorem news2 (w : World) (u v : Value) (t : TypeId) : ∀ j x, [u, v][j]? = some x → (w.alloc (.cells #[u, v] t)).drew.cell? ((⟨w.heap.size, 0, none⟩ : Addr).add j) = some x :=
  fun j x hx => World.news_of_block (w := (w.alloc (.cells #[u, v] t)).drew) (heap_alloc_new w _) j x hx
theorem news1K (w : World) (v : Value) (t : TypeId) : ∀ j x, [v][j]? = some x → (w.alloc (.cells #[v] t)).drew.cell? ((⟨w.heap.size, 0, none⟩ : Addr).add j) = some x :=
  fun j x hx => World.news_of_block (w := (w.alloc (.cells #[v] t)).drew) (heap_alloc_new w _) j x hx
/-- What circuit answers. -/
def CircRes (w : World) (N : Nat) (ls gs : List (Int × Int)) (os : List Int) (e : Ending) (w' : World) : Prop :=
  ∃ lv gv ov, e = .returned (.agg #[.int .i64 N, lv, gv, ov]) ∧ w'.ownsRow w.heap.size 41 2 lv ls.length (flat ls) ∧ w'.ownsRow w.heap.size 43 2 gv gs.length (flat gs) ∧ w'.ownsRow w.heap.size 3 1 ov os.length (ivs os) ∧
    (∀ q, lv.ownBlock = some q → gv.ownBlock ≠ some q) ∧ (∀ q, lv.ownBlock = some q → ov.ownBlock ≠ some q) ∧ (∀ q, gv.ownBlock = some q → ov.ownBlock ≠ some q) ∧ Below w.heap.size w w'

set_option maxHeartbeats 1000000 in
theorem circ_results {w : World} {b : Nat} {tmps : Array Value} {v0 v1 v2 v3 : Value} (h : w.heap[b]? = some (.cells #[v0, v1, v2, v3] 26 (0, 0)))
    (h6 : tmps[6]?.getD undef = .pointer (some ⟨b, 0, none⟩)) :
    (results Try.f6 tmps).run Try.prog w = .ok (.agg #[v0, v1, v2, v3]) w := by
  have c0 : w.cell? ⟨b, 0, none⟩ = some v0 := by rw [cell_of_row _ _ _ _ _ _ h]; rfl
  have c1 : w.cell? ⟨b, 1, none⟩ = some v1 := by rw [cell_of_row _ _ _ _ _ _ h]; rfl
  have c2 : w.cell? ⟨b, 2, none⟩ = some v2 := by rw [cell_of_row _ _ _ _ _ _ h]; rfl
  have c3 : w.cell? ⟨b, 3, none⟩ = some v3 := by rw [cell_of_row _ _ _ _ _ _ h]; rfl
  simp [results, Try.results6, go_sem, h6, c0, c1, c2, c3]
theorem circ_close {tmps : Array Value} {Q : Ending → World → Prop} {w : World} {b : Nat} {v0 v1 v2 v3 : Value} (h : w.heap[b]? = some (.cells #[v0, v1, v2, v3] 26 (0, 0)))
    (h6 : tmps[6]?.getD undef = .pointer (some ⟨b, 0, none⟩)) (hQ : Q (.returned (.agg #[v0, v1, v2, v3])) w) :
    bodyPost Try.prog Try.f6 Q Exit.ret ⟨tmps, []⟩ w := bodyPost_ret (circ_results h h6) rfl hQ

end Go.Proofs.Ytgpaajdfkekjiab
