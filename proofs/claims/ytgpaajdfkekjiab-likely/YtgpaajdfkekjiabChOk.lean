/-
  Chances of package latch, of a right circuit and a right number of steps.
-/
import Derived.Test.YtgpaajdfkekjiabChOf
import Derived.Test.YtgpaajdfkekjiabRight2
namespace Go.Proofs.Ytgpaajdfkekjiab
open Go.RowKit

set_option maxHeartbeats 1000000 in
set_option maxRecDepth 100000 in
theorem latchCh_ok (n steps : Nat) (la ga oa : Option Addr) (lc gc oc : Nat) (ls gs : List (Int × Int)) (os : List Int) (w : World) (hr : rightB n ls gs os = true) (h1 : 1 ≤ steps) (h10 : steps ≤ 10) (hL : PairsAt w la ls) (hG : PairsAt w ga gs) (hO : IntsAt w oa os) :
    Calls Try.prog 7 #[.agg #[.int .i64 n, .slice la ls.length lc, .slice ga gs.length gc, .slice oa os.length oc], .int .i64 steps] w fun e w' => ∃ g, e = .returned (.tuple #[.slice (some ⟨g, 0, none⟩) os.length os.length, .int .i64 0]) ∧ w'.ownsRow w.heap.size 34 1 (.slice (some ⟨g, 0, none⟩) os.length os.length) os.length (fvals (chL n ls gs os steps)) ∧ Below w.heap.size w w' := by
  obtain ⟨W2, hW2⟩ : ∃ W2, W2 = w.alloc (.cells #[.int .i64 n, .slice la ls.length lc, .slice ga gs.length gc, .slice oa os.length oc] 26) := ⟨_, rfl⟩
  have s2 : W2.heap.size = w.heap.size + 1 := by rw [hW2]; simp
  have B2 : Below w.heap.size w W2 := by rw [hW2]; exact (Below.refl _ _).alloc (Nat.le_refl _) _
  have bC2 : W2.heap[w.heap.size]? = some (.cells #[.int .i64 n, .slice la ls.length lc, .slice ga gs.length gc, .slice oa os.length oc] 26 (0, 0)) := by rw [hW2]; exact alloc_blk _ _ _ rfl
  have q0 : W2.cell? ⟨w.heap.size, 0, none⟩ = some (.int .i64 n) := by rw [cell_of_row _ _ _ _ _ _ bC2]; rfl
  have q1 : W2.cell? ⟨w.heap.size, 1, none⟩ = some (.slice la ls.length lc) := by rw [cell_of_row _ _ _ _ _ _ bC2]; rfl
  have q2 : W2.cell? ⟨w.heap.size, 2, none⟩ = some (.slice ga gs.length gc) := by rw [cell_of_row _ _ _ _ _ _ bC2]; rfl
  have q3 : W2.cell? ⟨w.heap.size, 3, none⟩ = some (.slice oa os.length oc) := by rw [cell_of_row _ _ _ _ _ _ bC2]; rfl
  have rg := right_is (lc := lc) (gc := gc) (oc := oc) W2 (hL.below B2) (hG.below B2) (hO.below B2) hr
  obtain ⟨⟨_, hn4', hl4, ho4, hg30⟩, hokl, hgat, hout⟩ := rightB_pos hr
  have hn4 : n ≤ 4 := by omega
  have hinit := hidK (show ∀ i, i < ls.length → inB (ls.getD i (0, 0)).2 1 = true from fun i h => by have := hokl i h; simp only [latchOk, Bool.and_eq_true] at this; exact this.2)
  have hnext := hidK (show ∀ i, i < ls.length → inB (ls.getD i (0, 0)).1 (2 * (n + ls.length + gs.length) + 1) = true from fun i h => by have := hokl i h; simp only [latchOk, Bool.and_eq_true] at this; exact this.1)
  have HG9 := hidK hgat
  have HO9 := hidK hout
  have t1 : decide ((steps : Int) < 1) = false := by simp; omega
  have t2 : decide ((10 : Int) < (steps : Int)) = false := by simp; omega
  obtain ⟨m, hm⟩ : ∃ m, steps = m + 1 := ⟨steps - 1, by omega⟩
  have HM := hidK hm
  clear hokl hgat hout hr hn4' hm
  go_enter Try.func7, Try.ntmps7
  go_upto_region 1 with fail
  rw [← hW2]
  clear hW2
  go_wp2_with fail
  refine rg.mono ?_
  rintro e W3 ⟨rfl, b3⟩
  have B3 : Below w.heap.size w W3 := B2.trans (b3.mono B2.size)
  have s3 := b3.size
  have bC3 := (b3.block w.heap.size (by omega)).trans bC2
  clear rg q0 q1 q2 q3 bC2
  have q0 : W3.cell? ⟨w.heap.size, 0, none⟩ = some (.int .i64 n) := by rw [cell_of_row _ _ _ _ _ _ bC3]; rfl
  have q1 : W3.cell? ⟨w.heap.size, 1, none⟩ = some (.slice la ls.length lc) := by rw [cell_of_row _ _ _ _ _ _ bC3]; rfl
  have q2 : W3.cell? ⟨w.heap.size, 2, none⟩ = some (.slice ga gs.length gc) := by rw [cell_of_row _ _ _ _ _ _ bC3]; rfl
  have q3 : W3.cell? ⟨w.heap.size, 3, none⟩ = some (.slice oa os.length oc) := by rw [cell_of_row _ _ _ _ _ _ bC3]; rfl
  have call := chOf n m steps la ga oa lc gc oc ls gs os W3 HM.out (by have := HM.out; omega) hn4 hl4 hg30 ho4 (hL.below B3) (hG.below B3) (hO.below B3) HG9.out hnext.out HO9.out hinit.out
  go_wp2_with fail
  refine call.mono ?_
  rintro e W4 ⟨g, rfl, hg, r4, b4⟩
  have own := hidK (own_row (base := w.heap.size) (xs := chL n ls gs os steps) r4 (by omega) (by omega) (chL_len n ls gs os steps) (fun i hi => by
    unfold ovf
    rw [show m = steps - 1 by have := HM.out; omega]
    simp [chL, hi]))
  clear call q0 q1 q2 q3 r4
  go_wp2
  go_ret2
  exact ⟨g, rfl, own.out, B3.trans (b4.mono B3.size)⟩

end Go.Proofs.Ytgpaajdfkekjiab
