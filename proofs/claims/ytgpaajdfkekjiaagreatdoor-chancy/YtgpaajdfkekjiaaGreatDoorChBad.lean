/-
  Chances where the circuit is wrong, or the number of steps, in both packages; the reference's Chances in all cases. Written by wip/mk_chbad.py.
-/
import Derived.Test.YtgpaajdfkekjiaaGreatDoorRefCh
import Derived.Deep.Cut
namespace Go.Proofs.YtgpaajdfkekjiaaGreatDoor
open Go.RowKit

set_option maxHeartbeats 1000000 in
set_option maxRecDepth 100000 in
theorem refCh_wrong (n steps : Int) (la ga oa : Option Addr) (lc gc oc : Nat) (ls gs : List (Int × Int)) (os : List Int) (w : World) (hr : rightB n ls gs os = false) (hL : PairsAt w la ls) (hG : PairsAt w ga gs) (hO : IntsAt w oa os) (fL : ∀ i, i < ls.length → Fits (ls.getD i (0, 0)).1) (fG : ∀ i, i < gs.length → Fits (gs.getD i (0, 0)).1 ∧ Fits (gs.getD i (0, 0)).2) (fO : ∀ i, i < os.length → Fits (os.getD i 0)):
    Calls Tryz.prog 30 #[.agg #[.int .i64 n, .slice la ls.length lc, .slice ga gs.length gc, .slice oa os.length oc], .int .i64 steps] w fun e w' => e = .returned (.tuple #[.slice none 0 0, .int .i64 2]) ∧ Below w.heap.size w w' := by
  obtain ⟨W2, hW2⟩ : ∃ W2, W2 = w.alloc (.cells #[.int .i64 n, .slice la ls.length lc, .slice ga gs.length gc, .slice oa os.length oc] 34) := ⟨_, rfl⟩
  have B2 : Below w.heap.size w W2 := by rw [hW2]; exact (Below.refl _ _).alloc (Nat.le_refl _) _
  have bC2 : W2.heap[w.heap.size]? = some (.cells #[.int .i64 n, .slice la ls.length lc, .slice ga gs.length gc, .slice oa os.length oc] 34 (0, 0)) := by rw [hW2]; exact alloc_blk _ _ _ rfl
  have q0 : W2.cell? ⟨w.heap.size, 0, none⟩ = some (.int .i64 n) := by rw [cell_of_row _ _ _ _ _ _ bC2]; rfl
  have q1 : W2.cell? ⟨w.heap.size, 1, none⟩ = some (.slice la ls.length lc) := by rw [cell_of_row _ _ _ _ _ _ bC2]; rfl
  have q2 : W2.cell? ⟨w.heap.size, 2, none⟩ = some (.slice ga gs.length gc) := by rw [cell_of_row _ _ _ _ _ _ bC2]; rfl
  have q3 : W2.cell? ⟨w.heap.size, 3, none⟩ = some (.slice oa os.length oc) := by rw [cell_of_row _ _ _ _ _ _ bC2]; rfl
  have rg := refRight_is (lc := lc) (gc := gc) (oc := oc) W2 (hL.below B2) (hG.below B2) (hO.below B2) fL fG fO hr
  go_enter Tryz.func30, Tryz.ntmps30
  go_upto_region 1 with fail
  rw [← hW2]
  clear hW2
  go_wp2_with fail
  refine rg.mono ?_
  rintro e W3 ⟨rfl, b3⟩
  clear rg q0 q1 q2 q3
  go_wp2
  go_ret2
  exact ⟨rfl, B2.trans (b3.mono B2.size)⟩

set_option maxHeartbeats 1000000 in
set_option maxRecDepth 100000 in
theorem refCh_low (n steps : Int) (la ga oa : Option Addr) (lc gc oc : Nat) (ls gs : List (Int × Int)) (os : List Int) (w : World) (hr : rightB n ls gs os = true) (hs : steps < 1) (hL : PairsAt w la ls) (hG : PairsAt w ga gs) (hO : IntsAt w oa os) (fL : ∀ i, i < ls.length → Fits (ls.getD i (0, 0)).1) (fG : ∀ i, i < gs.length → Fits (gs.getD i (0, 0)).1 ∧ Fits (gs.getD i (0, 0)).2) (fO : ∀ i, i < os.length → Fits (os.getD i 0)):
    Calls Tryz.prog 30 #[.agg #[.int .i64 n, .slice la ls.length lc, .slice ga gs.length gc, .slice oa os.length oc], .int .i64 steps] w fun e w' => e = .returned (.tuple #[.slice none 0 0, .int .i64 5]) ∧ Below w.heap.size w w' := by
  obtain ⟨W2, hW2⟩ : ∃ W2, W2 = w.alloc (.cells #[.int .i64 n, .slice la ls.length lc, .slice ga gs.length gc, .slice oa os.length oc] 34) := ⟨_, rfl⟩
  have B2 : Below w.heap.size w W2 := by rw [hW2]; exact (Below.refl _ _).alloc (Nat.le_refl _) _
  have bC2 : W2.heap[w.heap.size]? = some (.cells #[.int .i64 n, .slice la ls.length lc, .slice ga gs.length gc, .slice oa os.length oc] 34 (0, 0)) := by rw [hW2]; exact alloc_blk _ _ _ rfl
  have q0 : W2.cell? ⟨w.heap.size, 0, none⟩ = some (.int .i64 n) := by rw [cell_of_row _ _ _ _ _ _ bC2]; rfl
  have q1 : W2.cell? ⟨w.heap.size, 1, none⟩ = some (.slice la ls.length lc) := by rw [cell_of_row _ _ _ _ _ _ bC2]; rfl
  have q2 : W2.cell? ⟨w.heap.size, 2, none⟩ = some (.slice ga gs.length gc) := by rw [cell_of_row _ _ _ _ _ _ bC2]; rfl
  have q3 : W2.cell? ⟨w.heap.size, 3, none⟩ = some (.slice oa os.length oc) := by rw [cell_of_row _ _ _ _ _ _ bC2]; rfl
  have rg := refRight_is (lc := lc) (gc := gc) (oc := oc) W2 (hL.below B2) (hG.below B2) (hO.below B2) fL fG fO hr
  have t1 : decide (steps < 1) = true := by simp; omega
  go_enter Tryz.func30, Tryz.ntmps30
  go_upto_region 1 with fail
  rw [← hW2]
  clear hW2
  go_wp2_with fail
  refine rg.mono ?_
  rintro e W3 ⟨rfl, b3⟩
  clear rg q0 q1 q2 q3
  go_wp2
  go_ret2
  exact ⟨rfl, B2.trans (b3.mono B2.size)⟩

set_option maxHeartbeats 1000000 in
set_option maxRecDepth 100000 in
theorem refCh_high (n steps : Int) (la ga oa : Option Addr) (lc gc oc : Nat) (ls gs : List (Int × Int)) (os : List Int) (w : World) (hr : rightB n ls gs os = true) (hs : 10 < steps) (hL : PairsAt w la ls) (hG : PairsAt w ga gs) (hO : IntsAt w oa os) (fL : ∀ i, i < ls.length → Fits (ls.getD i (0, 0)).1) (fG : ∀ i, i < gs.length → Fits (gs.getD i (0, 0)).1 ∧ Fits (gs.getD i (0, 0)).2) (fO : ∀ i, i < os.length → Fits (os.getD i 0)):
    Calls Tryz.prog 30 #[.agg #[.int .i64 n, .slice la ls.length lc, .slice ga gs.length gc, .slice oa os.length oc], .int .i64 steps] w fun e w' => e = .returned (.tuple #[.slice none 0 0, .int .i64 5]) ∧ Below w.heap.size w w' := by
  obtain ⟨W2, hW2⟩ : ∃ W2, W2 = w.alloc (.cells #[.int .i64 n, .slice la ls.length lc, .slice ga gs.length gc, .slice oa os.length oc] 34) := ⟨_, rfl⟩
  have B2 : Below w.heap.size w W2 := by rw [hW2]; exact (Below.refl _ _).alloc (Nat.le_refl _) _
  have bC2 : W2.heap[w.heap.size]? = some (.cells #[.int .i64 n, .slice la ls.length lc, .slice ga gs.length gc, .slice oa os.length oc] 34 (0, 0)) := by rw [hW2]; exact alloc_blk _ _ _ rfl
  have q0 : W2.cell? ⟨w.heap.size, 0, none⟩ = some (.int .i64 n) := by rw [cell_of_row _ _ _ _ _ _ bC2]; rfl
  have q1 : W2.cell? ⟨w.heap.size, 1, none⟩ = some (.slice la ls.length lc) := by rw [cell_of_row _ _ _ _ _ _ bC2]; rfl
  have q2 : W2.cell? ⟨w.heap.size, 2, none⟩ = some (.slice ga gs.length gc) := by rw [cell_of_row _ _ _ _ _ _ bC2]; rfl
  have q3 : W2.cell? ⟨w.heap.size, 3, none⟩ = some (.slice oa os.length oc) := by rw [cell_of_row _ _ _ _ _ _ bC2]; rfl
  have rg := refRight_is (lc := lc) (gc := gc) (oc := oc) W2 (hL.below B2) (hG.below B2) (hO.below B2) fL fG fO hr
  have t1 : decide (steps < 1) = false := by simp; omega
  have t2 : decide ((10 : Int) < steps) = true := by simp; omega
  go_enter Tryz.func30, Tryz.ntmps30
  go_upto_region 1 with fail
  rw [← hW2]
  clear hW2
  go_wp2_with fail
  refine rg.mono ?_
  rintro e W3 ⟨rfl, b3⟩
  clear rg q0 q1 q2 q3
  go_wp2
  go_ret2
  exact ⟨rfl, B2.trans (b3.mono B2.size)⟩

set_option maxHeartbeats 1000000 in
set_option maxRecDepth 100000 in
theorem latchCh_wrong (n steps : Int) (la ga oa : Option Addr) (lc gc oc : Nat) (ls gs : List (Int × Int)) (os : List Int) (w : World) (hr : rightB n ls gs os = false) (hL : PairsAt w la ls) (hG : PairsAt w ga gs) (hO : IntsAt w oa os) :
    Calls Tryz.prog 29 #[.agg #[.int .i64 n, .slice la ls.length lc, .slice ga gs.length gc, .slice oa os.length oc], .int .i64 steps] w fun e w' => e = .returned (.tuple #[.slice none 0 0, .int .i64 2]) ∧ Below w.heap.size w w' := by
  obtain ⟨W2, hW2⟩ : ∃ W2, W2 = w.alloc (.cells #[.int .i64 n, .slice la ls.length lc, .slice ga gs.length gc, .slice oa os.length oc] 34) := ⟨_, rfl⟩
  have B2 : Below w.heap.size w W2 := by rw [hW2]; exact (Below.refl _ _).alloc (Nat.le_refl _) _
  have bC2 : W2.heap[w.heap.size]? = some (.cells #[.int .i64 n, .slice la ls.length lc, .slice ga gs.length gc, .slice oa os.length oc] 34 (0, 0)) := by rw [hW2]; exact alloc_blk _ _ _ rfl
  have q0 : W2.cell? ⟨w.heap.size, 0, none⟩ = some (.int .i64 n) := by rw [cell_of_row _ _ _ _ _ _ bC2]; rfl
  have q1 : W2.cell? ⟨w.heap.size, 1, none⟩ = some (.slice la ls.length lc) := by rw [cell_of_row _ _ _ _ _ _ bC2]; rfl
  have q2 : W2.cell? ⟨w.heap.size, 2, none⟩ = some (.slice ga gs.length gc) := by rw [cell_of_row _ _ _ _ _ _ bC2]; rfl
  have q3 : W2.cell? ⟨w.heap.size, 3, none⟩ = some (.slice oa os.length oc) := by rw [cell_of_row _ _ _ _ _ _ bC2]; rfl
  have rg := right_is (lc := lc) (gc := gc) (oc := oc) W2 (hL.below B2) (hG.below B2) (hO.below B2) hr
  go_enter Tryz.func29, Tryz.ntmps29
  go_upto_region 1 with fail
  rw [← hW2]
  clear hW2
  go_wp2_with fail
  refine rg.mono ?_
  rintro e W3 ⟨rfl, b3⟩
  clear rg q0 q1 q2 q3
  go_wp2
  go_ret2
  exact ⟨rfl, B2.trans (b3.mono B2.size)⟩

set_option maxHeartbeats 1000000 in
set_option maxRecDepth 100000 in
theorem latchCh_low (n steps : Int) (la ga oa : Option Addr) (lc gc oc : Nat) (ls gs : List (Int × Int)) (os : List Int) (w : World) (hr : rightB n ls gs os = true) (hs : steps < 1) (hL : PairsAt w la ls) (hG : PairsAt w ga gs) (hO : IntsAt w oa os) :
    Calls Tryz.prog 29 #[.agg #[.int .i64 n, .slice la ls.length lc, .slice ga gs.length gc, .slice oa os.length oc], .int .i64 steps] w fun e w' => e = .returned (.tuple #[.slice none 0 0, .int .i64 5]) ∧ Below w.heap.size w w' := by
  obtain ⟨W2, hW2⟩ : ∃ W2, W2 = w.alloc (.cells #[.int .i64 n, .slice la ls.length lc, .slice ga gs.length gc, .slice oa os.length oc] 34) := ⟨_, rfl⟩
  have B2 : Below w.heap.size w W2 := by rw [hW2]; exact (Below.refl _ _).alloc (Nat.le_refl _) _
  have bC2 : W2.heap[w.heap.size]? = some (.cells #[.int .i64 n, .slice la ls.length lc, .slice ga gs.length gc, .slice oa os.length oc] 34 (0, 0)) := by rw [hW2]; exact alloc_blk _ _ _ rfl
  have q0 : W2.cell? ⟨w.heap.size, 0, none⟩ = some (.int .i64 n) := by rw [cell_of_row _ _ _ _ _ _ bC2]; rfl
  have q1 : W2.cell? ⟨w.heap.size, 1, none⟩ = some (.slice la ls.length lc) := by rw [cell_of_row _ _ _ _ _ _ bC2]; rfl
  have q2 : W2.cell? ⟨w.heap.size, 2, none⟩ = some (.slice ga gs.length gc) := by rw [cell_of_row _ _ _ _ _ _ bC2]; rfl
  have q3 : W2.cell? ⟨w.heap.size, 3, none⟩ = some (.slice oa os.length oc) := by rw [cell_of_row _ _ _ _ _ _ bC2]; rfl
  have rg := right_is (lc := lc) (gc := gc) (oc := oc) W2 (hL.below B2) (hG.below B2) (hO.below B2) hr
  have t1 : decide (steps < 1) = true := by simp; omega
  go_enter Tryz.func29, Tryz.ntmps29
  go_upto_region 1 with fail
  rw [← hW2]
  clear hW2
  go_wp2_with fail
  refine rg.mono ?_
  rintro e W3 ⟨rfl, b3⟩
  clear rg q0 q1 q2 q3
  go_wp2
  go_ret2
  exact ⟨rfl, B2.trans (b3.mono B2.size)⟩

set_option maxHeartbeats 1000000 in
set_option maxRecDepth 100000 in
theorem latchCh_high (n steps : Int) (la ga oa : Option Addr) (lc gc oc : Nat) (ls gs : List (Int × Int)) (os : List Int) (w : World) (hr : rightB n ls gs os = true) (hs : 10 < steps) (hL : PairsAt w la ls) (hG : PairsAt w ga gs) (hO : IntsAt w oa os) :
    Calls Tryz.prog 29 #[.agg #[.int .i64 n, .slice la ls.length lc, .slice ga gs.length gc, .slice oa os.length oc], .int .i64 steps] w fun e w' => e = .returned (.tuple #[.slice none 0 0, .int .i64 5]) ∧ Below w.heap.size w w' := by
  obtain ⟨W2, hW2⟩ : ∃ W2, W2 = w.alloc (.cells #[.int .i64 n, .slice la ls.length lc, .slice ga gs.length gc, .slice oa os.length oc] 34) := ⟨_, rfl⟩
  have B2 : Below w.heap.size w W2 := by rw [hW2]; exact (Below.refl _ _).alloc (Nat.le_refl _) _
  have bC2 : W2.heap[w.heap.size]? = some (.cells #[.int .i64 n, .slice la ls.length lc, .slice ga gs.length gc, .slice oa os.length oc] 34 (0, 0)) := by rw [hW2]; exact alloc_blk _ _ _ rfl
  have q0 : W2.cell? ⟨w.heap.size, 0, none⟩ = some (.int .i64 n) := by rw [cell_of_row _ _ _ _ _ _ bC2]; rfl
  have q1 : W2.cell? ⟨w.heap.size, 1, none⟩ = some (.slice la ls.length lc) := by rw [cell_of_row _ _ _ _ _ _ bC2]; rfl
  have q2 : W2.cell? ⟨w.heap.size, 2, none⟩ = some (.slice ga gs.length gc) := by rw [cell_of_row _ _ _ _ _ _ bC2]; rfl
  have q3 : W2.cell? ⟨w.heap.size, 3, none⟩ = some (.slice oa os.length oc) := by rw [cell_of_row _ _ _ _ _ _ bC2]; rfl
  have rg := right_is (lc := lc) (gc := gc) (oc := oc) W2 (hL.below B2) (hG.below B2) (hO.below B2) hr
  have t1 : decide (steps < 1) = false := by simp; omega
  have t2 : decide ((10 : Int) < steps) = true := by simp; omega
  go_enter Tryz.func29, Tryz.ntmps29
  go_upto_region 1 with fail
  rw [← hW2]
  clear hW2
  go_wp2_with fail
  refine rg.mono ?_
  rintro e W3 ⟨rfl, b3⟩
  clear rg q0 q1 q2 q3
  go_wp2
  go_ret2
  exact ⟨rfl, B2.trans (b3.mono B2.size)⟩

/-- What Chances answers: the chances, the error's number. -/
def faL (n : Int) (ls gs : List (Int × Int)) (os : List Int) (steps : Int) : List Nat := if rightB n ls gs os = true then (if 1 ≤ steps ∧ steps ≤ 10 then chL n.toNat ls gs os steps.toNat else []) else []
def faE (n : Int) (ls gs : List (Int × Int)) (os : List Int) (steps : Int) : Int := if rightB n ls gs os = true then (if 1 ≤ steps ∧ steps ≤ 10 then 0 else 5) else 2
theorem faL_len (n : Int) (ls gs : List (Int × Int)) (os : List Int) (steps : Int) : (faL n ls gs os steps).length ≤ 900 := by
  unfold faL
  split
  · rename_i hr
    have := (rightB_pos hr).1
    split
    · rw [chL_len]; omega
    · simp
  · simp
theorem faL_self (n : Int) (ls gs : List (Int × Int)) (os : List Int) (steps : Int) : ∀ i, i < (faL n ls gs os steps).length → FloatKind.f64.format.order ((faL n ls gs os steps).getD i 0) ((faL n ls gs os steps).getD i 0) = some .eq := by
  unfold faL
  split
  · rename_i hr
    have h := (rightB_pos hr).1
    split
    · exact chL_self (n := n.toNat) (by omega) (by omega) (steps := steps.toNat) (by omega) (by omega)
    · intro i hi; simp at hi
  · intro i hi; simp at hi
theorem refChances_all (n steps : Int) (la ga oa : Option Addr) (lc gc oc : Nat) (ls gs : List (Int × Int)) (os : List Int) (w : World) (hL : PairsAt w la ls) (hG : PairsAt w ga gs) (hO : IntsAt w oa os) (fL : ∀ i, i < ls.length → Fits (ls.getD i (0, 0)).1) (fG : ∀ i, i < gs.length → Fits (gs.getD i (0, 0)).1 ∧ Fits (gs.getD i (0, 0)).2) (fO : ∀ i, i < os.length → Fits (os.getD i 0)) :
    Calls Tryz.prog 30 #[.agg #[.int .i64 n, .slice la ls.length lc, .slice ga gs.length gc, .slice oa os.length oc], .int .i64 steps] w fun e w' => ∃ a c, e = .returned (.tuple #[.slice a (faL n ls gs os steps).length c, .int .i64 (faE n ls gs os steps)]) ∧ FltsAt w' a (faL n ls gs os steps) ∧ Below w.heap.size w w' := by
  unfold faL faE
  cases hr : rightB n ls gs os
  · exact (refCh_wrong n steps la ga oa lc gc oc ls gs os w hr hL hG hO fL fG fO).mono fun e w' h => ⟨none, 0, h.1, .inl rfl, h.2⟩
  · by_cases h1 : steps < 1
    · rw [if_pos rfl, if_pos rfl, if_neg (by omega), if_neg (by omega)]
      exact (refCh_low n steps la ga oa lc gc oc ls gs os w hr h1 hL hG hO fL fG fO).mono fun e w' h => ⟨none, 0, h.1, .inl rfl, h.2⟩
    · by_cases h2 : 10 < steps
      · rw [if_pos rfl, if_pos rfl, if_neg (by omega), if_neg (by omega)]
        exact (refCh_high n steps la ga oa lc gc oc ls gs os w hr h2 hL hG hO fL fG fO).mono fun e w' h => ⟨none, 0, h.1, .inl rfl, h.2⟩
      · rw [if_pos rfl, if_pos rfl, if_pos (by omega), if_pos (by omega)]
        obtain ⟨N, rfl⟩ := Int.eq_ofNat_of_zero_le (rightB_pos hr).1.1
        obtain ⟨k, rfl⟩ := Int.eq_ofNat_of_zero_le (show 0 ≤ steps by omega)
        exact refChances_ok N k la ga oa lc gc oc ls gs os w hr (by omega) (by omega) hL hG hO fL fG fO

end Go.Proofs.YtgpaajdfkekjiaaGreatDoor
