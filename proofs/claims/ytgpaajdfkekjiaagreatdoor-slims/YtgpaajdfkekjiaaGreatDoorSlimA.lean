/-
  The one answer of Slim, of any circuit; the program's Slim and the reference's give it.
-/
import Derived.Test.YtgpaajdfkekjiaaGreatDoorRsS
import Derived.Test.YtgpaajdfkekjiaaGreatDoorSameC
namespace Go.Proofs.YtgpaajdfkekjiaaGreatDoor
open Go.RowKit

set_option maxHeartbeats 2000000 in
set_option maxRecDepth 100000 in
theorem slim_wrong (n : Int) (la ga oa : Option Addr) (lc gc oc : Nat) (ls gs : List (Int × Int)) (os : List Int) (w : World) (hr : rightB n ls gs os = false) (hL : PairsAt w la ls) (hG : PairsAt w ga gs) (hO : IntsAt w oa os) :
    Calls Tryz.prog 27 #[.agg #[.int .i64 n, .slice la ls.length lc, .slice ga gs.length gc, .slice oa os.length oc]] w fun e w' => e = .returned (.tuple #[.agg #[.int .i64 0, .slice none 0 0, .slice none 0 0, .slice none 0 0], .int .i64 2]) ∧ Below w.heap.size w w' := by
  obtain ⟨W2, hW2⟩ : ∃ W2, W2 = (w.alloc (.cells #[.int .i64 n, .slice la ls.length lc, .slice ga gs.length gc, .slice oa os.length oc] 34)).alloc (.cells #[.int .i64 0, .slice none 0 0, .slice none 0 0, .slice none 0 0] 34) := ⟨_, rfl⟩
  have s2 : W2.heap.size = w.heap.size + 2 := by rw [hW2]; simp
  have B2 : Below w.heap.size w W2 := by rw [hW2]; exact ((Below.refl _ _).alloc (Nat.le_refl _) _).alloc (by simp) _
  have bC2 : W2.heap[w.heap.size]? = some (.cells #[.int .i64 n, .slice la ls.length lc, .slice ga gs.length gc, .slice oa os.length oc] 34 (0, 0)) := by rw [hW2]; exact alloc_old (alloc_blk _ _ _ rfl)
  have bA2 : W2.heap[w.heap.size + 1]? = some (.cells #[.int .i64 0, .slice none 0 0, .slice none 0 0, .slice none 0 0] 34 (0, 0)) := by rw [hW2]; exact alloc_blk _ _ _ (by simp)
  obtain ⟨q0, q1, q2, q3⟩ : W2.cell? ⟨w.heap.size, 0, none⟩ = some (.int .i64 n) ∧ W2.cell? ⟨w.heap.size, 1, none⟩ = some (.slice la ls.length lc) ∧ W2.cell? ⟨w.heap.size, 2, none⟩ = some (.slice ga gs.length gc) ∧ W2.cell? ⟨w.heap.size, 3, none⟩ = some (.slice oa os.length oc) := by
    refine ⟨?_, ?_, ?_, ?_⟩ <;> (rw [cell_of_row _ _ _ _ _ _ bC2]; rfl)
  go_enter Tryz.func27, Tryz.ntmps27
  go_upto_region 1 with fail
  rw [← hW2]
  clear hW2
  go_wp2_with fail
  refine (right_is W2 (hL.below B2) (hG.below B2) (hO.below B2) hr).mono ?_
  rintro e w1 ⟨rfl, b3⟩
  have bel1 : Below w.heap.size w w1 := B2.trans (b3.mono B2.size)
  have bA1 := (b3.block (w.heap.size + 1) (by omega)).trans bA2
  clear q0 q1 q2 q3 bC2 bA2
  have u0 : w1.cell? ⟨w.heap.size + 1, 0, none⟩ = some (.int .i64 0) := by rw [cell_of_row _ _ _ _ _ _ bA1]; rfl
  have u1 : w1.cell? ⟨w.heap.size + 1, 1, none⟩ = some (.slice none 0 0) := by rw [cell_of_row _ _ _ _ _ _ bA1]; rfl
  have u2 : w1.cell? ⟨w.heap.size + 1, 2, none⟩ = some (.slice none 0 0) := by rw [cell_of_row _ _ _ _ _ _ bA1]; rfl
  have u3 : w1.cell? ⟨w.heap.size + 1, 3, none⟩ = some (.slice none 0 0) := by rw [cell_of_row _ _ _ _ _ _ bA1]; rfl
  have v0 : w1.frozen? ⟨w.heap.size + 1, 0, none⟩ = false := frozen_of_row _ _ _ _ _ bA1
  have v1 : w1.frozen? ⟨w.heap.size + 1, 1, none⟩ = false := frozen_of_row _ _ _ _ _ bA1
  have v2 : w1.frozen? ⟨w.heap.size + 1, 2, none⟩ = false := frozen_of_row _ _ _ _ _ bA1
  have v3 : w1.frozen? ⟨w.heap.size + 1, 3, none⟩ = false := frozen_of_row _ _ _ _ _ bA1
  go_wp2
  refine sl_close (b := w.heap.size + 1) (box4_blk bA1 _ _ _ _) (by rfl) (by rfl) ?_
  exact ⟨rfl, box4_below bel1 (by omega) _ _ _ _⟩

set_option maxHeartbeats 2000000 in
set_option maxRecDepth 100000 in
theorem refSlim_wrong (n : Int) (la ga oa : Option Addr) (lc gc oc : Nat) (ls gs : List (Int × Int)) (os : List Int) (w : World) (hr : rightB n ls gs os = false) (hL : PairsAt w la ls) (hG : PairsAt w ga gs) (hO : IntsAt w oa os)
    (fL : ∀ i, i < ls.length → Fits (ls.getD i (0, 0)).1) (fG : ∀ i, i < gs.length → Fits (gs.getD i (0, 0)).1 ∧ Fits (gs.getD i (0, 0)).2) (fO : ∀ i, i < os.length → Fits (os.getD i 0)) :
    Calls Tryz.prog 28 #[.agg #[.int .i64 n, .slice la ls.length lc, .slice ga gs.length gc, .slice oa os.length oc]] w fun e w' => e = .returned (.tuple #[.agg #[.int .i64 0, .slice none 0 0, .slice none 0 0, .slice none 0 0], .int .i64 2]) ∧ Below w.heap.size w w' := by
  obtain ⟨W2, hW2⟩ : ∃ W2, W2 = (w.alloc (.cells #[.int .i64 n, .slice la ls.length lc, .slice ga gs.length gc, .slice oa os.length oc] 34)).alloc (.cells #[.int .i64 0, .slice none 0 0, .slice none 0 0, .slice none 0 0] 34) := ⟨_, rfl⟩
  have s2 : W2.heap.size = w.heap.size + 2 := by rw [hW2]; simp
  have B2 : Below w.heap.size w W2 := by rw [hW2]; exact ((Below.refl _ _).alloc (Nat.le_refl _) _).alloc (by simp) _
  have bC2 : W2.heap[w.heap.size]? = some (.cells #[.int .i64 n, .slice la ls.length lc, .slice ga gs.length gc, .slice oa os.length oc] 34 (0, 0)) := by rw [hW2]; exact alloc_old (alloc_blk _ _ _ rfl)
  have bA2 : W2.heap[w.heap.size + 1]? = some (.cells #[.int .i64 0, .slice none 0 0, .slice none 0 0, .slice none 0 0] 34 (0, 0)) := by rw [hW2]; exact alloc_blk _ _ _ (by simp)
  obtain ⟨q0, q1, q2, q3⟩ : W2.cell? ⟨w.heap.size, 0, none⟩ = some (.int .i64 n) ∧ W2.cell? ⟨w.heap.size, 1, none⟩ = some (.slice la ls.length lc) ∧ W2.cell? ⟨w.heap.size, 2, none⟩ = some (.slice ga gs.length gc) ∧ W2.cell? ⟨w.heap.size, 3, none⟩ = some (.slice oa os.length oc) := by
    refine ⟨?_, ?_, ?_, ?_⟩ <;> (rw [cell_of_row _ _ _ _ _ _ bC2]; rfl)
  go_enter Tryz.func28, Tryz.ntmps28
  go_upto_region 1 with fail
  rw [← hW2]
  clear hW2
  go_wp2_with fail
  refine (rightS_is W2 (hL.below B2) (hG.below B2) (hO.below B2) fL fG fO hr).mono ?_
  rintro e w1 ⟨rfl, b3⟩
  have bel1 : Below w.heap.size w w1 := B2.trans (b3.mono B2.size)
  have bA1 := (b3.block (w.heap.size + 1) (by omega)).trans bA2
  clear q0 q1 q2 q3 bC2 bA2
  have u0 : w1.cell? ⟨w.heap.size + 1, 0, none⟩ = some (.int .i64 0) := by rw [cell_of_row _ _ _ _ _ _ bA1]; rfl
  have u1 : w1.cell? ⟨w.heap.size + 1, 1, none⟩ = some (.slice none 0 0) := by rw [cell_of_row _ _ _ _ _ _ bA1]; rfl
  have u2 : w1.cell? ⟨w.heap.size + 1, 2, none⟩ = some (.slice none 0 0) := by rw [cell_of_row _ _ _ _ _ _ bA1]; rfl
  have u3 : w1.cell? ⟨w.heap.size + 1, 3, none⟩ = some (.slice none 0 0) := by rw [cell_of_row _ _ _ _ _ _ bA1]; rfl
  have v0 : w1.frozen? ⟨w.heap.size + 1, 0, none⟩ = false := frozen_of_row _ _ _ _ _ bA1
  have v1 : w1.frozen? ⟨w.heap.size + 1, 1, none⟩ = false := frozen_of_row _ _ _ _ _ bA1
  have v2 : w1.frozen? ⟨w.heap.size + 1, 2, none⟩ = false := frozen_of_row _ _ _ _ _ bA1
  have v3 : w1.frozen? ⟨w.heap.size + 1, 3, none⟩ = false := frozen_of_row _ _ _ _ _ bA1
  go_wp2
  refine rsl_close (b := w.heap.size + 1) (box4_blk bA1 _ _ _ _) (by rfl) (by rfl) ?_
  exact ⟨rfl, box4_below bel1 (by omega) _ _ _ _⟩

/-- The one answer. -/
def anZ (n : Int) (ls gs : List (Int × Int)) (os : List Int) : Int := if rightB n ls gs os then n else 0
def anL (n : Int) (ls gs : List (Int × Int)) (os : List Int) : List (Int × Int) := if rightB n ls gs os then slL n.toNat ls gs os else []
def anG (n : Int) (ls gs : List (Int × Int)) (os : List Int) : List (Int × Int) := if rightB n ls gs os then slG n.toNat ls gs os else []
def anO (n : Int) (ls gs : List (Int × Int)) (os : List Int) : List Int := if rightB n ls gs os then slO n.toNat ls gs os else []
def anE (n : Int) (ls gs : List (Int × Int)) (os : List Int) : Int := if rightB n ls gs os then 0 else 2
theorem an_lens (n : Int) (ls gs : List (Int × Int)) (os : List Int) : (anL n ls gs os).length ≤ 900 ∧ (anG n ls gs os).length ≤ 900 ∧ (anO n ls gs os).length ≤ 900 := by
  unfold anL anG anO
  cases hr : rightB n ls gs os
  · simp
  · have hn : 0 ≤ n := by
      simp only [rightB, sizesB, Bool.and_eq_true, decide_eq_true_eq, inB] at hr
      obtain ⟨⟨⟨⟨⟨⟨h1, h2⟩, h3⟩, h4⟩, hl⟩, hg⟩, ho⟩ := hr
      omega
    obtain ⟨k, rfl⟩ := Int.eq_ofNat_of_zero_le hn
    have h := rightN_iff.1 hr
    simp only [if_true, Int.toNat_natCast, slL_len, slG_len, slO_len]
    have h1 := h.l4
    have h2 := h.g30
    have h3 := h.o4
    have h4 := Nat.le_trans (slStay_le (n := k) (ls := ls) (gs := gs) (os := os)) slKept_le
    omega
theorem slim_end {w w' : World} {N : Nat} {L G : List (Int × Int)} {O : List Int} {e : Ending} (h : SlimRes w N L G O e w') : CircEnd w N L G O (fun c => .tuple #[c, .int .i64 0]) e w' := by
  obtain ⟨lv, gv, ov, rfl, oL, oG, oO, d1, d2, d3, b⟩ := h
  obtain ⟨la, lc, rfl⟩ := own_slice_len oL
  obtain ⟨ga, gc, rfl⟩ := own_slice_len oG
  obtain ⟨oa, oc, rfl⟩ := own_slice_len oO
  exact ⟨la, ga, oa, lc, gc, oc, rfl, oL, oG, oO, d2, d3, fun b e e' => d1 b e' e, b⟩
theorem circ_seen {w w' : World} {z : Int} {L G : List (Int × Int)} {O : List Int} {T : Value → Value} {e : Ending} (h : CircEnd w z L G O T e w') : CircSeen w z L G O T e w' := by
  obtain ⟨la, ga, oa, lc, gc, oc, he, oL, oG, oO, -, -, -, b⟩ := h
  exact ⟨la, ga, oa, lc, gc, oc, he, own_pairsC oL, own_pairsC oG, own_intsC oO, b⟩
theorem bad_end {w w' : World} {e : Ending} {T : Value → Value} (h : e = .returned (T (.agg #[.int .i64 0, .slice none 0 0, .slice none 0 0, .slice none 0 0])) ∧ Below w.heap.size w w') : CircEnd w 0 [] [] [] T e w' :=
  ⟨none, none, none, 0, 0, 0, h.1, World.ownsRow_nil _ _ _ _, World.ownsRow_nil _ _ _ _, World.ownsRow_nil _ _ _ _, (fun b e => by cases e), (fun b e => by cases e), (fun b e => by cases e), h.2⟩

theorem slim_all (n : Int) (la ga oa : Option Addr) (lc gc oc : Nat) (ls gs : List (Int × Int)) (os : List Int) (w : World) (hL : PairsAt w la ls) (hG : PairsAt w ga gs) (hO : IntsAt w oa os) :
    Calls Tryz.prog 27 #[.agg #[.int .i64 n, .slice la ls.length lc, .slice ga gs.length gc, .slice oa os.length oc]] w (CircEnd w (anZ n ls gs os) (anL n ls gs os) (anG n ls gs os) (anO n ls gs os) (fun c => .tuple #[c, .int .i64 (anE n ls gs os)])) := by
  unfold anZ anL anG anO anE
  cases hr : rightB n ls gs os
  · exact (slim_wrong n la ga oa lc gc oc ls gs os w hr hL hG hO).mono fun e w' h => bad_end h
  · have hn : 0 ≤ n := by
      simp only [rightB, sizesB, Bool.and_eq_true, decide_eq_true_eq, inB] at hr
      obtain ⟨⟨⟨⟨⟨⟨h1, h2⟩, h3⟩, h4⟩, hl⟩, hg⟩, ho⟩ := hr
      omega
    obtain ⟨k, rfl⟩ := Int.eq_ofNat_of_zero_le hn
    exact (slim_ok k la ga oa lc gc oc ls gs os w hr hL hG hO).mono fun e w' h => slim_end h
theorem refSlim_all (n : Int) (la ga oa : Option Addr) (lc gc oc : Nat) (ls gs : List (Int × Int)) (os : List Int) (w : World) (hL : PairsAt w la ls) (hG : PairsAt w ga gs) (hO : IntsAt w oa os)
    (fL : ∀ i, i < ls.length → Fits (ls.getD i (0, 0)).1) (fG : ∀ i, i < gs.length → Fits (gs.getD i (0, 0)).1 ∧ Fits (gs.getD i (0, 0)).2) (fO : ∀ i, i < os.length → Fits (os.getD i 0)) :
    Calls Tryz.prog 28 #[.agg #[.int .i64 n, .slice la ls.length lc, .slice ga gs.length gc, .slice oa os.length oc]] w (CircSeen w (anZ n ls gs os) (anL n ls gs os) (anG n ls gs os) (anO n ls gs os) (fun c => .tuple #[c, .int .i64 (anE n ls gs os)])) := by
  unfold anZ anL anG anO anE
  cases hr : rightB n ls gs os
  · exact (refSlim_wrong n la ga oa lc gc oc ls gs os w hr hL hG hO fL fG fO).mono fun e w' h => circ_seen (bad_end h)
  · have hn : 0 ≤ n := by
      simp only [rightB, sizesB, Bool.and_eq_true, decide_eq_true_eq, inB] at hr
      obtain ⟨⟨⟨⟨⟨⟨h1, h2⟩, h3⟩, h4⟩, hl⟩, hg⟩, ho⟩ := hr
      omega
    obtain ⟨k, rfl⟩ := Int.eq_ofNat_of_zero_le hn
    exact (refSlim_ok k la ga oa lc gc oc ls gs os w hr hL hG hO).mono fun e w' h => circ_seen (slim_end h)

end Go.Proofs.YtgpaajdfkekjiaaGreatDoor
