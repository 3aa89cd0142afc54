/-
  Small functions of package slim: needless, naming's of and ofGate.
-/
import Derived.Test.YtgpaajdfkekjiaaGreatDoorLeafRun
import Derived.Test.YtgpaajdfkekjiaaGreatDoorMem
import Derived.Test.YtgpaajdfkekjiaaGreatDoorBox
import Derived.Test.YtgpaajdfkekjiaaGreatDoorPairsAll
import Derived.Test.YtgpaajdfkekjiaaGreatDoorSlimAll
import Derived.BigQuiet
import Derived.Deep.DeepCutAuto
namespace Go.Proofs.YtgpaajdfkekjiaaGreatDoor
open Go.RowKit

/-- What needless answers. -/
def ndl (a b : Nat) : Nat × Bool := if a = 0 then (0, true) else if a = 1 then (b, true) else if a = b then (a, true) else if a = b ^^^ 1 then (0, true) else (0, false)

set_option maxHeartbeats 1000000 in
set_option maxRecDepth 100000 in
theorem needless_any (a b : Nat) (w : World) (hb : b < 9223372036854775808) :
    Calls Tryz.prog 102 #[.agg #[.int .i64 a, .int .i64 b]] w fun e w' => e = .returned (.tuple #[.int .i64 (ndl a b).1, .bool (ndl a b).2]) ∧ Below w.heap.size w w' := by
  have hxor : bits .xor .i64 (b : Int) 1 = ((b ^^^ 1 : Nat) : Int) := by have := i64_xor_nat b 1 hb (by omega); simpa using this
  obtain ⟨y, hy⟩ : ∃ y, y = b ^^^ 1 := ⟨_, rfl⟩
  unfold ndl
  rw [← hy] at hxor ⊢
  clear hy
  have bel : Below w.heap.size w (w.alloc (.cells #[.int .i64 a, .int .i64 b] 56)) := (Below.refl _ _).alloc (Nat.le_refl _) _
  by_cases h0 : a = 0
  · subst h0
    go_enter Tryz.func102, Tryz.ntmps102
    go_wp2
    go_ret2
    exact ⟨rfl, bel⟩
  · have k0 : ((a : Int) == 0) = false := by simp; omega
    by_cases h1 : a = 1
    · subst h1
      go_enter Tryz.func102, Tryz.ntmps102
      go_wp2
      go_ret2
      exact ⟨rfl, bel⟩
    · have k1 : ((a : Int) == 1) = false := by simp; omega
      by_cases h2 : a = b
      · subst h2
        rw [if_neg h0, if_neg h1, if_pos rfl]
        clear h0 h1
        go_enter Tryz.func102, Tryz.ntmps102
        go_wp2
        go_ret2
        exact ⟨rfl, bel⟩
      · have k2 : ((a : Int) == (b : Int)) = false := by simp; omega
        by_cases h3 : a = y
        · rw [if_neg h0, if_neg h1, if_neg h2, if_pos h3]
          have k3 : ((a : Int) == (y : Int)) = true := by simp; omega
          clear h0 h1 h2 h3
          go_enter Tryz.func102, Tryz.ntmps102
          go_wp2
          go_ret2
          exact ⟨rfl, bel⟩
        · rw [if_neg h0, if_neg h1, if_neg h2, if_neg h3]
          have k3 : ((a : Int) == (y : Int)) = false := by simp; omega
          clear h0 h1 h2 h3
          go_enter Tryz.func102, Tryz.ntmps102
          go_wp2
          go_ret2
          exact ⟨rfl, bel⟩

/-- naming's 'of'. -/
theorem of_any (S : Nat) (b off len cap : Nat) (l : List Nat) (w : World) (hl : S / 2 < len) (hlen : len ≤ 1000) (hv : len = l.length) (h01 : ∀ x ∈ l, x < 1000)
    (hc : ∀ j, j < len → w.cell? ⟨b, off + j, none⟩ = some (.int .i64 ((l.getD j 0 : Nat) : Int))) :
    Calls Tryz.prog 118 #[.slice (some ⟨b, off, none⟩) len cap, .int .i64 S] w fun e w' => e = .returned (.int .i64 (putS l S : Nat)) ∧ w' = w := by
  have hcell := hc (S / 2) hl
  have hx : l.getD (S / 2) 0 < 1000 := by
    have hlt : S / 2 < l.length := by omega
    rw [List.getD_eq_getElem?_getD, List.getElem?_eq_getElem hlt]
    exact h01 _ (List.getElem_mem hlt)
  unfold putS
  obtain ⟨x, hX⟩ : ∃ x, x = l.getD (S / 2) 0 := ⟨_, rfl⟩
  rw [← hX] at hcell hx ⊢
  clear hX hc h01 hv
  have H1 : Hid (bits .and .i64 (S : Int) 1 = ((S % 2 : Nat) : Int)) := i64_and1 S (by omega)
  have H2 : Hid (bits .xor .i64 (x : Int) ((S % 2 : Nat) : Int) = ((x ^^^ (S % 2) : Nat) : Int)) := i64_xor_nat x (S % 2) (by omega) (by omega)
  go_enter Tryz.func118, Tryz.ntmps118
  go_wp2
  go_ret
  refine ⟨ret_int ?_, rfl⟩
  rw [H1.out, H2.out]

set_option maxHeartbeats 1000000 in
theorem ofGate_results {w : World} {b : Nat} {tmps : Array Value} {v0 v1 : Value} (h : w.heap[b]? = some (.cells #[v0, v1] 56 (0, 0))) (h4 : tmps[4]?.getD undef = .pointer (some ⟨b, 0, none⟩)) :
    (results Tryz.f100 tmps).run Tryz.prog w = .ok (.agg #[v0, v1]) w := by
  have c0 : w.cell? ⟨b, 0, none⟩ = some v0 := by rw [cell_of_row _ _ _ _ _ _ h]; rfl
  have c1 : w.cell? ⟨b, 1, none⟩ = some v1 := by rw [cell_of_row _ _ _ _ _ _ h]; rfl
  simp [results, Tryz.results100, go_sem, h4, c0, c1]

set_option maxHeartbeats 1000000 in
set_option maxRecDepth 100000 in
/-- naming's 'ofGate'. -/
theorem ofGate_any (a c : Nat) (b off len cap : Nat) (l : List Nat) (w : World) (ha : a / 2 < len) (hcl : c / 2 < len) (hlen : len ≤ 1000) (hv : len = l.length) (h01 : ∀ x ∈ l, x < 1000) (hb : b < w.heap.size)
    (hc : ∀ j, j < len → w.cell? ⟨b, off + j, none⟩ = some (.int .i64 ((l.getD j 0 : Nat) : Int))) :
    Calls Tryz.prog 100 #[.slice (some ⟨b, off, none⟩) len cap, .agg #[.int .i64 a, .int .i64 c]] w fun e w' => e = .returned (.agg #[.int .i64 ((putG l (a, c)).1 : Nat), .int .i64 ((putG l (a, c)).2 : Nat)]) ∧ Below w.heap.size w w' := by
  obtain ⟨W2, hW2⟩ : ∃ W2, W2 = (w.alloc (.cells #[.int .i64 a, .int .i64 c] 56)).alloc (.cells #[.int .i64 0, .int .i64 0] 56) := ⟨_, rfl⟩
  have B2 : Below w.heap.size w W2 := by rw [hW2]; exact ((Below.refl _ _).alloc (Nat.le_refl _) _).alloc (by simp) _
  have xA : W2.heap[w.heap.size]? = some (.cells #[.int .i64 a, .int .i64 c] 56 (0, 0)) := by rw [hW2]; exact alloc_old (alloc_blk _ _ _ rfl)
  have xR : W2.heap[w.heap.size + 1]? = some (.cells #[.int .i64 0, .int .i64 0] 56 (0, 0)) := by rw [hW2]; exact alloc_blk _ _ _ (by simp)
  have hc2 : ∀ j, j < len → W2.cell? ⟨b, off + j, none⟩ = some (.int .i64 ((l.getD j 0 : Nat) : Int)) := fun j hj => (B2.cell (p := ⟨b, _, none⟩) hb).trans (hc j hj)
  have A0 : W2.cell? ⟨w.heap.size, 0, none⟩ = some (.int .i64 a) := by rw [cell_of_row _ _ _ _ _ _ xA]; rfl
  have A1 : W2.cell? ⟨w.heap.size, 1, none⟩ = some (.int .i64 c) := by rw [cell_of_row _ _ _ _ _ _ xA]; rfl
  have R0 : W2.cell? ⟨w.heap.size + 1, 0, none⟩ = some (.int .i64 0) := by rw [cell_of_row _ _ _ _ _ _ xR]; rfl
  have R1 : W2.cell? ⟨w.heap.size + 1, 1, none⟩ = some (.int .i64 0) := by rw [cell_of_row _ _ _ _ _ _ xR]; rfl
  have G0 : W2.frozen? ⟨w.heap.size + 1, 0, none⟩ = false := frozen_of_row _ _ _ _ _ xR
  have G1 : W2.frozen? ⟨w.heap.size + 1, 1, none⟩ = false := frozen_of_row _ _ _ _ _ xR
  have HC2 : Hid (∀ j, j < len → W2.cell? ⟨b, off + j, none⟩ = some (.int .i64 ((l.getD j 0 : Nat) : Int))) := hc2
  unfold putG
  obtain ⟨x, hx⟩ : ∃ x, x = putS l a := ⟨_, rfl⟩
  obtain ⟨y, hy⟩ : ∃ y, y = putS l c := ⟨_, rfl⟩
  have oX : ∀ k : Nat, Calls Tryz.prog 118 #[.slice (some ⟨b, off, none⟩) len cap, .int .i64 a] (W2.drewN k) fun e w' => e = .returned (.int .i64 x) ∧ w' = W2.drewN k := fun k => by
    rw [hx]
    exact of_any a b off len cap l _ ha hlen hv h01 (fun j hj => ((below_drewN (Below.refl W2.heap.size W2) k).cell (p := ⟨b, _, none⟩) (Nat.lt_of_lt_of_le hb B2.size)).trans (hc2 j hj))
  have oY : ∀ k : Nat, Calls Tryz.prog 118 #[.slice (some ⟨b, off, none⟩) len cap, .int .i64 c] (W2.drewN k) fun e w' => e = .returned (.int .i64 y) ∧ w' = W2.drewN k := fun k => by
    rw [hy]
    exact of_any c b off len cap l _ hcl hlen hv h01 (fun j hj => ((below_drewN (Below.refl W2.heap.size W2) k).cell (p := ⟨b, _, none⟩) (Nat.lt_of_lt_of_le hb B2.size)).trans (hc2 j hj))
  show Calls _ _ _ _ (fun e w' => e = .returned (.agg #[.int .i64 ((min (putS l a) (putS l c) : Nat) : Int), .int .i64 ((max (putS l a) (putS l c) : Nat) : Int)]) ∧ Below w.heap.size w w')
  rw [← hx, ← hy]
  clear hx hy hc hc2 HC2 hv h01 hlen ha hcl
  go_enter Tryz.func100, Tryz.ntmps100
  go_upto_region 1 with fail
  rw [← hW2]
  clear hW2
  go_quiet (first | (go_at_call 118; (with_reducible refine Calls.quiet_of_same (oX _))) | (go_at_call 118; (with_reducible refine Calls.quiet_of_same (oY _))))
  have hR2 : w.heap.size + 1 < W2.heap.size := (Array.getElem?_eq_some_iff.1 xR).1
  rcases Nat.lt_trichotomy x y with h | h | h
  · have h2 : ¬ y < x := by omega
    go_wp2
    refine bodyPost_ret (ofGate_results (b := w.heap.size + 1) (blk_set (blk_set (((below_drewN (Below.refl W2.heap.size W2) nq).block _ hR2).trans xR) 0 _) 1 _) (by rfl)) rfl ⟨(by rw [Nat.min_eq_left (Nat.le_of_lt h), Nat.max_eq_right (Nat.le_of_lt h)]), ?_⟩
    exact ((below_drewN B2 nq).setCell (p := ⟨w.heap.size + 1, 0, none⟩) (by simp) _).setCell (p := ⟨w.heap.size + 1, 1, none⟩) (by simp) _
  · subst h
    go_wp2
    refine bodyPost_ret (ofGate_results (b := w.heap.size + 1) (blk_set (blk_set (((below_drewN (Below.refl W2.heap.size W2) nq).block _ hR2).trans xR) 0 _) 1 _) (by rfl)) rfl ⟨(by rw [Nat.min_self, Nat.max_self]), ?_⟩
    exact ((below_drewN B2 nq).setCell (p := ⟨w.heap.size + 1, 0, none⟩) (by simp) _).setCell (p := ⟨w.heap.size + 1, 1, none⟩) (by simp) _
  · have h2 : ¬ x < y := by omega
    go_wp2
    refine bodyPost_ret (ofGate_results (b := w.heap.size + 1) (blk_set (blk_set (((below_drewN (Below.refl W2.heap.size W2) nq).block _ hR2).trans xR) 0 _) 1 _) (by rfl)) rfl ⟨(by rw [Nat.min_eq_right (Nat.le_of_lt h), Nat.max_eq_left (Nat.le_of_lt h)]), ?_⟩
    exact ((below_drewN B2 nq).setCell (p := ⟨w.heap.size + 1, 0, none⟩) (by simp) _).setCell (p := ⟨w.heap.size + 1, 1, none⟩) (by simp) _

end Go.Proofs.YtgpaajdfkekjiaaGreatDoor
