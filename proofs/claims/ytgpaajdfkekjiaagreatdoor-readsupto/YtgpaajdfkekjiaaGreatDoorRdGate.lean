/-
  What the program's reader does with a gate's line.
-/
import Derived.Test.YtgpaajdfkekjiaaGreatDoorRdLines
namespace Go.Proofs.YtgpaajdfkekjiaaGreatDoor
open Go.RowKit

set_option maxHeartbeats 2000000 in
set_option maxRecDepth 100000 in
theorem rdGate_any (h : Hd) (i line rb : Nat) (v : Int) (R : List UInt8) (ls gs : List (Int × Int)) (os : List Int) (w : World) (hL : Lib0 w) (hg : ¬ isGlob rb) (hr : RdAt w rb R line) (hR : R.length ≤ 1000) (hl : line ≤ 100) (hh : h.Ok) (hi : i = h.n) (hls : ls.length = h.l) (hos : os.length = h.o) (hgs : gs.length < h.g)
    (hv : v = 2 * ((h.n : Int) + h.l + gs.length) + 2) :
    Calls Tryz.prog 43 #[.pointer (some ⟨rb, 0, none⟩), .int .i64 v] w fun e w' =>
      StepRes ⟨some h, i, ls, os, gs, R⟩ line rb w w' (fun st' => ∃ a b : Nat, st' = ⟨some h, i, ls, os, gs ++ [((a : Int), (b : Int))], st'.rest⟩ ∧ e = .returned (.tuple #[.agg #[.int .i64 a, .int .i64 b], .bool true])) (e = .returned (.tuple #[.agg #[.int .i64 0, .int .i64 0], .bool false])) := by
  obtain ⟨W0, hW0⟩ : ∃ W0, W0 = w.alloc (.cells #[.int .i64 0, .int .i64 0] 56) := ⟨_, rfl⟩
  have b0 : Below w.heap.size w W0 := by rw [hW0]; exact (Below.refl _ _).alloc (Nat.le_refl _) _
  have s0 : W0.heap.size = w.heap.size + 1 := by rw [hW0]; simp
  have bx : W0.heap[w.heap.size]? = some (.cells #[.int .i64 0, .int .i64 0] 56 (0, 0)) := by rw [hW0]; exact heap_alloc_new _ _
  have hne : w.heap.size ≠ rb := by have := hr.lt; omega
  have hn := numbers_any [] R 3 line rb W0 (hL.below b0) hg (hr.below b0) hR (by simp) (by simp) (by omega) (by omega) hl
  rw [hW0] at hn
  obtain ⟨hh1, hh2, hh3, hh4⟩ := id hh
  go_enter Tryz.func43, Tryz.ntmps43
  go_wp2_with fail
  refine hn.mono ?_
  rw [← hW0]
  rintro e w1 ⟨sp0, hres⟩
  have bx1 : w1.heap[w.heap.size]? = some (.cells #[.int .i64 0, .int .i64 0] 56 (0, 0)) := (sp0.block w.heap.size (by omega) (by omega)).trans bx
  have sp : Span rb (rb + 1) w w1 := (Span.of_below b0).trans sp0
  have q0 : w1.cell? ⟨w.heap.size, 0, none⟩ = some (.int .i64 0) := by rw [cell_of_row _ _ _ _ _ _ bx1]; rfl
  have q1 : w1.cell? ⟨w.heap.size, 1, none⟩ = some (.int .i64 0) := by rw [cell_of_row _ _ _ _ _ _ bx1]; rfl
  have qf0 : w1.frozen? ⟨w.heap.size, 0, none⟩ = false := frozen_of_row _ _ _ _ _ bx1
  have qf1 : w1.frozen? ⟨w.heap.size, 1, none⟩ = false := frozen_of_row _ _ _ _ _ bx1
  clear hn hW0
  rcases hres with ⟨ns, g, R', got, hbd, rd, hlen, rfl, hge, hrow⟩ | ⟨R', hno, rd, rfl⟩
  · have hl3 : ns.length = 3 := got.1
    have c0 := upTo_cell hrow 0 (by omega)
    have c1 := upTo_cell hrow 1 (by omega)
    have c2 := upTo_cell hrow 2 (by omega)
    have hst := stepGate_got hh hi hls hos hgs got
    have y1 := getD_lt (k := 1) hbd
    obtain ⟨x0, hx0⟩ : ∃ x, x = ns.getD 0 0 := ⟨_, rfl⟩
    obtain ⟨x1, hx1⟩ : ∃ x, x = ns.getD 1 0 := ⟨_, rfl⟩
    obtain ⟨x2, hx2⟩ : ∃ x, x = ns.getD 2 0 := ⟨_, rfl⟩
    rw [← hx0] at c0 hst
    rw [← hx1] at c1 hst y1
    rw [← hx2] at c2 hst
    rw [hl3]
    obtain ⟨last, hlast⟩ : ∃ last : Int, last = (h.n : Int) + h.l + gs.length := ⟨_, rfl⟩
    have b1 : inB (x1 : Int) (2 * last + 1) = decide (x1 ≤ 2 * (h.n + h.l + gs.length) + 1) := by rw [← inB_nat]; congr 1; rw [hlast]; omega
    have hlv : v / 2 - 1 = last := by omega
    have l0 : 0 ≤ last := by omega
    have l1 : last ≤ 1000000 := by omega
    have e0v : x0 = 2 * (h.n + h.l + gs.length) + 2 ↔ (x0 : Int) = v := by omega
    have b2 : inB (x2 : Int) (2 * last + 1) = decide (x2 ≤ 2 * (h.n + h.l + gs.length) + 1) := by rw [← inB_nat]; congr 1; rw [hlast]; omega
    have hv2 : v ≤ 1000 := by omega
    have hv3 : 2 ≤ v := by omega
    clear hx0 hx1 hx2 hlast hv hh hh1 hh2 hh3 hh4 hr hL hl hR hi hls hos hgs b0 bx bx1 sp0 hg s0 hge hrow hbd got
    by_cases e0 : x0 = 2 * (h.n + h.l + gs.length) + 2
    · have e0' : (x0 : Int) = v := e0v.1 e0
      rw [e0'] at c0
      by_cases e1 : x1 ≤ 2 * (h.n + h.l + gs.length) + 1
      · by_cases e2 : x2 ≤ 2 * (h.n + h.l + gs.length) + 1
        · rw [if_pos ⟨e0, e1, e2⟩] at hst
          rw [decide_eq_true e1] at b1
          rw [decide_eq_true e2] at b2
          clear e0 e1 e2 e0' e0v
          go_wp2_with (first | (go_at_call 71; refine (signal_is _ l0 l1 b1).mono ?_; rintro e w' ⟨rfl, hw⟩; have hw := hw.symm; subst hw) | (go_at_call 71; refine (signal_is _ l0 l1 b2).mono ?_; rintro e w' ⟨rfl, hw⟩; have hw := hw.symm; subst hw) | fail)
          go_region
          go_wp2
          refine bodyPost_ret (v := .tuple #[.agg #[.int .i64 x1, .int .i64 x2], .bool true]) (by simp [results, Tryz.results43, go_sem, q0, q1]) rfl ?_
          exact ⟨((sp.setNew (Nat.le_refl _) _).setNew (Nat.le_refl _) _).drew, .inl ⟨_, hst, ((rd.set_other hne _).set_other hne _).drewN 1, hlen, x1, x2, rfl, rfl⟩⟩
        · rw [if_neg (fun e => e2 e.2.2)] at hst
          rw [decide_eq_true e1] at b1
          rw [decide_eq_false e2] at b2
          clear e0 e1 e2 e0' e0v
          go_wp2_with (first | (go_at_call 71; refine (signal_is _ l0 l1 b1).mono ?_; rintro e w' ⟨rfl, hw⟩; have hw := hw.symm; subst hw) | (go_at_call 71; refine (signal_is _ l0 l1 b2).mono ?_; rintro e w' ⟨rfl, hw⟩; have hw := hw.symm; subst hw) | fail)
          refine bodyPost_ret (v := .tuple #[.agg #[.int .i64 0, .int .i64 0], .bool false]) (by simp [results, Tryz.results43, go_sem, q0, q1]) rfl ?_
          exact ⟨(sp.setNew (Nat.le_refl _) _).setNew (Nat.le_refl _) _, .inr ⟨_, hst, (rd.set_other hne _).set_other hne _, rfl⟩⟩
      · rw [if_neg (fun e => e1 e.2.1)] at hst
        rw [decide_eq_false e1] at b1
        clear e0 e1 e0' e0v b2
        go_wp2_with (first | (go_at_call 71; refine (signal_is _ l0 l1 b1).mono ?_; rintro e w' ⟨rfl, hw⟩; have hw := hw.symm; subst hw) | fail)
        refine bodyPost_ret (v := .tuple #[.agg #[.int .i64 0, .int .i64 0], .bool false]) (by simp [results, Tryz.results43, go_sem, q0, q1]) rfl ?_
        exact ⟨(sp.setNew (Nat.le_refl _) _).setNew (Nat.le_refl _) _, .inr ⟨_, hst, (rd.set_other hne _).set_other hne _, rfl⟩⟩
    · have e0' : ¬ (x0 : Int) = v := fun e => e0 (e0v.2 e)
      rw [if_neg (fun e => e0 e.1)] at hst
      clear e0 e0v b1 b2
      go_wp2
      refine bodyPost_ret (v := .tuple #[.agg #[.int .i64 0, .int .i64 0], .bool false]) (by simp [results, Tryz.results43, go_sem, q0, q1]) rfl ?_
      exact ⟨(sp.setNew (Nat.le_refl _) _).setNew (Nat.le_refl _) _, .inr ⟨_, hst, (rd.set_other hne _).set_other hne _, rfl⟩⟩
  · go_wp2
    refine bodyPost_ret (v := .tuple #[.agg #[.int .i64 0, .int .i64 0], .bool false]) (by simp [results, Tryz.results43, go_sem, q0, q1]) rfl ?_
    exact ⟨(sp.setNew (Nat.le_refl _) _).setNew (Nat.le_refl _) _, .inr ⟨_, stepGate_no hi hls hos hgs hno, (rd.set_other hne _).set_other hne _, rfl⟩⟩


end Go.Proofs.YtgpaajdfkekjiaaGreatDoor
