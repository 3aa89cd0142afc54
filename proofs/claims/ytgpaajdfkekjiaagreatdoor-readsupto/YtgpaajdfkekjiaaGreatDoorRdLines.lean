/-
  What the program's reader does with a line of each kind, against the plain reading.
-/
import Derived.Test.YtgpaajdfkekjiaaGreatDoorNumbers
namespace Go.Proofs.YtgpaajdfkekjiaaGreatDoor
open Go.RowKit

/-- A line was read as the plain reading reads it: the next state, or none. -/
def StepRes (st : St) (line rb : Nat) (w w' : World) (ok : St → Prop) (no : Prop) : Prop :=
  Span rb (rb + 1) w w' ∧ ((∃ st', stepF st = some st' ∧ RdAt w' rb st'.rest (line + 1) ∧ st'.rest.length ≤ st.rest.length ∧ ok st') ∨ (∃ R', stepF st = none ∧ RdAt w' rb R' (line + 1) ∧ no))

theorem upTo_cell {w : World} {g : Nat} {ns : List Nat} (hrow : w.rowIs g 3 ns.length (upTo ns)) (k : Nat) (hk : k < ns.length) : w.cell? ⟨g, k, none⟩ = some (.int .i64 ((ns.getD k 0 : Nat) : Int)) := hrow.cell hk
theorem getD_lt {ns : List Nat} {k : Nat} (h : ∀ n ∈ ns, n < 9223372036854775808) : ns.getD k 0 < 9223372036854775808 := by
  rw [List.getD_eq_getElem?_getD]
  by_cases hk : k < ns.length
  · rw [List.getElem?_eq_getElem hk]; exact h _ (List.getElem_mem hk)
  · rw [List.getElem?_eq_none (by omega)]; simp

theorem Span.setNew {lo hi : Nat} {a b : World} (h : Span lo hi a b) {B i : Nat} (hB : a.heap.size ≤ B) (v : Value) : Span lo hi a (b.setCell ⟨B, i, none⟩ v) :=
  ⟨h.os, h.tape, h.output, by rw [Deep.nblk_setCell]; exact h.size, fun k hk ho => (Deep.blk_setCell_other _ _ _ _ (show k ≠ B by omega)).trans (h.block k hk ho)⟩
theorem RdAt.set_other {w : World} {rb : Nat} {R : List UInt8} {line : Nat} (h : RdAt w rb R line) {B i : Nat} (hB : B ≠ rb) (v : Value) : RdAt (w.setCell ⟨B, i, none⟩ v) rb R line :=
  h.blk (Deep.blk_setCell_other _ _ _ _ (show rb ≠ B from hB.symm))

set_option maxHeartbeats 1000000 in
set_option maxRecDepth 100000 in
theorem rdInput_any (h : Hd) (i line rb : Nat) (v : Int) (R : List UInt8) (ls gs : List (Int × Int)) (os : List Int) (w : World) (hL : Lib0 w) (hg : ¬ isGlob rb) (hr : RdAt w rb R line) (hR : R.length ≤ 1000) (hl : line ≤ 100) (hh : h.Ok) (hi : i < h.n) (hv : v = 2 * (i : Int) + 2) :
    Calls Tryz.prog 40 #[.pointer (some ⟨rb, 0, none⟩), .int .i64 v] w fun e w' =>
      StepRes ⟨some h, i, ls, os, gs, R⟩ line rb w w' (fun st' => st' = ⟨some h, i + 1, ls, os, gs, st'.rest⟩ ∧ e = .returned (.bool true)) (e = .returned (.bool false)) := by
  have hn := numbers_any [] R 1 line rb w hL hg hr hR (by simp) (by simp) (by omega) (by omega) hl
  go_enter Tryz.func40, Tryz.ntmps40
  go_wp2_with fail
  refine hn.mono ?_
  rintro e w1 ⟨sp, hres⟩
  rcases hres with ⟨ns, g, R', got, hbd, rd, hlen, rfl, hge, hrow⟩ | ⟨R', hno, rd, rfl⟩
  · have c0 := upTo_cell hrow 0 (by have := got.1; omega)
    have hst := stepIn_got (ls := ls) (gs := gs) (os := os) hh hi got
    have hl1 : (ns.length : Int) = 1 := by have := got.1; omega
    have hl1' : ns.length = 1 := got.1
    obtain ⟨x, hx⟩ : ∃ x, x = ns.getD 0 0 := ⟨_, rfl⟩
    rw [← hx] at c0 hst
    by_cases he : x = 2 * i + 2
    · have e2 : (x : Int) = v := by omega
      rw [if_pos he] at hst
      rw [e2] at c0
      clear hx hl1 he e2 hv
      rw [hl1']
      go_wp2
      go_ret
      exact ⟨sp, .inl ⟨_, hst, rd, hlen, rfl, rfl⟩⟩
    · have e2 : ¬ (x : Int) = v := by omega
      rw [if_neg he] at hst
      clear hx hl1 he hv
      rw [hl1']
      go_wp2
      go_ret
      exact ⟨sp, .inr ⟨_, hst, rd, ret_bool (by simp [e2])⟩⟩
  · go_wp2
    go_ret
    exact ⟨sp, .inr ⟨_, stepIn_no hi hno, rd, rfl⟩⟩


theorem inB_nat (x m : Nat) : inB ((x : Nat) : Int) ((m : Nat) : Int) = decide (x ≤ m) := by
  unfold inB
  by_cases h : x ≤ m
  · rw [decide_eq_true h, decide_eq_true (by omega)]
  · rw [decide_eq_false h, decide_eq_false (by omega)]

set_option maxHeartbeats 2000000 in
set_option maxRecDepth 100000 in
theorem rdLatch_any (h : Hd) (i line rb : Nat) (v last : Int) (R : List UInt8) (ls gs : List (Int × Int)) (os : List Int) (w : World) (hL : Lib0 w) (hg : ¬ isGlob rb) (hr : RdAt w rb R line) (hR : R.length ≤ 1000) (hl : line ≤ 100) (hh : h.Ok) (hi : i = h.n) (hls : ls.length < h.l)
    (hv : v = 2 * ((h.n : Int) + ls.length) + 2) (hlast : last = (h.n : Int) + h.l + h.g) :
    Calls Tryz.prog 41 #[.pointer (some ⟨rb, 0, none⟩), .int .i64 v, .int .i64 last] w fun e w' =>
      StepRes ⟨some h, i, ls, os, gs, R⟩ line rb w w' (fun st' => ∃ a b : Nat, st' = ⟨some h, i, ls ++ [((a : Int), (b : Int))], os, gs, st'.rest⟩ ∧ e = .returned (.tuple #[.agg #[.int .i64 a, .int .i64 b], .bool true])) (e = .returned (.tuple #[.agg #[.int .i64 0, .int .i64 0], .bool false])) := by
  obtain ⟨W0, hW0⟩ : ∃ W0, W0 = w.alloc (.cells #[.int .i64 0, .int .i64 0] 54) := ⟨_, rfl⟩
  have b0 : Below w.heap.size w W0 := by rw [hW0]; exact (Below.refl _ _).alloc (Nat.le_refl _) _
  have s0 : W0.heap.size = w.heap.size + 1 := by rw [hW0]; simp
  have bx : W0.heap[w.heap.size]? = some (.cells #[.int .i64 0, .int .i64 0] 54 (0, 0)) := by rw [hW0]; exact heap_alloc_new _ _
  have hne : w.heap.size ≠ rb := by have := hr.lt; omega
  have hn := numbers_any [] R 3 line rb W0 (hL.below b0) hg (hr.below b0) hR (by simp) (by simp) (by omega) (by omega) hl
  rw [hW0] at hn
  obtain ⟨hh1, hh2, hh3, hh4⟩ := id hh
  go_enter Tryz.func41, Tryz.ntmps41
  go_wp2_with fail
  refine hn.mono ?_
  rw [← hW0]
  rintro e w1 ⟨sp0, hres⟩
  have bx1 : w1.heap[w.heap.size]? = some (.cells #[.int .i64 0, .int .i64 0] 54 (0, 0)) := (sp0.block w.heap.size (by omega) (by omega)).trans bx
  have sp : Span rb (rb + 1) w w1 := (Span.of_below b0).trans sp0
  have q0 : w1.cell? ⟨w.heap.size, 0, none⟩ = some (.int .i64 0) := by rw [cell_of_row _ _ _ _ _ _ bx1]; rfl
  have q1 : w1.cell? ⟨w.heap.size, 1, none⟩ = some (.int .i64 0) := by rw [cell_of_row _ _ _ _ _ _ bx1]; rfl
  have qf0 : w1.frozen? ⟨w.heap.size, 0, none⟩ = false := frozen_of_row _ _ _ _ _ bx1
  have qf1 : w1.frozen? ⟨w.heap.size, 1, none⟩ = false := frozen_of_row _ _ _ _ _ bx1
  clear hn hW0
  rcases hres with ⟨ns, g, R', got, hbd, rd, hlen, rfl, hge, hrow⟩ | ⟨R', hno, rd, rfl⟩
  · have hl3 : ns.length = 3 := got.1
    have c0 := upTo_cell hrow 0 (by omega)
    have c1 := upTo_cell hrow 1 (by omega)
    have c2 := upTo_cell hrow 2 (by omega)
    have hst := stepLatch_got (gs := gs) (os := os) hh hi hls got
    have y1 := getD_lt (k := 1) hbd
    obtain ⟨x0, hx0⟩ : ∃ x, x = ns.getD 0 0 := ⟨_, rfl⟩
    obtain ⟨x1, hx1⟩ : ∃ x, x = ns.getD 1 0 := ⟨_, rfl⟩
    obtain ⟨x2, hx2⟩ : ∃ x, x = ns.getD 2 0 := ⟨_, rfl⟩
    rw [← hx0] at c0 hst
    rw [← hx1] at c1 hst y1
    rw [← hx2] at c2 hst
    rw [hl3]
    have b1 : inB (x1 : Int) (2 * last + 1) = decide (x1 ≤ 2 * (h.n + h.l + h.g) + 1) := by rw [← inB_nat]; congr 1; rw [hlast]; omega
    have l0 : 0 ≤ last := by omega
    have l1 : last ≤ 1000000 := by omega
    have e0v : x0 = 2 * (h.n + ls.length) + 2 ↔ (x0 : Int) = v := by omega
    have b2 : inB (x2 : Int) 1 = decide (x2 ≤ 1) := inB_nat x2 1
    clear hx0 hx1 hx2 hlast hv hh hh1 hh2 hh3 hh4 hr hL hl hR hi hls b0 bx bx1 sp0 hg s0 hge hrow hbd got
    by_cases e0 : x0 = 2 * (h.n + ls.length) + 2
    · have e0' : (x0 : Int) = v := e0v.1 e0
      rw [e0'] at c0
      by_cases e1 : x1 ≤ 2 * (h.n + h.l + h.g) + 1
      · by_cases e2 : x2 ≤ 1
        · rw [if_pos ⟨e0, e1, e2⟩] at hst
          rw [decide_eq_true e1] at b1
          rw [decide_eq_true e2] at b2
          clear e0 e1 e2 e0' e0v
          go_wp2_with (first | (go_at_call 71; refine (signal_is _ l0 l1 b1).mono ?_; rintro e w' ⟨rfl, hw⟩; have hw := hw.symm; subst hw) | (go_at_call 72; refine (init_is _ b2).mono ?_; rintro e w' ⟨rfl, hw⟩; have hw := hw.symm; subst hw) | fail)
          go_region
          go_wp2
          refine bodyPost_ret (v := .tuple #[.agg #[.int .i64 x1, .int .i64 x2], .bool true]) (by simp [results, Tryz.results41, go_sem, q0, q1]) rfl ?_
          exact ⟨((sp.setNew (Nat.le_refl _) _).setNew (Nat.le_refl _) _).drew, .inl ⟨_, hst, ((rd.set_other hne _).set_other hne _).drewN 1, hlen, x1, x2, rfl, rfl⟩⟩
        · rw [if_neg (fun e => e2 e.2.2)] at hst
          rw [decide_eq_true e1] at b1
          rw [decide_eq_false e2] at b2
          clear e0 e1 e2 e0' e0v
          go_wp2_with (first | (go_at_call 71; refine (signal_is _ l0 l1 b1).mono ?_; rintro e w' ⟨rfl, hw⟩; have hw := hw.symm; subst hw) | (go_at_call 72; refine (init_is _ b2).mono ?_; rintro e w' ⟨rfl, hw⟩; have hw := hw.symm; subst hw) | fail)
          refine bodyPost_ret (v := .tuple #[.agg #[.int .i64 0, .int .i64 0], .bool false]) (by simp [results, Tryz.results41, go_sem, q0, q1]) rfl ?_
          exact ⟨(sp.setNew (Nat.le_refl _) _).setNew (Nat.le_refl _) _, .inr ⟨_, hst, (rd.set_other hne _).set_other hne _, rfl⟩⟩
      · rw [if_neg (fun e => e1 e.2.1)] at hst
        rw [decide_eq_false e1] at b1
        clear e0 e1 e0' e0v b2
        go_wp2_with (first | (go_at_call 71; refine (signal_is _ l0 l1 b1).mono ?_; rintro e w' ⟨rfl, hw⟩; have hw := hw.symm; subst hw) | fail)
        refine bodyPost_ret (v := .tuple #[.agg #[.int .i64 0, .int .i64 0], .bool false]) (by simp [results, Tryz.results41, go_sem, q0, q1]) rfl ?_
        exact ⟨(sp.setNew (Nat.le_refl _) _).setNew (Nat.le_refl _) _, .inr ⟨_, hst, (rd.set_other hne _).set_other hne _, rfl⟩⟩
    · have e0' : ¬ (x0 : Int) = v := fun e => e0 (e0v.2 e)
      rw [if_neg (fun e => e0 e.1)] at hst
      clear e0 e0v b1 b2
      go_wp2
      refine bodyPost_ret (v := .tuple #[.agg #[.int .i64 0, .int .i64 0], .bool false]) (by simp [results, Tryz.results41, go_sem, q0, q1]) rfl ?_
      exact ⟨(sp.setNew (Nat.le_refl _) _).setNew (Nat.le_refl _) _, .inr ⟨_, hst, (rd.set_other hne _).set_other hne _, rfl⟩⟩
  · go_wp2
    refine bodyPost_ret (v := .tuple #[.agg #[.int .i64 0, .int .i64 0], .bool false]) (by simp [results, Tryz.results41, go_sem, q0, q1]) rfl ?_
    exact ⟨(sp.setNew (Nat.le_refl _) _).setNew (Nat.le_refl _) _, .inr ⟨_, stepLatch_no hi hls hno, (rd.set_other hne _).set_other hne _, rfl⟩⟩

end Go.Proofs.YtgpaajdfkekjiaaGreatDoor
