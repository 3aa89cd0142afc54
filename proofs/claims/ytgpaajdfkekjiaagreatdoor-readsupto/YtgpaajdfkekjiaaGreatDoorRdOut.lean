/-
  What the program's reader does with an output's line.
-/
import Derived.Test.YtgpaajdfkekjiaaGreatDoorRdGate
namespace Go.Proofs.YtgpaajdfkekjiaaGreatDoor
open Go.RowKit

set_option maxHeartbeats 2000000 in
set_option maxRecDepth 100000 in
theorem rdOut_any (h : Hd) (i line rb : Nat) (last : Int) (R : List UInt8) (ls gs : List (Int × Int)) (os : List Int) (w : World) (hL : Lib0 w) (hg : ¬ isGlob rb) (hr : RdAt w rb R line) (hR : R.length ≤ 1000) (hl : line ≤ 100) (hh : h.Ok) (hi : i = h.n) (hls : ls.length = h.l) (hos : os.length < h.o)
    (hlast : last = (h.n : Int) + h.l + h.g) :
    Calls Tryz.prog 42 #[.pointer (some ⟨rb, 0, none⟩), .int .i64 last] w fun e w' =>
      StepRes ⟨some h, i, ls, os, gs, R⟩ line rb w w' (fun st' => ∃ a : Nat, st' = ⟨some h, i, ls, os ++ [(a : Int)], gs, st'.rest⟩ ∧ e = .returned (.tuple #[.int .i64 a, .bool true])) (e = .returned (.tuple #[.int .i64 0, .bool false])) := by
  have hn := numbers_any [] R 1 line rb w hL hg hr hR (by simp) (by simp) (by omega) (by omega) hl
  obtain ⟨hh1, hh2, hh3, hh4⟩ := id hh
  go_enter Tryz.func42, Tryz.ntmps42
  go_wp2_with fail
  refine hn.mono ?_
  rintro e w1 ⟨sp, hres⟩
  clear hn
  rcases hres with ⟨ns, g, R', got, hbd, rd, hlen, rfl, hge, hrow⟩ | ⟨R', hno, rd, rfl⟩
  · have hl1 : ns.length = 1 := got.1
    have c0 := upTo_cell hrow 0 (by omega)
    have hst := stepOut_got (gs := gs) hh hi hls hos got
    obtain ⟨x0, hx0⟩ : ∃ x, x = ns.getD 0 0 := ⟨_, rfl⟩
    rw [← hx0] at c0 hst
    rw [hl1]
    have b1 : inB (x0 : Int) (2 * last + 1) = decide (x0 ≤ 2 * (h.n + h.l + h.g) + 1) := by rw [← inB_nat]; congr 1; rw [hlast]; omega
    have l0 : 0 ≤ last := by omega
    have l1 : last ≤ 1000000 := by omega
    clear hx0 hlast hh hh1 hh2 hh3 hh4 hr hL hl hR hi hls hos hg hge hrow hbd got
    by_cases e1 : x0 ≤ 2 * (h.n + h.l + h.g) + 1
    · rw [if_pos e1] at hst
      rw [decide_eq_true e1] at b1
      clear e1
      go_wp2_with (first | (go_at_call 71; refine (signal_is _ l0 l1 b1).mono ?_; rintro e w' ⟨rfl, hw⟩; have hw := hw.symm; subst hw) | fail)
      go_ret2
      exact ⟨sp, .inl ⟨_, hst, rd, hlen, x0, rfl, rfl⟩⟩
    · rw [if_neg e1] at hst
      rw [decide_eq_false e1] at b1
      clear e1
      go_wp2_with (first | (go_at_call 71; refine (signal_is _ l0 l1 b1).mono ?_; rintro e w' ⟨rfl, hw⟩; have hw := hw.symm; subst hw) | fail)
      go_ret2
      exact ⟨sp, .inr ⟨_, hst, rd, rfl⟩⟩
  · go_wp2
    go_ret2
    exact ⟨sp, .inr ⟨_, stepOut_no hi hls hos hno, rd, rfl⟩⟩

end Go.Proofs.YtgpaajdfkekjiaaGreatDoor
