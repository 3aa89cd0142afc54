/-
  What ran of package latchkeep answers.
-/
import Derived.Test.YtgpaajdfkekjiabKeep
namespace Go.Proofs.Ytgpaajdfkekjiab
open Go.RowKit

def ints (vs : List Nat) : List Int := vs.map fun x => ((x : Nat) : Int)
theorem own_ints {w : World} {base g len cap : Nat} {vs : List Nat} (h : w.ownsRow base 3 1 (.slice (some ⟨g, 0, none⟩) len cap) len (ivals vs)) : IntsAt w (some ⟨g, 0, none⟩) (ints vs) := by
  have hl : vs.length = len := by have := h.1; rw [ivals_len] at this; omega
  refine .inr ⟨g, 0, rfl, (h.lt g rfl).2, fun i hi => ?_⟩
  have hi' : i < vs.length := by simpa [ints] using hi
  rw [own_cells h i (by omega)]
  simp [ints, hi']

theorem outs_len (n : Nat) (ls gs : List (Int × Int)) (os ins : List Int) : (outs n ls gs os ins).length = ins.length := by simp [outs]

/-- DOC.md's second example, run. -/
theorem ran_run (la oa ia : Option Addr) (w : World) (hL : PairsAt w la [(2, 0)]) (hO : IntsAt w oa [4]) (hI : IntsAt w ia [1, 0, 1]) :
    Calls Try.prog 8 #[.agg #[.int .i64 1, .slice la 1 1, .slice none 0 0, .slice oa 1 1], .slice ia 3 3] w fun e w' =>
      ∃ g, e = .returned (.tuple #[.slice (some ⟨g, 0, none⟩) 3 3, .int .i64 0]) ∧ IntsAt w' (some ⟨g, 0, none⟩) [0, 1, 0] ∧ Below w.heap.size w w' := by
  refine (run_ok 1 la none oa ia 1 0 1 3 [(2, 0)] [] [4] [1, 0, 1] w (by simp [maxLen]) hL (.inl rfl) hO hI (by decide) (by decide)).mono fun e w' h => ?_
  obtain ⟨g, he, hown, hb⟩ := h
  exact ⟨g, he, own_ints hown, hb⟩

theorem IntsAt.alloc_any {w : World} {a : Option Addr} {xs : List Int} (h : IntsAt w a xs) (o : Obj) : IntsAt (w.alloc o) a xs := h.below ((Below.refl _ _).alloc (Nat.le_refl _) _)
theorem PairsAt.alloc_any {w : World} {a : Option Addr} {xs : List (Int × Int)} (h : PairsAt w a xs) (o : Obj) : PairsAt (w.alloc o) a xs := h.below ((Below.refl _ _).alloc (Nat.le_refl _) _)

theorem ints3 (w : World) (x y z : Int) (B : Nat) (hB : B = w.heap.size) : IntsAt (w.alloc (.cells #[.int .i64 x, .int .i64 y, .int .i64 z] 3)) (some ⟨B, 0, none⟩) [x, y, z] := by
  refine ints_of_block (alloc_blk _ _ _ hB) (fun j hj => ?_)
  match j, hj with
  | 0, _ => rfl
  | 1, _ => rfl
  | 2, _ => rfl

theorem sameInts_010 (aa ba : Option Addr) (w : World) (hX : IntsAt w aa [0, 1, 0]) (hY : IntsAt w ba [0, 1, 0]) :
    Calls Try.prog 10 #[.slice aa 3 3, .slice ba 3 3] w fun e w' => e = .returned (.bool true) ∧ Below w.heap.size w w' :=
  (sameInts_any aa ba 3 3 [0, 1, 0] [0, 1, 0] w (by simp [maxLen]) (by simp [maxLen]) hX hY).mono fun e w' h => ⟨h.1, h.2⟩

set_option maxHeartbeats 400000 in
set_option maxRecDepth 100000 in
theorem ran_any (w : World) : Calls Try.prog 4 #[] w fun e w' => e = .returned (.bool true) ∧ Below w.heap.size w w' := by
  go_enter Try.func4, Try.ntmps4
  go_wp2_with (first | (go_at_call 9; refine (delay_any _ _).mono ?_; rintro e w1 ⟨la, oa, rfl, hL, hO, b1⟩) | (go_at_call 8; refine (ran_run la oa _ _ (hL.alloc_any _) (hO.alloc_any _) (ints3 _ _ _ _ _ rfl)).mono ?_; rintro e w2 ⟨g, rfl, hR, b2⟩) | (go_at_call 10; refine (sameInts_010 _ _ _ (hR.alloc_any _) (ints3 _ _ _ _ _ rfl)).mono ?_; rintro e w3 ⟨rfl, b3⟩))
  go_ret
  have s1 := b1.size
  have s2 := b2.size
  simp at s2
  refine ⟨rfl, (((b1.alloc (by omega) _).trans (b2.mono (by simp; omega))).alloc (by omega) _).trans (b3.mono (by simp; omega))⟩

end Go.Proofs.Ytgpaajdfkekjiab
