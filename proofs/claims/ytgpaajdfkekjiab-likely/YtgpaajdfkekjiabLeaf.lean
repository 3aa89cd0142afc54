/-
  What the smallest functions of package circuit answer: within, Signal, Init, Last, Sizes. No condition but those named.
-/
import Derived.Test.YtgpaajdfkekjiabRows
import Derived.Test.YtgpaajdfkekjiabPlain
import Derived.WalkKit
import Derived.WalkSpells
import Derived.WalkLawsBesides
import Derived.BigQuiet
import Derived.Deep.QuietTactic
namespace Go.Proofs.Ytgpaajdfkekjiab
open Go.RowKit

theorem ret_int {k : IntKind} {a b : Int} (h : a = b) : Ending.returned (.int k a) = .returned (.int k b) := by rw [h]
theorem ret_bool {a b : Bool} (h : a = b) : Ending.returned (.bool a) = .returned (.bool b) := by rw [h]

theorem bcell {W w1 : World} (hb : Below W.heap.size W w1) : (∀ b o, b < W.heap.size → w1.cell? ⟨b, o, none⟩ = W.cell? ⟨b, o, none⟩) ∧ (∀ b o, b < W.heap.size → w1.frozen? ⟨b, o, none⟩ = W.frozen? ⟨b, o, none⟩) :=
  ⟨fun b o h => hb.cell (p := ⟨b, o, none⟩) h, fun b o h => hb.frozen (p := ⟨b, o, none⟩) h⟩

theorem within_any (n m : Int) (w : World) :
    Calls Try.prog 25 #[.int .i64 n, .int .i64 m] w fun e w' => e = .returned (.bool (inB n m)) ∧ w' = w := by
  by_cases h : 0 ≤ n
  · by_cases h2 : n ≤ m
    · go_enter Try.func25, Try.ntmps25
      go_wp2
      go_ret
      exact ⟨ret_bool (by simp [inB, h, h2]), rfl⟩
    · go_enter Try.func25, Try.ntmps25
      go_wp2
      go_ret
      exact ⟨ret_bool (by simp [inB, h2]), rfl⟩
  · go_enter Try.func25, Try.ntmps25
    go_wp2
    go_ret
    exact ⟨ret_bool (by simp [inB]; omega), rfl⟩

theorem signal_any (s last : Int) (w : World) (h0 : 0 ≤ last) (h1 : last ≤ 1000000) :
    Calls Try.prog 26 #[.int .i64 s, .int .i64 last] w fun e w' => e = .returned (.bool (inB s (2 * last + 1))) ∧ w' = w := by
  go_enter Try.func26, Try.ntmps26
  go_wp2_with (go_at_call 25; refine (within_any _ _ _).mono ?_; rintro e w' ⟨rfl, rfl⟩)
  go_ret
  exact ⟨rfl, rfl⟩

theorem init_any (s : Int) (w : World) :
    Calls Try.prog 28 #[.int .i64 s] w fun e w' => e = .returned (.bool (inB s 1)) ∧ w' = w := by
  go_enter Try.func28, Try.ntmps28
  go_wp2_with (go_at_call 25; refine (within_any _ _ _).mono ?_; rintro e w' ⟨rfl, rfl⟩)
  go_ret
  exact ⟨rfl, rfl⟩

theorem signal_is {s last : Int} {b : Bool} (w : World) (h0 : 0 ≤ last) (h1 : last ≤ 1000000) (h : inB s (2 * last + 1) = b) :
    Calls Try.prog 26 #[.int .i64 s, .int .i64 last] w fun e w' => e = .returned (.bool b) ∧ w' = w := by
  subst h; exact signal_any s last w h0 h1
theorem init_is {s : Int} {b : Bool} (w : World) (h : inB s 1 = b) :
    Calls Try.prog 28 #[.int .i64 s] w fun e w' => e = .returned (.bool b) ∧ w' = w := by
  subst h; exact init_any s w

/-- The one block that 'Last' makes: the circuit's box. -/
theorem last_any (n : Int) (la ga oa : Option Addr) (ln lc gn gc on oc : Nat) (w : World) (h0 : 0 ≤ n) (h1 : n ≤ 4) (h2 : ln ≤ 1000) (h3 : gn ≤ 1000) :
    Calls Try.prog 27 #[.agg #[.int .i64 n, .slice la ln lc, .slice ga gn gc, .slice oa on oc]] w fun e w' =>
      e = .returned (.int .i64 (n + ln + gn)) ∧ w' = w.alloc (.cells #[.int .i64 n, .slice la ln lc, .slice ga gn gc, .slice oa on oc] 26) := by
  go_enter Try.func27, Try.ntmps27
  go_wp2
  go_ret
  exact ⟨rfl, rfl⟩


theorem sizes_any (i l o g : Int) (w : World) :
    Calls Try.prog 16 #[.int .i64 i, .int .i64 l, .int .i64 o, .int .i64 g] w fun e w' => e = .returned (.bool (sizesB i l o g)) ∧ w' = w := by
  cases h1 : inB i 4 <;> cases h2 : inB l 4 <;> cases h3 : inB o 4 <;> cases h4 : inB g 30 <;>
  · go_enter Try.func16, Try.ntmps16
    go_wp2_with (go_at_call 25; refine (within_any _ _ _).mono ?_; rintro e w' ⟨rfl, rfl⟩)
    go_ret
    exact ⟨ret_bool (by simp [sizesB, h1, h2, h3, h4]), rfl⟩

end Go.Proofs.Ytgpaajdfkekjiab
