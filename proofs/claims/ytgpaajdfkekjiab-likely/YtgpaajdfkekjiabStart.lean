/-
  What Start of package circuit answers of a right circuit: its first state.
-/
import Derived.Test.YtgpaajdfkekjiabRightIn
namespace Go.Proofs.Ytgpaajdfkekjiab
open Go.RowKit

theorem shl_small (x k : Nat) (hx : x ≤ 1) (hk : k ≤ 10) : wrap64 ((x : Int) * 2 ^ k) = ((x * 2 ^ k : Nat) : Int) := by
  have h : k = 0 ∨ k = 1 ∨ k = 2 ∨ k = 3 ∨ k = 4 ∨ k = 5 ∨ k = 6 ∨ k = 7 ∨ k = 8 ∨ k = 9 ∨ k = 10 := by omega
  have h3 : x = 0 ∨ x = 1 := by omega
  rcases h with h | h | h | h | h | h | h | h | h | h | h <;> rcases h3 with h3 | h3 <;> subst h <;> subst h3 <;> simp [wrap64]

/-- One more bit. -/
theorem pack_step (f : Nat → Nat) (hf : ∀ k, f k ≤ 1) (k x : Nat) (hk : k ≤ 10) (hx : f k = x) : bits .or .i64 (packN f k : Nat) (wrap64 ((x : Int) * 2 ^ k)) = (packN f (k + 1) : Nat) := by
  subst hx
  have hp : (2 : Nat) ^ k ≤ 2 ^ 10 := Nat.pow_le_pow_right (by omega) hk
  have h1 : packN f k < 2 ^ k := packN_lt f hf k
  have h2 : f k * 2 ^ k ≤ 1 * 2 ^ k := Nat.mul_le_mul_right _ (hf k)
  rw [shl_small (f k) k (hf k) hk, i64_or_nat _ _ (by omega) (by omega), packN_or f hf k]

theorem startOf_lt (ls : List (Int × Int)) (k : Nat) : startOf ls k < 2 ^ k := packN_lt _ (fun _ => by omega) k

set_option maxHeartbeats 1000000 in
theorem start_any (v0 : Value) (la : Option Addr) (lc : Nat) (v2 v3 : Value) (ls : List (Int × Int)) (w : World) (h2 : ls.length ≤ 4)
    (hL : PairsAt w la ls) (hi : ∀ i, i < ls.length → inB (ls.getD i (0, 0)).2 1 = true) :
    Calls Try.prog 14 #[.agg #[v0, .slice la ls.length lc, v2, v3]] w fun e w' =>
      e = .returned (.int .i64 (startOf ls ls.length : Nat)) ∧ Below w.heap.size w w' := by
  rcases hL with rfl | ⟨b, off, rfl, hlt, hc⟩
  · go_enter Try.func14, Try.ntmps14
    go_wp2
    refine wp_loop_rounds 1 ?_
    rw [rounds_succ]
    go_wp2
    go_ret
    exact ⟨rfl, (Below.refl _ _).alloc (Nat.le_refl _) _⟩
  · go_enter Try.func14, Try.ntmps14
    go_wp2
    go_loopw [3, 4, 5, 9] (fun st _ _ i wr => ∃ k : Nat, k ≤ ls.length ∧ i = .int .i64 k ∧ st = .int .i64 (startOf ls k : Nat) ∧ w.heap.size < wr.heap.size ∧ Below w.heap.size w wr)
      (fun _ _ _ i _ => ls.length - (intOf i).toNat)
    case atStart => exact ⟨0, Nat.zero_le _, rfl, rfl, by simp, (Below.refl _ _).alloc (Nat.le_refl _) _⟩
    case round =>
      obtain ⟨k, hk, rfl, rfl, hz, hbel⟩ := hrel
      by_cases hk2 : k < ls.length
      · have hcy : wr.cell? ⟨b, off + k * 2, none⟩ = some (.int .i64 (ls.getD k (0, 0)).1) := (hbel.cell (p := ⟨b, _, none⟩) hlt).trans (hc k hk2).1
        have hcz : wr.cell? ⟨b, off + k * 2 + 1, none⟩ = some (.int .i64 (ls.getD k (0, 0)).2) := (hbel.cell (p := ⟨b, _, none⟩) hlt).trans (hc k hk2).2
        have hq := inB_pos (hi k hk2)
        obtain ⟨x, hX⟩ : ∃ x, x = ls.getD k (0, 0) := ⟨_, rfl⟩
        rw [← hX] at hcy hcz hq
        obtain ⟨x1, x2⟩ := x
        dsimp only at hcy hcz hq
        obtain ⟨X2, rfl⟩ := Int.eq_ofNat_of_zero_le hq.1
        have hf : (fun i => (ls.getD i (0, 0)).2.toNat % 2) k = X2 := by show (ls.getD k (0, 0)).2.toNat % 2 = X2; rw [← hX]; dsimp only; omega
        have HS : Hid (bits .or .i64 (startOf ls k : Nat) (wrap64 ((X2 : Int) * 2 ^ k)) = (startOf ls (k + 1) : Nat)) := pack_step _ (fun _ => by omega) k X2 (by omega) hf
        have HX : Hid ((x1, (X2 : Int)) = ls.getD k (0, 0)) := hX
        have hX2 : X2 ≤ 1 := by omega
        clear hX hc hf hq hi
        go_wp2
        go_roundw
        case rel => exact ⟨k + 1, by omega, by go_num, congrArg (Value.int .i64) HS.out, by simp; omega, hbel.alloc (by omega) _⟩
        case measure => simp [intOf]; omega
      · clear hc hi
        go_wp2
        go_ret
        exact ⟨ret_int (by rw [show k = ls.length by omega]), hbel⟩

end Go.Proofs.Ytgpaajdfkekjiab
