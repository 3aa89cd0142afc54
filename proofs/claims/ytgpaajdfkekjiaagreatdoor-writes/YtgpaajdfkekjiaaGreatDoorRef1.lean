/-
  What the smaller functions of package latchref answer: isSignal, top, of, values, outputs, behind, begin.
-/
import Derived.Test.YtgpaajdfkekjiaaGreatDoorKeepInts
namespace Go.Proofs.YtgpaajdfkekjiaaGreatDoor
open Go.RowKit

theorem isSignal_is {s last : Int} {b : Bool} (w : World) (hs1 : -9223372036854775808 ≤ s) (hs2 : s ≤ 9223372036854775807) (h : inB s (2 * last + 1) = b) :
    Calls Tryz.prog 74 #[.int .i64 s, .int .i64 (last + 1)] w fun e w' => e = .returned (.bool b) ∧ w' = w := by
  subst h
  by_cases h2 : 0 ≤ s
  · by_cases h3 : s / 2 < last + 1
    · go_enter Tryz.func74, Tryz.ntmps74
      go_wp2
      go_ret
      exact ⟨ret_bool (by simp [inB]; omega), rfl⟩
    · go_enter Tryz.func74, Tryz.ntmps74
      go_wp2
      go_ret
      exact ⟨ret_bool (by simp [inB]; omega), rfl⟩
  · go_enter Tryz.func74, Tryz.ntmps74
    go_wp2
    go_ret
    exact ⟨ret_bool (by simp [inB]; omega), rfl⟩

theorem top_any (n : Int) (la ga oa : Option Addr) (ln lc gn gc on oc : Nat) (w : World) (h0 : 0 ≤ n) (h1 : n ≤ 4) (h2 : ln ≤ 1000) (h3 : gn ≤ 1000) :
    Calls Tryz.prog 48 #[.agg #[.int .i64 n, .slice la ln lc, .slice ga gn gc, .slice oa on oc]] w fun e w' =>
      e = .returned (.int .i64 (n + ln + gn)) ∧ w' = w.alloc (.cells #[.int .i64 n, .slice la ln lc, .slice ga gn gc, .slice oa on oc] 34) := by
  go_enter Tryz.func48, Tryz.ntmps48
  go_wp2
  go_ret
  exact ⟨rfl, rfl⟩

theorem of_is {s : Int} {base g len cap a : Nat} {vs : List Nat} (w : World) (h0 : 0 ≤ s) (hl : s / 2 < len) (hlen : len ≤ 1000) (hv : len = vs.length)
    (h01 : ∀ x ∈ vs, x ≤ 1) (hown : w.ownsRow base 3 1 (.slice (some ⟨g, 0, none⟩) len cap) len (ivals vs)) (ha : sigv s vs = a) :
    Calls Tryz.prog 80 #[.slice (some ⟨g, 0, none⟩) len cap, .int .i64 s] w fun e w' => e = .returned (.int .i64 (a : Nat)) ∧ w' = w := by
  subst ha
  have hcell := own_cells hown (s / 2).toNat (by omega)
  rw [Nat.zero_add] at hcell
  have hx : vs.getD (s / 2).toNat 0 ≤ 1 := by
    have hlt : (s / 2).toNat < vs.length := by omega
    rw [List.getD_eq_getElem?_getD, List.getElem?_eq_getElem hlt]
    exact h01 _ (List.getElem_mem hlt)
  obtain ⟨x, hX⟩ : ∃ x, x = vs.getD (s / 2).toNat 0 := ⟨_, rfl⟩
  have hs : sigv s vs = (x + s.toNat % 2) % 2 := by unfold sigv; rw [hX]
  rw [← hX] at hcell hx
  rw [hs]
  clear hX hs hown h01 hv
  obtain ⟨S, rfl⟩ := Int.eq_ofNat_of_zero_le h0
  have eS : ((S : Int) / 2).toNat = S / 2 := by omega
  rw [eS] at hcell
  clear eS
  obtain ⟨r, hr⟩ : ∃ r, r = S % 2 := ⟨_, rfl⟩
  have er : (S : Int) % 2 = (r : Int) := by omega
  have hr2 : r ≤ 1 := by omega
  have H2 : Hid (bits .xor .i64 (x : Int) (r : Int) = (((x + S % 2) % 2 : Nat) : Int)) := by
    show bits .xor .i64 (x : Int) (r : Int) = _
    rw [i64_xor_nat x r (by omega) (by omega), ← hr]
    have h2 : r = 0 ∨ r = 1 := by omega
    have h3 : x = 0 ∨ x = 1 := by omega
    rcases h2 with h2 | h2 <;> rcases h3 with h3 | h3 <;> subst h2 <;> subst h3 <;> rfl
  clear hr
  go_enter Tryz.func80, Tryz.ntmps80
  go_wp2
  go_ret
  refine ⟨ret_int ?_, rfl⟩
  rw [H2.out]; simp

theorem add_step (f : Nat → Nat) (k x : Nat) (hx : f k = x) (hx1 : x ≤ 1) (hk : k ≤ 10) : ((packN f k : Nat) : Int) + wrap64 ((x : Int) * 2 ^ k) = (packN f (k + 1) : Nat) := by
  subst hx
  rw [shl_small (f k) k hx1 hk]
  simp only [packN]
  exact (Int.natCast_add _ _).symm

set_option maxHeartbeats 400000 in
set_option maxRecDepth 100000 in
theorem begin_any (v0 : Value) (la : Option Addr) (lc : Nat) (v2 v3 : Value) (ls : List (Int × Int)) (w : World) (h2 : ls.length ≤ 4)
    (hL : PairsAt w la ls) (hi : ∀ i, i < ls.length → inB (ls.getD i (0, 0)).2 1 = true) :
    Calls Tryz.prog 52 #[.agg #[v0, .slice la ls.length lc, v2, v3]] w fun e w' =>
      e = .returned (.int .i64 (startOf ls ls.length : Nat)) ∧ Below w.heap.size w w' := by
  have bel0 : Below w.heap.size w (w.alloc (.cells #[v0, .slice la ls.length lc, v2, v3] 34)) := (Below.refl _ _).alloc (Nat.le_refl _) _
  obtain ⟨W, hW⟩ : ∃ W, W = w.alloc (.cells #[v0, .slice la ls.length lc, v2, v3] 34) := ⟨_, rfl⟩
  have q1 : W.cell? ⟨w.heap.size, 1, none⟩ = some (.slice la ls.length lc) := by rw [hW]; simp
  have hL0 := hL.below bel0
  rw [← hW] at hL0 bel0
  go_enter Tryz.func52, Tryz.ntmps52
  go_wp2
  rw [← hW]
  clear hW
  go_loop [3, 4] (fun st i => ∃ k : Nat, k ≤ ls.length ∧ i = .int .i64 k ∧ st = .int .i64 (startOf ls k : Nat)) (fun _ i => ls.length - (intOf i).toNat)
  case atStart => exact ⟨0, Nat.zero_le _, rfl, rfl⟩
  case round =>
    obtain ⟨k, hk, rfl, rfl⟩ := hrel
    by_cases hk2 : k < ls.length
    · obtain ⟨b, off, rfl, hlt, hc⟩ := hL0.get (by omega)
      have hcz := (hc k hk2).2
      have hq := inB_pos (hi k hk2)
      obtain ⟨x, hX⟩ : ∃ x, x = ls.getD k (0, 0) := ⟨_, rfl⟩
      rw [← hX] at hcz hq
      obtain ⟨x1, x2⟩ := x
      dsimp only at hcz hq
      obtain ⟨X2, rfl⟩ := Int.eq_ofNat_of_zero_le hq.1
      have hf : (fun i => (ls.getD i (0, 0)).2.toNat % 2) k = X2 := by show (ls.getD k (0, 0)).2.toNat % 2 = X2; rw [← hX]; dsimp only; omega
      have hX2 : X2 ≤ 1 := by omega
      have HS : Hid ((startOf ls k : Nat) + wrap64 ((X2 : Int) * 2 ^ k) = (startOf ls (k + 1) : Nat)) := add_step _ k X2 hf hX2 (by omega)
      have hlt' := startOf_lt ls k
      have hp : (2 : Nat) ^ k ≤ 2 ^ 4 := Nat.pow_le_pow_right (by omega) (by omega)
      have hst : startOf ls k ≤ 16 := by omega
      have hw2 : 0 ≤ wrap64 ((X2 : Int) * 2 ^ k) ∧ wrap64 ((X2 : Int) * 2 ^ k) ≤ 16 := by
        rw [shl_small X2 k hX2 (by omega)]
        have : X2 * 2 ^ k ≤ 1 * 2 ^ k := Nat.mul_le_mul_right _ hX2
        omega
      clear hX hc hf hq hi hlt' hp
      go_wp2
      go_round
      case rel => exact ⟨k + 1, by omega, by go_num, congrArg (Value.int .i64) HS.out⟩
      case measure => simp [intOf]; omega
    · clear hi
      go_wp2
      go_ret
      exact ⟨ret_int (by rw [show k = ls.length by omega]), bel0⟩

end Go.Proofs.YtgpaajdfkekjiaaGreatDoor
