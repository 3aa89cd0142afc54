/-
  What valueOf and Input of package circuit answer. No condition but those named.
  What rightInputs of package latch answers of any inputs whose list can be read.
  What Start of package circuit answers of a right circuit: its first state.
-/
import Derived.Test.YtgpaajdfkekjiaaDoorLeaf
import Derived.Test.YtgpaajdfkekjiaaDoorMRight
namespace Go.Proofs.YtgpaajdfkekjiaaDoor
open Go.RowKit

/-- 'valueOf' of a signal of a variable that has a value. -/
theorem valueOf_any (s : Int) (b off len cap : Nat) (vs : List Nat) (w : World) (h0 : 0 ≤ s) (hl : s / 2 < len) (hlen : len ≤ 1000) (hv : len = vs.length)
    (h01 : ∀ x ∈ vs, x ≤ 1) (hc : ∀ j, j < len → w.cell? ⟨b, off + j, none⟩ = some (.int .i64 ((vs.getD j 0 : Nat) : Int))) :
    Calls Tryd.prog 45 #[.int .i64 s, .slice (some ⟨b, off, none⟩) len cap] w fun e w' => e = .returned (.int .i64 (sigv s vs : Nat)) ∧ w' = w := by
  have hcell := hc (s / 2).toNat (by omega)
  have hx : vs.getD (s / 2).toNat 0 ≤ 1 := by
    have hlt : (s / 2).toNat < vs.length := by omega
    rw [List.getD_eq_getElem?_getD, List.getElem?_eq_getElem hlt]
    exact h01 _ (List.getElem_mem hlt)
  obtain ⟨x, hX⟩ : ∃ x, x = vs.getD (s / 2).toNat 0 := ⟨_, rfl⟩
  have hs : sigv s vs = (x + s.toNat % 2) % 2 := by unfold sigv; rw [hX]
  rw [← hX] at hcell hx
  rw [hs]
  clear hX hs hc h01 hv
  obtain ⟨S, rfl⟩ := Int.eq_ofNat_of_zero_le h0
  have eS : ((S : Int) / 2).toNat = S / 2 := by omega
  rw [eS] at hcell
  clear eS
  have e1 : bits .and .i64 (S : Int) 1 = ((S % 2 : Nat) : Int) := i64_and1 S (by omega)
  have e2 : bits .xor .i64 (x : Int) ((S % 2 : Nat) : Int) = (((x + S % 2) % 2 : Nat) : Int) := by
    rw [i64_xor_nat x (S % 2) (by omega) (by omega)]
    have h2 : S % 2 = 0 ∨ S % 2 = 1 := by omega
    have h3 : x = 0 ∨ x = 1 := by omega
    rcases h2 with h2 | h2 <;> rcases h3 with h3 | h3 <;> subst h3 <;> rw [h2] <;> rfl
  have E1 := e1
  have H2 : Hid (bits .xor .i64 (x : Int) ((S % 2 : Nat) : Int) = (((x + S % 2) % 2 : Nat) : Int)) := e2
  have H1 : Hid (bits .and .i64 (S : Int) 1 = ((S % 2 : Nat) : Int)) := e1
  clear e1 e2 E1
  go_enter Tryd.func45, Tryd.ntmps45
  go_wp2
  go_ret
  refine ⟨ret_int ?_, rfl⟩
  rw [H1.out, H2.out]; simp

theorem input_any (n : Nat) (v1 v2 v3 : Value) (x : Int) (w : World) (h1 : n ≤ 4) :
    Calls Tryd.prog 43 #[.agg #[.int .i64 n, v1, v2, v3], .int .i64 x] w fun e w' => e = .returned (.bool (inB x (2 ^ n - 1))) ∧ Below w.heap.size w w' := by
  go_enter Tryd.func43, Tryd.ntmps43
  go_wp2_with (go_at_call 51; refine (within_any _ _ _).mono ?_; rintro e w' ⟨rfl, rfl⟩)
  go_ret
  refine ⟨ret_bool ?_, (Below.refl _ _).alloc (Nat.le_refl _) _⟩
  have h : n = 0 ∨ n = 1 ∨ n = 2 ∨ n = 3 ∨ n = 4 := by omega
  rcases h with h | h | h | h | h <;> subst h <;> simp [wrap64]

theorem input_is {n : Nat} {v1 v2 v3 : Value} {x : Int} {b : Bool} (w : World) (h1 : n ≤ 4) (h : inB x (2 ^ n - 1) = b) :
    Calls Tryd.prog 43 #[.agg #[.int .i64 n, v1, v2, v3], .int .i64 x] w fun e w' => e = .returned (.bool b) ∧ Below w.heap.size w w' := by
  subst h; exact input_any n v1 v2 v3 x w h1

end Go.Proofs.YtgpaajdfkekjiaaDoor

namespace Go.Proofs.YtgpaajdfkekjiaaDoor
open Go.RowKit

set_option maxHeartbeats 1000000 in
theorem rightInputs_any (n : Nat) (v1 v2 v3 : Value) (ia : Option Addr) (ic : Nat) (ins : List Int) (w : World) (h1 : n ≤ 4) (hm : ins.length ≤ maxLen) (hI : IntsAt w ia ins) :
    Calls Tryd.prog 23 #[.agg #[.int .i64 n, v1, v2, v3], .slice ia ins.length ic] w fun e w' =>
      e = .returned (.bool (inputsB n ins)) ∧ Below w.heap.size w w' := by
  unfold maxLen at hm
  by_cases h50 : 50 < ins.length
  · go_enter Tryd.func23, Tryd.ntmps23
    go_wp2
    go_ret
    exact ⟨ret_bool (by unfold inputsB; exact (decide_eq_false (by omega)).symm), (Below.refl _ _).alloc (Nat.le_refl _) _⟩
  · rcases hI with rfl | ⟨b, off, rfl, hlt, hc⟩
    · go_enter Tryd.func23, Tryd.ntmps23
      go_wp2
      refine wp_loop_rounds 1 ?_
      rw [rounds_succ]
      go_wp2
      go_ret
      exact ⟨rfl, (Below.refl _ _).alloc (Nat.le_refl _) _⟩
    · have bel0 : Below w.heap.size w (w.alloc (.cells #[.int .i64 n, v1, v2, v3] 26)) := (Below.refl _ _).alloc (Nat.le_refl _) _
      go_enter Tryd.func23, Tryd.ntmps23
      go_wp2
      go_loopw [6, 12] (fun _ i wr => ∃ k : Nat, k ≤ ins.length ∧ i = .int .i64 k ∧ (∀ j, j < k → inB (ins.getD j 0) (2 ^ n - 1) = true) ∧
          wr.cell? ⟨w.heap.size, 0, none⟩ = some (.int .i64 n) ∧ wr.cell? ⟨w.heap.size, 1, none⟩ = some v1 ∧ wr.cell? ⟨w.heap.size, 2, none⟩ = some v2 ∧
          wr.cell? ⟨w.heap.size, 3, none⟩ = some v3 ∧ w.heap.size < wr.heap.size ∧ Below w.heap.size w wr)
        (fun _ i _ => ins.length - (intOf i).toNat)
      case atStart => exact ⟨0, Nat.zero_le _, rfl, fun j hj => absurd hj (Nat.not_lt_zero j), by simp, by simp, by simp, by simp, by simp, bel0⟩
      case round =>
        obtain ⟨k, hk, rfl, hall, q0, q1, q2, q3, hz, hbel⟩ := hrel
        have HA : Hid (∀ j, j < k → inB (ins.getD j 0) (2 ^ n - 1) = true) := hall
        clear hall
        by_cases hk2 : k < ins.length
        · have hcy : wr.cell? ⟨b, off + k, none⟩ = some (.int .i64 (ins.getD k 0)) := (hbel.cell (p := ⟨b, _, none⟩) hlt).trans (hc k hk2)
          obtain ⟨x, hX⟩ : ∃ x, x = ins.getD k 0 := ⟨_, rfl⟩
          rw [← hX] at hcy
          have HX : Hid (x = ins.getD k 0) := hX
          clear hX hc
          cases hq : inB x (2 ^ n - 1)
          · go_wp2_with (go_at_call 43; refine (input_is _ h1 hq).mono ?_; rintro e w1 ⟨rfl, b1⟩)
            go_ret
            exact ⟨ret_bool (by unfold inputsB; exact (decide_eq_false (fun hh => by have := hh.2 k hk2; rw [← HX.out, hq] at this; cases this)).symm), hbel.trans (b1.mono (by omega))⟩
          · go_wp2_with (go_at_call 43; refine (input_is _ h1 hq).mono ?_; rintro e w1 ⟨rfl, b1⟩)
            go_roundw
            case rel => exact ⟨k + 1, by omega, by go_num, all_succ HA.out (by rw [← HX.out]; exact hq), by rw [(bcell b1).1 _ _ hz]; exact q0, by rw [(bcell b1).1 _ _ hz]; exact q1, by rw [(bcell b1).1 _ _ hz]; exact q2, by rw [(bcell b1).1 _ _ hz]; exact q3, Nat.lt_of_lt_of_le hz b1.size, hbel.trans (b1.mono (by omega))⟩
            case measure => simp [intOf]; omega
        · clear hc
          go_wp2
          go_ret
          exact ⟨ret_bool (by unfold inputsB; exact (decide_eq_true ⟨by omega, fun i hi => HA.out i (by omega)⟩).symm), hbel⟩

end Go.Proofs.YtgpaajdfkekjiaaDoor

namespace Go.Proofs.YtgpaajdfkekjiaaDoor
open Go.RowKit

theorem shl_small (x k : Nat) (hx : x ≤ 1) (hk : k ≤ 10) : wrap64 ((x : Int) * 2 ^ k) = ((x * 2 ^ k : Nat) : Int) := by
  have h : k = 0 ∨ k = 1 ∨ k = 2 ∨ k = 3 ∨ k = 4 ∨ k = 5 ∨ k = 6 ∨ k = 7 ∨ k = 8 ∨ k = 9 ∨ k = 10 := by omega
  have h3 : x = 0 ∨ x = 1 := by omega
  rcases h with h | h | h | h | h | h | h | h | h | h | h <;> rcases h3 with h3 | h3 <;> subst h <;> subst h3 <;> simp [wrap64]

/-- One more bit. -/
theorem pack_step (f : Nat → Nat) (hf : ∀ k, f k ≤ 1) (k x : Nat) (hk : k ≤ 10) (hx : f k = x) : bits .or .i64 (packN f k : Nat) (wrap64 ((x : Int) * 2 ^ k)) = (packN f (k + 1) : Nat) := by
  subst hx
  have hp : (2 : Nat) ^ k ≤ 2 ^ 10 := Nat.pow_le_pow_right (by omega) hk
  have h1 : packN f k < 2 ^ k := packN_lt f hf k
  have h2 : f k * 2 ^ k ≤ 1 * 2 ^ k := Nat.mul_le_mul_right _ (hf k)
  rw [shl_small (f k) k (hf k) hk, i64_or_nat _ _ (by omega) (by omega), packN_or f hf k]

theorem startOf_lt (ls : List (Int × Int)) (k : Nat) : startOf ls k < 2 ^ k := packN_lt _ (fun _ => by omega) k

set_option maxHeartbeats 1000000 in
theorem start_any (v0 : Value) (la : Option Addr) (lc : Nat) (v2 v3 : Value) (ls : List (Int × Int)) (w : World) (h2 : ls.length ≤ 4)
    (hL : PairsAt w la ls) (hi : ∀ i, i < ls.length → inB (ls.getD i (0, 0)).2 1 = true) :
    Calls Tryd.prog 24 #[.agg #[v0, .slice la ls.length lc, v2, v3]] w fun e w' =>
      e = .returned (.int .i64 (startOf ls ls.length : Nat)) ∧ Below w.heap.size w w' := by
  rcases hL with rfl | ⟨b, off, rfl, hlt, hc⟩
  · go_enter Tryd.func24, Tryd.ntmps24
    go_wp2
    refine wp_loop_rounds 1 ?_
    rw [rounds_succ]
    go_wp2
    go_ret
    exact ⟨rfl, (Below.refl _ _).alloc (Nat.le_refl _) _⟩
  · go_enter Tryd.func24, Tryd.ntmps24
    go_wp2
    go_loopw [3, 4, 5, 9] (fun st _ _ i wr => ∃ k : Nat, k ≤ ls.length ∧ i = .int .i64 k ∧ st = .int .i64 (startOf ls k : Nat) ∧ w.heap.size < wr.heap.size ∧ Below w.heap.size w wr)
      (fun _ _ _ i _ => ls.length - (intOf i).toNat)
    case atStart => exact ⟨0, Nat.zero_le _, rfl, rfl, by simp, (Below.refl _ _).alloc (Nat.le_refl _) _⟩
    case round =>
      obtain ⟨k, hk, rfl, rfl, hz, hbel⟩ := hrel
      by_cases hk2 : k < ls.length
      · have hcy : wr.cell? ⟨b, off + k * 2, none⟩ = some (.int .i64 (ls.getD k (0, 0)).1) := (hbel.cell (p := ⟨b, _, none⟩) hlt).trans (hc k hk2).1
        have hcz : wr.cell? ⟨b, off + k * 2 + 1, none⟩ = some (.int .i64 (ls.getD k (0, 0)).2) := (hbel.cell (p := ⟨b, _, none⟩) hlt).trans (hc k hk2).2
        have hq := inB_pos (hi k hk2)
        obtain ⟨x, hX⟩ : ∃ x, x = ls.getD k (0, 0) := ⟨_, rfl⟩
        rw [← hX] at hcy hcz hq
        obtain ⟨x1, x2⟩ := x
        dsimp only at hcy hcz hq
        obtain ⟨X2, rfl⟩ := Int.eq_ofNat_of_zero_le hq.1
        have hf : (fun i => (ls.getD i (0, 0)).2.toNat % 2) k = X2 := by show (ls.getD k (0, 0)).2.toNat % 2 = X2; rw [← hX]; dsimp only; omega
        have HS : Hid (bits .or .i64 (startOf ls k : Nat) (wrap64 ((X2 : Int) * 2 ^ k)) = (startOf ls (k + 1) : Nat)) := pack_step _ (fun _ => by omega) k X2 (by omega) hf
        have HX : Hid ((x1, (X2 : Int)) = ls.getD k (0, 0)) := hX
        have hX2 : X2 ≤ 1 := by omega
        clear hX hc hf hq hi
        go_wp2
        go_roundw
        case rel => exact ⟨k + 1, by omega, by go_num, congrArg (Value.int .i64) HS.out, by simp; omega, hbel.alloc (by omega) _⟩
        case measure => simp [intOf]; omega
      · clear hc hi
        go_wp2
        go_ret
        exact ⟨ret_int (by rw [show k = ls.length by omega]), hbel⟩

end Go.Proofs.YtgpaajdfkekjiaaDoor
