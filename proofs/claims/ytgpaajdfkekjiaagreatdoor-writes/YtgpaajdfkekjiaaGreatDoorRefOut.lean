/-
  What outputs and behind of package latchref answer of a right circuit.
-/
import Derived.Test.YtgpaajdfkekjiaaGreatDoorRefVals
namespace Go.Proofs.YtgpaajdfkekjiaaGreatDoor
open Go.RowKit

theorem shl_val (A k : Nat) (hA : A ≤ 1) (hk : k ≤ 4) : ∃ Z : Nat, wrap64 ((A : Int) * 2 ^ k) = (Z : Int) ∧ Z ≤ 16 := by
  refine ⟨A * 2 ^ k, shl_small A k hA (by omega), ?_⟩
  have hp : (2 : Nat) ^ k ≤ 2 ^ 4 := Nat.pow_le_pow_right (by omega) hk
  have : A * 2 ^ k ≤ 1 * 2 ^ k := Nat.mul_le_mul_right _ hA
  omega

set_option maxHeartbeats 400000 in
set_option maxRecDepth 100000 in
theorem refOutputs_any (n st inp : Nat) (la ga oa : Option Addr) (lc gc oc : Nat) (ln : Nat) (gs : List (Int × Int)) (os : List Int) (w : World) (h1 : n ≤ 4) (h2 : ln ≤ 4) (h3 : gs.length ≤ 30) (h4 : os.length ≤ 4) (hs : st < 16) (hn : inp < 16)
    (hG : PairsAt w ga gs) (hO : IntsAt w oa os) (hg : ∀ i, i < gs.length → gateOk (n + ln + (i : Nat)) (gs.getD i (0, 0)) = true)
    (ho : ∀ i, i < os.length → inB (os.getD i 0) (2 * (n + ln + gs.length) + 1) = true) :
    Calls Tryz.prog 53 #[.agg #[.int .i64 n, .slice la ln lc, .slice ga gs.length gc, .slice oa os.length oc], .int .i64 inp, .int .i64 st] w fun e w' =>
      e = .returned (.int .i64 (outOf os (vals n ln gs st inp) os.length : Nat)) ∧ Below w.heap.size w w' := by
  have bel0 : Below w.heap.size w (w.alloc (.cells #[.int .i64 n, .slice la ln lc, .slice ga gs.length gc, .slice oa os.length oc] 34)) := (Below.refl _ _).alloc (Nat.le_refl _) _
  have hG0 := hG.below bel0
  obtain ⟨V, hV⟩ : ∃ V, V = vals n ln gs st inp := ⟨_, rfl⟩
  have hVl : V.length = n + ln + gs.length + 1 := by rw [hV, vals_len]
  have hV1 : ∀ x ∈ V, x ≤ 1 := by rw [hV]; exact vals_01 _ _ _ _ _
  rw [← hV]
  have HV : Hid (V = vals n ln gs st inp) := hV
  have HVl : Hid (V.length = n + ln + gs.length + 1) := hVl
  clear hV hVl
  go_enter Tryz.func53, Tryz.ntmps53
  go_wp2_with (go_at_call 79; refine (refValues_any n st inp la ga lc gc _ ln gs _ h1 h2 h3 hs hn hG0 hg).mono ?_; rintro e w1 ⟨g, cap, rfl, hown, hb1⟩; rw [← HV.out] at hown)
  have c1 := (bcell hb1).1
  have hb0 : Below w.heap.size w w1 := bel0.trans (hb1.mono (by simp))
  have q3 : w1.cell? ⟨w.heap.size, 3, none⟩ = some (.slice oa os.length oc) := by rw [c1 _ _ (by simp)]; simp
  clear c1 bel0 hG0 hG hg
  go_loop [8, 9] (fun v i => ∃ k : Nat, k ≤ os.length ∧ i = .int .i64 k ∧ v = .int .i64 (outOf os V k : Nat)) (fun _ i => os.length - (intOf i).toNat)
  case atStart => exact ⟨0, Nat.zero_le _, rfl, rfl⟩
  case round =>
    obtain ⟨k, hk, rfl, rfl⟩ := hrel
    by_cases hk2 : k < os.length
    · obtain ⟨b, off, rfl, hlt, hc⟩ := hO.get (by omega)
      have hcy : w1.cell? ⟨b, off + k, none⟩ = some (.int .i64 (os.getD k 0)) := (hb0.cell (p := ⟨b, _, none⟩) hlt).trans (hc k hk2)
      have hq := inB_pos (ho k hk2)
      obtain ⟨x, hX⟩ : ∃ x, x = os.getD k 0 := ⟨_, rfl⟩
      rw [← hX] at hcy hq
      obtain ⟨x0, x1⟩ := hq
      obtain ⟨A, hA⟩ : ∃ A, sigv x V = A := ⟨_, rfl⟩
      have hA1 : A ≤ 1 := hA ▸ sigv_le x V
      have hf : (fun i => sigv (os.getD i 0) V) k = A := by show sigv (os.getD k 0) V = A; rw [← hX, hA]
      have HS : Hid ((outOf os V k : Nat) + wrap64 ((A : Int) * 2 ^ k) = (outOf os V (k + 1) : Nat)) := add_step _ k A hf hA1 (by omega)
      have HA : Hid (sigv x V = A) := hA
      have hl1 : x / 2 < ((n + ln + gs.length + 1 : Nat) : Int) := by omega
      have hlt' := outOf_lt os V k
      have hp : (2 : Nat) ^ k ≤ 2 ^ 4 := Nat.pow_le_pow_right (by omega) (by omega)
      have hst : outOf os V k ≤ 16 := by omega
      obtain ⟨Z, hZ, hZ16⟩ := shl_val A k hA1 (by omega)
      obtain ⟨O, hOO⟩ : ∃ O, O = outOf os V k := ⟨_, rfl⟩
      have HS' : Hid ((O : Int) + (Z : Int) = (outOf os V (k + 1) : Nat)) := by have := HS.out; rw [hZ, ← hOO] at this; exact this
      rw [← hOO] at hst
      rw [← hOO]
      clear hOO HS
      clear hX hA hf hc ho x1 hlt' hp
      go_wp2_with (go_at_call 80; refine (of_is _ x0 hl1 (by omega) HVl.out.symm hV1 hown HA.out).mono ?_; rintro e w' ⟨rfl, hw⟩; have hw := hw.symm; subst hw)
      go_round
      case rel => exact ⟨k + 1, by omega, by go_num, congrArg (Value.int .i64) HS'.out⟩
      case measure => simp [intOf]; omega
    · obtain rfl : k = os.length := by omega
      go_wp2
      go_ret
      exact ⟨rfl, hb0⟩

set_option maxHeartbeats 400000 in
set_option maxRecDepth 100000 in
theorem behind_any (n st inp : Nat) (la ga : Option Addr) (lc gc : Nat) (v3 : Value) (ls gs : List (Int × Int)) (w : World) (h1 : n ≤ 4) (h2 : ls.length ≤ 4) (h3 : gs.length ≤ 30) (hs : st < 16) (hn : inp < 16)
    (hL : PairsAt w la ls) (hG : PairsAt w ga gs) (hg : ∀ i, i < gs.length → gateOk (n + ls.length + (i : Nat)) (gs.getD i (0, 0)) = true)
    (hl : ∀ i, i < ls.length → inB (ls.getD i (0, 0)).1 (2 * (n + ls.length + gs.length) + 1) = true) :
    Calls Tryz.prog 54 #[.agg #[.int .i64 n, .slice la ls.length lc, .slice ga gs.length gc, v3], .int .i64 inp, .int .i64 st] w fun e w' =>
      e = .returned (.int .i64 (nextOf ls (vals n ls.length gs st inp) ls.length : Nat)) ∧ Below w.heap.size w w' := by
  have bel0 : Below w.heap.size w (w.alloc (.cells #[.int .i64 n, .slice la ls.length lc, .slice ga gs.length gc, v3] 34)) := (Below.refl _ _).alloc (Nat.le_refl _) _
  have hG0 := hG.below bel0
  obtain ⟨V, hV⟩ : ∃ V, V = vals n ls.length gs st inp := ⟨_, rfl⟩
  have hVl : V.length = n + ls.length + gs.length + 1 := by rw [hV, vals_len]
  have hV1 : ∀ x ∈ V, x ≤ 1 := by rw [hV]; exact vals_01 _ _ _ _ _
  rw [← hV]
  have HV : Hid (V = vals n ls.length gs st inp) := hV
  have HVl : Hid (V.length = n + ls.length + gs.length + 1) := hVl
  clear hV hVl
  go_enter Tryz.func54, Tryz.ntmps54
  go_wp2_with (go_at_call 79; refine (refValues_any n st inp la ga lc gc _ ls.length gs _ h1 h2 h3 hs hn hG0 hg).mono ?_; rintro e w1 ⟨g, cap, rfl, hown, hb1⟩; rw [← HV.out] at hown)
  have c1 := (bcell hb1).1
  have hb0 : Below w.heap.size w w1 := bel0.trans (hb1.mono (by simp))
  have q1 : w1.cell? ⟨w.heap.size, 1, none⟩ = some (.slice la ls.length lc) := by rw [c1 _ _ (by simp)]; simp
  clear c1 bel0 hG0 hG hg
  go_loop [8, 9] (fun v i => ∃ k : Nat, k ≤ ls.length ∧ i = .int .i64 k ∧ v = .int .i64 (nextOf ls V k : Nat)) (fun _ i => ls.length - (intOf i).toNat)
  case atStart => exact ⟨0, Nat.zero_le _, rfl, rfl⟩
  case round =>
    obtain ⟨k, hk, rfl, rfl⟩ := hrel
    by_cases hk2 : k < ls.length
    · obtain ⟨b, off, rfl, hlt, hc⟩ := hL.get (by omega)
      have hcy : w1.cell? ⟨b, off + k * 2, none⟩ = some (.int .i64 (ls.getD k (0, 0)).1) := (hb0.cell (p := ⟨b, _, none⟩) hlt).trans (hc k hk2).1
      have hq := inB_pos (hl k hk2)
      obtain ⟨x, hX⟩ : ∃ x, x = (ls.getD k (0, 0)).1 := ⟨_, rfl⟩
      rw [← hX] at hcy hq
      obtain ⟨x0, x1⟩ := hq
      obtain ⟨A, hA⟩ : ∃ A, sigv x V = A := ⟨_, rfl⟩
      have hA1 : A ≤ 1 := hA ▸ sigv_le x V
      have hf : (fun i => sigv (ls.getD i (0, 0)).1 V) k = A := by show sigv (ls.getD k (0, 0)).1 V = A; rw [← hX, hA]
      have HS : Hid ((nextOf ls V k : Nat) + wrap64 ((A : Int) * 2 ^ k) = (nextOf ls V (k + 1) : Nat)) := add_step _ k A hf hA1 (by omega)
      have HA : Hid (sigv x V = A) := hA
      have hl1 : x / 2 < ((n + ls.length + gs.length + 1 : Nat) : Int) := by omega
      have hlt' := nextOf_lt ls V k
      have hp : (2 : Nat) ^ k ≤ 2 ^ 4 := Nat.pow_le_pow_right (by omega) (by omega)
      have hst : nextOf ls V k ≤ 16 := by omega
      obtain ⟨Z, hZ, hZ16⟩ := shl_val A k hA1 (by omega)
      obtain ⟨O, hOO⟩ : ∃ O, O = nextOf ls V k := ⟨_, rfl⟩
      have HS' : Hid ((O : Int) + (Z : Int) = (nextOf ls V (k + 1) : Nat)) := by have := HS.out; rw [hZ, ← hOO] at this; exact this
      rw [← hOO] at hst
      rw [← hOO]
      clear hOO HS
      clear hX hA hf hc hl x1 hlt' hp
      go_wp2_with (go_at_call 80; refine (of_is _ x0 hl1 (by omega) HVl.out.symm hV1 hown HA.out).mono ?_; rintro e w' ⟨rfl, hw⟩; have hw := hw.symm; subst hw)
      go_round
      case rel => exact ⟨k + 1, by omega, by go_num, congrArg (Value.int .i64) HS'.out⟩
      case measure => simp [intOf]; omega
    · obtain rfl : k = ls.length := by omega
      go_wp2
      go_ret
      exact ⟨rfl, hb0⟩

end Go.Proofs.YtgpaajdfkekjiaaGreatDoor
