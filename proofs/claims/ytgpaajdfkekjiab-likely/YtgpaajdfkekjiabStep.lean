/-
  What Step of package circuit answers of a right circuit: the outputs of the step and the state behind it.
-/
import Derived.Test.YtgpaajdfkekjiabVals
namespace Go.Proofs.Ytgpaajdfkekjiab
open Go.RowKit

theorem vals_len (n nl : Nat) (gs : List (Int × Int)) (st inp : Nat) : (vals n nl gs st inp).length = n + nl + gs.length + 1 := by
  unfold vals; rw [gateVals_len, baseVals_len]; omega
theorem vals_01 (n nl : Nat) (gs : List (Int × Int)) (st inp : Nat) : ∀ x ∈ vals n nl gs st inp, x ≤ 1 := gateVals_01 gs _ (baseVals_01 _ _ _ _) _

theorem outOf_lt (os : List Int) (vs : List Nat) (k : Nat) : outOf os vs k < 2 ^ k := packN_lt _ (fun _ => sigv_le _ _) k
theorem nextOf_lt (ls : List (Int × Int)) (vs : List Nat) (k : Nat) : nextOf ls vs k < 2 ^ k := packN_lt _ (fun _ => sigv_le _ _) k

set_option maxHeartbeats 1000000 in
set_option maxRecDepth 100000 in
theorem step_any (n st inp : Nat) (la ga oa : Option Addr) (lc gc oc : Nat) (ls gs : List (Int × Int)) (os : List Int) (w : World) (h1 : n ≤ 4) (h2 : ls.length ≤ 4) (h3 : gs.length ≤ 30) (h4 : os.length ≤ 4) (hs : st < 16) (hn : inp < 16)
    (hL : PairsAt w la ls) (hG : PairsAt w ga gs) (hO : IntsAt w oa os)
    (hg : ∀ i, i < gs.length → gateOk (n + ls.length + (i : Nat)) (gs.getD i (0, 0)) = true)
    (hl : ∀ i, i < ls.length → inB (ls.getD i (0, 0)).1 (2 * (n + ls.length + gs.length) + 1) = true)
    (ho : ∀ i, i < os.length → inB (os.getD i 0) (2 * (n + ls.length + gs.length) + 1) = true) :
    Calls Try.prog 15 #[.agg #[.int .i64 n, .slice la ls.length lc, .slice ga gs.length gc, .slice oa os.length oc], .int .i64 st, .int .i64 inp] w fun e w' =>
      e = .returned (.tuple #[.int .i64 (outOf os (vals n ls.length gs st inp) os.length : Nat), .int .i64 (nextOf ls (vals n ls.length gs st inp) ls.length : Nat)]) ∧ Below w.heap.size w w' := by
  have bel0 : Below w.heap.size w (w.alloc (.cells #[.int .i64 n, .slice la ls.length lc, .slice ga gs.length gc, .slice oa os.length oc] 26)) := (Below.refl _ _).alloc (Nat.le_refl _) _
  have hG0 := hG.below bel0
  obtain ⟨V, hV⟩ : ∃ V, V = vals n ls.length gs st inp := ⟨_, rfl⟩
  have hVl : V.length = n + ls.length + gs.length + 1 := by rw [hV, vals_len]
  have hV1 : ∀ x ∈ V, x ≤ 1 := by rw [hV]; exact vals_01 _ _ _ _ _
  rw [← hV]
  have HV : Hid (V = vals n ls.length gs st inp) := hV
  have HVl : Hid (V.length = n + ls.length + gs.length + 1) := hVl
  clear hV hVl
  go_enter Try.func15, Try.ntmps15
  go_wp2_with (go_at_call 23; refine (valuesIn_any n st inp la ga lc gc oa os.length oc ls.length gs _ h1 h2 h3 hs hn hG0 hg).mono ?_; rintro e w1 ⟨g, cap, rfl, hown, hb1⟩; have c1 := (bcell hb1).1; rw [← HV.out] at hown)
  have z1 : w.heap.size < w1.heap.size := Nat.lt_of_lt_of_le (by simp) hb1.size
  have hb0 : Below w.heap.size w w1 := bel0.trans (hb1.mono (by simp))
  have q1 : w1.cell? ⟨w.heap.size, 1, none⟩ = some (.slice la ls.length lc) := by rw [c1 _ _ (by simp)]; simp
  clear c1 bel0 hG0 hG hg
  go_loop [6, 9, 10, 20] (fun v _ _ i => ∃ k : Nat, k ≤ os.length ∧ i = .int .i64 k ∧ v = .int .i64 (outOf os V k : Nat)) (fun _ _ _ i => os.length - (intOf i).toNat)
  case atStart => exact ⟨0, Nat.zero_le _, rfl, rfl⟩
  case round =>
    obtain ⟨k, hk, rfl, rfl⟩ := hrel
    by_cases hk2 : k < os.length
    · obtain ⟨b, off, rfl, hlt, hc⟩ := hO.get (by omega)
      have hcy : w1.cell? ⟨b, off + k, none⟩ = some (.int .i64 (os.getD k 0)) := (hb0.cell (p := ⟨b, _, none⟩) hlt).trans (hc k hk2)
      have hq := inB_pos (ho k hk2)
      obtain ⟨x, hX⟩ : ∃ x, x = os.getD k 0 := ⟨_, rfl⟩
      rw [← hX] at hcy hq
      obtain ⟨x0, x1⟩ := hq
      obtain ⟨A, hA⟩ : ∃ A, sigv x V = A := ⟨_, rfl⟩
      have hA1 : A ≤ 1 := hA ▸ sigv_le x V
      have hf : (fun i => sigv (os.getD i 0) V) k = A := by show sigv (os.getD k 0) V = A; rw [← hX, hA]
      have HS : Hid (bits .or .i64 (outOf os V k : Nat) (wrap64 ((A : Int) * 2 ^ k)) = (outOf os V (k + 1) : Nat)) := pack_step _ (fun _ => sigv_le _ _) k A (by omega) hf
      have HA : Hid (sigv x V = A) := hA
      have hl1 : x / 2 < ((n + ls.length + gs.length + 1 : Nat) : Int) := by omega
      clear hX hA hf hc ho hl x1
      go_wp2_with (go_at_call 24; refine (valueOf_is _ x0 hl1 (by omega) HVl.out.symm hV1 hown HA.out).mono ?_; rintro e w' ⟨rfl, rfl⟩)
      go_round
      case rel => exact ⟨k + 1, by omega, by go_num, congrArg (Value.int .i64) HS.out⟩
      case measure => simp [intOf]; omega
    · obtain rfl : k = os.length := by omega
      go_wp2
      go_loopw [7, 11, 12, 36] (fun v _ _ i wr => ∃ j : Nat, j ≤ ls.length ∧ i = .int .i64 j ∧ v = .int .i64 (nextOf ls V j : Nat) ∧ wr.ownsRow (w.heap.size + 1) 3 1 (.slice (some ⟨g, 0, none⟩) (n + ls.length + gs.length + 1) cap) (n + ls.length + gs.length + 1) (ivals V) ∧ w.heap.size < wr.heap.size ∧ Below w.heap.size w wr)
        (fun _ _ _ i _ => ls.length - (intOf i).toNat)
      case atStart => exact ⟨0, Nat.zero_le _, rfl, rfl, by simpa using hown, z1, hb0⟩
      case round =>
        clear hown z1 hb0 q1 ho hO hb1
        obtain ⟨j, hj, rfl, rfl, hown, hz, hbel⟩ := hrel
        by_cases hj2 : j < ls.length
        · obtain ⟨b, off, rfl, hlt, hc⟩ := hL.get (by omega)
          have hcy : wr.cell? ⟨b, off + j * 2, none⟩ = some (.int .i64 (ls.getD j (0, 0)).1) := (hbel.cell (p := ⟨b, _, none⟩) hlt).trans (hc j hj2).1
          have hcz : wr.cell? ⟨b, off + j * 2 + 1, none⟩ = some (.int .i64 (ls.getD j (0, 0)).2) := (hbel.cell (p := ⟨b, _, none⟩) hlt).trans (hc j hj2).2
          have hq := inB_pos (hl j hj2)
          obtain ⟨x, hX⟩ : ∃ x, x = ls.getD j (0, 0) := ⟨_, rfl⟩
          rw [← hX] at hcy hcz hq
          obtain ⟨x1, x2⟩ := x
          dsimp only at hcy hcz hq
          obtain ⟨x0, x1'⟩ := hq
          obtain ⟨A, hA⟩ : ∃ A, sigv x1 V = A := ⟨_, rfl⟩
          have hA1 : A ≤ 1 := hA ▸ sigv_le x1 V
          have hf : (fun i => sigv (ls.getD i (0, 0)).1 V) j = A := by show sigv (ls.getD j (0, 0)).1 V = A; rw [← hX, hA]
          have HS : Hid (bits .or .i64 (nextOf ls V j : Nat) (wrap64 ((A : Int) * 2 ^ j)) = (nextOf ls V (j + 1) : Nat)) := pack_step _ (fun _ => sigv_le _ _) j A (by omega) hf
          have HA : Hid (sigv x1 V = A) := hA
          have hl1 : x1 / 2 < ((n + ls.length + gs.length + 1 : Nat) : Int) := by omega
          clear hX hA hf hc hl x1'
          go_wp2_with (go_at_call 24; refine (valueOf_is _ x0 hl1 (by omega) HVl.out.symm hV1 (hown.alloc _) HA.out).mono ?_; rintro e w' ⟨rfl, rfl⟩)
          go_roundw
          case rel => exact ⟨j + 1, by omega, by go_num, congrArg (Value.int .i64) HS.out, hown.alloc _, by simp; omega, hbel.alloc (by omega) _⟩
          case measure => simp [intOf]; omega
        · obtain rfl : j = ls.length := by omega
          go_wp2
          go_ret2
          exact ⟨rfl, hbel⟩

end Go.Proofs.Ytgpaajdfkekjiab
