/-
  What rightLatches, rightGates, rightOutputs and Right of package circuit answer of any circuit whose lists can be read (rightInputs of package latch beside them).
-/
import Derived.Test.YtgpaajdfkekjiabLeaf
import Derived.Deep.RegionHeld3
import Derived.Deep.DrawnRows
namespace Go.Proofs.Ytgpaajdfkekjiab
open Go.RowKit
attribute [local go_sem ↓] Go.wp_at_zero Go.wp_at_succ

/-- A list of pairs of ints lies behind the address (of a list of nothing nothing is said). -/
def PairsAt (w : World) (a : Option Addr) (ps : List (Int × Int)) : Prop :=
  ps = [] ∨ ∃ b off, a = some ⟨b, off, none⟩ ∧ b < w.heap.size ∧ ∀ i, i < ps.length →
    w.cell? ⟨b, off + i * 2, none⟩ = some (.int .i64 (ps.getD i (0, 0)).1) ∧ w.cell? ⟨b, off + i * 2 + 1, none⟩ = some (.int .i64 (ps.getD i (0, 0)).2)
/-- A list of ints lies behind the address. -/
def IntsAt (w : World) (a : Option Addr) (xs : List Int) : Prop :=
  xs = [] ∨ ∃ b off, a = some ⟨b, off, none⟩ ∧ b < w.heap.size ∧ ∀ i, i < xs.length → w.cell? ⟨b, off + i, none⟩ = some (.int .i64 (xs.getD i 0))

theorem PairsAt.below {w w' : World} {a : Option Addr} {ps : List (Int × Int)} (h : PairsAt w a ps) (hb : Below w.heap.size w w') : PairsAt w' a ps := by
  rcases h with h | ⟨b, off, ha, hlt, hc⟩
  · exact .inl h
  · exact .inr ⟨b, off, ha, Nat.lt_of_lt_of_le hlt hb.size, fun i hi => ⟨(hb.cell (p := ⟨b, _, none⟩) hlt).trans (hc i hi).1, (hb.cell (p := ⟨b, _, none⟩) hlt).trans (hc i hi).2⟩⟩
theorem IntsAt.below {w w' : World} {a : Option Addr} {xs : List Int} (h : IntsAt w a xs) (hb : Below w.heap.size w w') : IntsAt w' a xs := by
  rcases h with h | ⟨b, off, ha, hlt, hc⟩
  · exact .inl h
  · exact .inr ⟨b, off, ha, Nat.lt_of_lt_of_le hlt hb.size, fun i hi => (hb.cell (p := ⟨b, _, none⟩) hlt).trans (hc i hi)⟩

theorem all_succ {p : Nat → Prop} {k : Nat} (h : ∀ j, j < k → p j) (hk : p k) : ∀ j, j < k + 1 → p j := by
  intro j hj
  rcases Nat.lt_succ_iff_lt_or_eq.1 hj with h' | h'
  · exact h j h'
  · rw [h']; exact hk

set_option maxHeartbeats 1000000 in
theorem rightOutputs_any (n : Int) (la ga oa : Option Addr) (ln lc gn gc oc : Nat) (os : List Int) (w : World) (h0 : 0 ≤ n) (h1 : n ≤ 4) (h2 : ln ≤ 1000) (h3 : gn ≤ 1000) (h4 : os.length ≤ 1000)
    (hO : IntsAt w oa os) :
    Calls Try.prog 19 #[.agg #[.int .i64 n, .slice la ln lc, .slice ga gn gc, .slice oa os.length oc]] w fun e w' =>
      e = .returned (.bool (outsB (n + ln + gn) os)) ∧ Below w.heap.size w w' := by
  rcases hO with rfl | ⟨b, off, rfl, hlt, hc⟩
  · go_enter Try.func19, Try.ntmps19
    go_wp2
    refine wp_loop_rounds 1 ?_
    rw [rounds_succ]
    go_wp2
    go_ret
    exact ⟨rfl, (Below.refl _ _).alloc (Nat.le_refl _) _⟩
  · go_enter Try.func19, Try.ntmps19
    go_wp2
    go_loopw [4, 8] (fun _ i wr => ∃ k : Nat, k ≤ os.length ∧ i = .int .i64 k ∧ (∀ j, j < k → inB (os.getD j 0) (2 * (n + ln + gn) + 1) = true) ∧
        wr.cell? ⟨w.heap.size, 0, none⟩ = some (.int .i64 n) ∧ wr.cell? ⟨w.heap.size, 1, none⟩ = some (.slice la ln lc) ∧ wr.cell? ⟨w.heap.size, 2, none⟩ = some (.slice ga gn gc) ∧
        wr.cell? ⟨w.heap.size, 3, none⟩ = some (.slice (some ⟨b, off, none⟩) os.length oc) ∧ w.heap.size < wr.heap.size ∧ Below w.heap.size w wr)
      (fun _ i _ => os.length - (intOf i).toNat)
    case atStart => exact ⟨0, Nat.zero_le _, rfl, fun j hj => absurd hj (Nat.not_lt_zero j), by simp, by simp, by simp, by simp, by simp, (Below.refl _ _).alloc (Nat.le_refl _) _⟩
    case round =>
      obtain ⟨k, hk, rfl, hall, q0, q1, q2, q3, hz, hbel⟩ := hrel
      have HA : Hid (∀ j, j < k → inB (os.getD j 0) (2 * (n + ln + gn) + 1) = true) := hall
      clear hall
      by_cases hk2 : k < os.length
      · have hcy : wr.cell? ⟨b, off + k, none⟩ = some (.int .i64 (os.getD k 0)) := (hbel.cell (p := ⟨b, _, none⟩) hlt).trans (hc k hk2)
        obtain ⟨x, hX⟩ : ∃ x, x = os.getD k 0 := ⟨_, rfl⟩
        rw [← hX] at hcy
        have HX : Hid (x = os.getD k 0) := hX
        clear hX hc
        cases hq : inB x (2 * (n + ln + gn) + 1)
        · go_wp2_with (first | (go_at_call 27; refine (last_any n _ _ _ ln _ gn _ _ _ _ h0 h1 h2 h3).mono ?_; rintro e w' ⟨rfl, rfl⟩) | (go_at_call 26; refine (signal_any _ _ _ (by omega) (by omega)).mono ?_; rintro e w' ⟨rfl, rfl⟩))
          go_ret
          exact ⟨ret_bool (outsB_false hk2 (by rw [← HX.out]; exact hq)).symm, hbel.alloc (by omega) _⟩
        · go_wp2_with (first | (go_at_call 27; refine (last_any n _ _ _ ln _ gn _ _ _ _ h0 h1 h2 h3).mono ?_; rintro e w' ⟨rfl, rfl⟩) | (go_at_call 26; refine (signal_any _ _ _ (by omega) (by omega)).mono ?_; rintro e w' ⟨rfl, rfl⟩))
          go_roundw
          case rel => exact ⟨k + 1, by omega, by go_num, all_succ HA.out (by rw [← HX.out]; exact hq), by simp [World.cell?_alloc_past, hz, q0], by simp [World.cell?_alloc_past, hz, q1], by simp [World.cell?_alloc_past, hz, q2], by simp [World.cell?_alloc_past, hz, q3], by simp; omega, hbel.alloc (by omega) _⟩
          case measure => simp [intOf]; omega
      · clear hc
        go_wp2
        go_ret
        exact ⟨ret_bool (by unfold outsB; exact (decide_eq_true (fun i hi => HA.out i (by omega))).symm), hbel⟩

set_option maxHeartbeats 1000000 in
theorem rightGates_any (n : Int) (la ga oa : Option Addr) (ln lc gc on oc : Nat) (gs : List (Int × Int)) (w : World) (h0 : 0 ≤ n) (h1 : n ≤ 4) (h2 : ln ≤ 1000) (h3 : gs.length ≤ 1000)
    (hG : PairsAt w ga gs) :
    Calls Try.prog 18 #[.agg #[.int .i64 n, .slice la ln lc, .slice ga gs.length gc, .slice oa on oc]] w fun e w' =>
      e = .returned (.bool (gatesB (n + ln) gs)) ∧ Below w.heap.size w w' := by
  rcases hG with rfl | ⟨b, off, rfl, hlt, hc⟩
  · go_enter Try.func18, Try.ntmps18
    go_wp2
    refine wp_loop_rounds 1 ?_
    rw [rounds_succ]
    go_wp2
    go_ret
    exact ⟨rfl, (Below.refl _ _).alloc (Nat.le_refl _) _⟩
  · go_enter Try.func18, Try.ntmps18
    go_wp2
    go_loopw [3, 5, 15] (fun before _ i wr => ∃ k : Nat, k ≤ gs.length ∧ i = .int .i64 k ∧ before = .int .i64 (n + ln + k) ∧ (∀ j, j < k → gateOk (n + ln + (j : Nat)) (gs.getD j (0, 0)) = true) ∧
        w.heap.size < wr.heap.size ∧ Below w.heap.size w wr)
      (fun _ _ i _ => gs.length - (intOf i).toNat)
    case atStart => exact ⟨0, Nat.zero_le _, rfl, by go_num, fun j hj => absurd hj (Nat.not_lt_zero j), by simp, (Below.refl _ _).alloc (Nat.le_refl _) _⟩
    case round =>
      obtain ⟨k, hk, rfl, rfl, hall, hz, hbel⟩ := hrel
      have HA : Hid (∀ j, j < k → gateOk (n + ln + (j : Nat)) (gs.getD j (0, 0)) = true) := hall
      clear hall
      by_cases hk2 : k < gs.length
      · have hcy : wr.cell? ⟨b, off + k * 2, none⟩ = some (.int .i64 (gs.getD k (0, 0)).1) := (hbel.cell (p := ⟨b, _, none⟩) hlt).trans (hc k hk2).1
        have hcz : wr.cell? ⟨b, off + k * 2 + 1, none⟩ = some (.int .i64 (gs.getD k (0, 0)).2) := (hbel.cell (p := ⟨b, _, none⟩) hlt).trans (hc k hk2).2
        obtain ⟨x, hX⟩ : ∃ x, x = gs.getD k (0, 0) := ⟨_, rfl⟩
        rw [← hX] at hcy hcz
        have HX : Hid (x = gs.getD k (0, 0)) := hX
        obtain ⟨x1, x2⟩ := x
        dsimp only at hcy hcz
        clear hX hc
        cases hq : inB x1 (2 * (n + ln + k) + 1) <;> cases hr : inB x2 (2 * (n + ln + k) + 1)
        case true.true =>
          go_wp2_with (first | (go_at_call 26; refine (signal_any _ _ _ (by omega) (by omega)).mono ?_; rintro e w' ⟨rfl, rfl⟩))
          go_roundw
          case rel => exact ⟨k + 1, by omega, by go_num, by go_num, all_succ HA.out (by rw [← HX.out]; simp [gateOk, hq, hr]), by simp; omega, hbel.alloc (by omega) _⟩
          case measure => simp [intOf]; omega
        all_goals
          go_wp2_with (first | (go_at_call 26; refine (signal_any _ _ _ (by omega) (by omega)).mono ?_; rintro e w' ⟨rfl, rfl⟩))
          go_ret
          exact ⟨ret_bool (gatesB_false hk2 (by rw [← HX.out]; simp [gateOk, hq, hr])).symm, hbel.alloc (by omega) _⟩
      · clear hc
        go_wp2
        go_ret
        exact ⟨ret_bool (by unfold gatesB; exact (decide_eq_true (fun i hi => HA.out i (by omega))).symm), hbel⟩

set_option maxHeartbeats 1000000 in
theorem rightLatches_any (n : Int) (la ga oa : Option Addr) (lc gn gc on oc : Nat) (ls : List (Int × Int)) (w : World) (h0 : 0 ≤ n) (h1 : n ≤ 4) (h2 : ls.length ≤ 1000) (h3 : gn ≤ 1000)
    (hL : PairsAt w la ls) :
    Calls Try.prog 17 #[.agg #[.int .i64 n, .slice la ls.length lc, .slice ga gn gc, .slice oa on oc]] w fun e w' =>
      e = .returned (.bool (latchesB (n + ls.length + gn) ls)) ∧ Below w.heap.size w w' := by
  rcases hL with rfl | ⟨b, off, rfl, hlt, hc⟩
  · go_enter Try.func17, Try.ntmps17
    go_wp2
    refine wp_loop_rounds 1 ?_
    rw [rounds_succ]
    go_wp2
    go_ret
    exact ⟨rfl, (Below.refl _ _).alloc (Nat.le_refl _) _⟩
  · go_enter Try.func17, Try.ntmps17
    go_wp2
    go_loopw [4, 8] (fun _ i wr => ∃ k : Nat, k ≤ ls.length ∧ i = .int .i64 k ∧ (∀ j, j < k → latchOk (n + ls.length + gn) (ls.getD j (0, 0)) = true) ∧
        wr.cell? ⟨w.heap.size, 0, none⟩ = some (.int .i64 n) ∧ wr.cell? ⟨w.heap.size, 1, none⟩ = some (.slice (some ⟨b, off, none⟩) ls.length lc) ∧ wr.cell? ⟨w.heap.size, 2, none⟩ = some (.slice ga gn gc) ∧
        wr.cell? ⟨w.heap.size, 3, none⟩ = some (.slice oa on oc) ∧ w.heap.size < wr.heap.size ∧ Below w.heap.size w wr)
      (fun _ i _ => ls.length - (intOf i).toNat)
    case atStart => exact ⟨0, Nat.zero_le _, rfl, fun j hj => absurd hj (Nat.not_lt_zero j), by simp, by simp, by simp, by simp, by simp, (Below.refl _ _).alloc (Nat.le_refl _) _⟩
    case round =>
      obtain ⟨k, hk, rfl, hall, q0, q1, q2, q3, hz, hbel⟩ := hrel
      have HA : Hid (∀ j, j < k → latchOk (n + ls.length + gn) (ls.getD j (0, 0)) = true) := hall
      clear hall
      by_cases hk2 : k < ls.length
      · have hcy : wr.cell? ⟨b, off + k * 2, none⟩ = some (.int .i64 (ls.getD k (0, 0)).1) := (hbel.cell (p := ⟨b, _, none⟩) hlt).trans (hc k hk2).1
        have hcz : wr.cell? ⟨b, off + k * 2 + 1, none⟩ = some (.int .i64 (ls.getD k (0, 0)).2) := (hbel.cell (p := ⟨b, _, none⟩) hlt).trans (hc k hk2).2
        obtain ⟨x, hX⟩ : ∃ x, x = ls.getD k (0, 0) := ⟨_, rfl⟩
        rw [← hX] at hcy hcz
        have HX : Hid (x = ls.getD k (0, 0)) := hX
        obtain ⟨x1, x2⟩ := x
        dsimp only at hcy hcz
        clear hX hc
        have hz1 : w.heap.size < wr.heap.size + 1 := by omega
        cases hq : inB x1 (2 * (n + ls.length + gn) + 1) <;> cases hr : inB x2 1
        case true.true =>
          go_wp2
          first | go_region_with (first | (go_at_call 27; refine (last_any n _ _ _ ls.length _ gn _ _ _ _ h0 h1 h2 h3).mono ?_; rintro e w' ⟨rfl, rfl⟩) | (go_at_call 26; refine (signal_is _ (by omega) (by omega) hq).mono ?_; rintro e w' ⟨rfl, rfl⟩) | (go_at_call 28; refine (init_is _ hr).mono ?_; rintro e w' ⟨rfl, rfl⟩)) | fail
          all_goals
            go_wp2
            go_roundw
            case rel => exact ⟨k + 1, by omega, by go_num, all_succ HA.out (by rw [← HX.out]; simp [latchOk, hq, hr]), by simp [World.cell?_alloc_past, hz, hz1, q0], by simp [World.cell?_alloc_past, hz, hz1, q1], by simp [World.cell?_alloc_past, hz, hz1, q2], by simp [World.cell?_alloc_past, hz, hz1, q3], by simp; omega, ((hbel.alloc (by omega) _).alloc (by simp; omega) _).drew⟩
            case measure => simp [intOf]; omega
        all_goals
          go_wp2
          first | go_region_with (first | (go_at_call 27; refine (last_any n _ _ _ ls.length _ gn _ _ _ _ h0 h1 h2 h3).mono ?_; rintro e w' ⟨rfl, rfl⟩) | (go_at_call 26; refine (signal_is _ (by omega) (by omega) hq).mono ?_; rintro e w' ⟨rfl, rfl⟩) | (go_at_call 28; refine (init_is _ hr).mono ?_; rintro e w' ⟨rfl, rfl⟩)) | fail
          all_goals
            go_wp2
            go_ret
            exact ⟨ret_bool (latchesB_false hk2 (by rw [← HX.out]; simp [latchOk, hq, hr])).symm, ((hbel.alloc (by omega) _).alloc (by simp; omega) _).drew⟩
      · clear hc
        go_wp2
        go_ret
        exact ⟨ret_bool (by unfold latchesB; exact (decide_eq_true (fun i hi => HA.out i (by omega))).symm), hbel⟩

end Go.Proofs.Ytgpaajdfkekjiab
