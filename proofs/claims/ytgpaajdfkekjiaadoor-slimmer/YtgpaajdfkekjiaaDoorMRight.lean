/-
  What rightLatches, rightGates, rightOutputs and Right of package circuit answer of any circuit whose lists can be read (rightInputs of package latch beside them).
  What Right of package circuit answers of any circuit whose lists can be read.
  Lists that lie in a block that is known whole.
-/
import Derived.Test.YtgpaajdfkekjiaaDoorLeaf
import Derived.Deep.RegionHeld3
import Derived.Deep.DrawnRows
namespace Go.Proofs.YtgpaajdfkekjiaaDoor
open Go.RowKit
attribute [local go_sem ↓] Go.wp_at_zero Go.wp_at_succ

/-- A list of pairs of ints lies behind the address (of a list of nothing nothing is said). -/
def PairsAt (w : World) (a : Option Addr) (ps : List (Int × Int)) : Prop :=
  ps = [] ∨ ∃ b off, a = some ⟨b, off, none⟩ ∧ b < w.heap.size ∧ ∀ i, i < ps.length →
    w.cell? ⟨b, off + i * 2, none⟩ = some (.int .i64 (ps.getD i (0, 0)).1) ∧ w.cell? ⟨b, off + i * 2 + 1, none⟩ = some (.int .i64 (ps.getD i (0, 0)).2)
/-- A list of ints lies behind the address. -/
def IntsAt (w : World) (a : Option Addr) (xs : List Int) : Prop :=
  xs = [] ∨ ∃ b off, a = some ⟨b, off, none⟩ ∧ b < w.heap.size ∧ ∀ i, i < xs.length → w.cell? ⟨b, off + i, none⟩ = some (.int .i64 (xs.getD i 0))

theorem PairsAt.below {w w' : World} {a : Option Addr} {ps : List (Int × Int)} (h : PairsAt w a ps) (hb : Below w.heap.size w w') : PairsAt w' a ps := by
  rcases h with h | ⟨b, off, ha, hlt, hc⟩
  · exact .inl h
  · exact .inr ⟨b, off, ha, Nat.lt_of_lt_of_le hlt hb.size, fun i hi => ⟨(hb.cell (p := ⟨b, _, none⟩) hlt).trans (hc i hi).1, (hb.cell (p := ⟨b, _, none⟩) hlt).trans (hc i hi).2⟩⟩
theorem IntsAt.below {w w' : World} {a : Option Addr} {xs : List Int} (h : IntsAt w a xs) (hb : Below w.heap.size w w') : IntsAt w' a xs := by
  rcases h with h | ⟨b, off, ha, hlt, hc⟩
  · exact .inl h
  · exact .inr ⟨b, off, ha, Nat.lt_of_lt_of_le hlt hb.size, fun i hi => (hb.cell (p := ⟨b, _, none⟩) hlt).trans (hc i hi)⟩

theorem all_succ {p : Nat → Prop} {k : Nat} (h : ∀ j, j < k → p j) (hk : p k) : ∀ j, j < k + 1 → p j := by
  intro j hj
  rcases Nat.lt_succ_iff_lt_or_eq.1 hj with h' | h'
  · exact h j h'
  · rw [h']; exact hk

set_option maxHeartbeats 1000000 in
theorem rightOutputs_any (n : Int) (la ga oa : Option Addr) (ln lc gn gc oc : Nat) (os : List Int) (w : World) (h0 : 0 ≤ n) (h1 : n ≤ 4) (h2 : ln ≤ 1000) (h3 : gn ≤ 1000) (h4 : os.length ≤ 1000)
    (hO : IntsAt w oa os) :
    Calls Tryd.prog 30 #[.agg #[.int .i64 n, .slice la ln lc, .slice ga gn gc, .slice oa os.length oc]] w fun e w' =>
      e = .returned (.bool (outsB (n + ln + gn) os)) ∧ Below w.heap.size w w' := by
  rcases hO with rfl | ⟨b, off, rfl, hlt, hc⟩
  · go_enter Tryd.func30, Tryd.ntmps30
    go_wp2
    refine wp_loop_rounds 1 ?_
    rw [rounds_succ]
    go_wp2
    go_ret
    exact ⟨rfl, (Below.refl _ _).alloc (Nat.le_refl _) _⟩
  · go_enter Tryd.func30, Tryd.ntmps30
    go_wp2
    go_loopw [4, 8] (fun _ i wr => ∃ k : Nat, k ≤ os.length ∧ i = .int .i64 k ∧ (∀ j, j < k → inB (os.getD j 0) (2 * (n + ln + gn) + 1) = true) ∧
        wr.cell? ⟨w.heap.size, 0, none⟩ = some (.int .i64 n) ∧ wr.cell? ⟨w.heap.size, 1, none⟩ = some (.slice la ln lc) ∧ wr.cell? ⟨w.heap.size, 2, none⟩ = some (.slice ga gn gc) ∧
        wr.cell? ⟨w.heap.size, 3, none⟩ = some (.slice (some ⟨b, off, none⟩) os.length oc) ∧ w.heap.size < wr.heap.size ∧ Below w.heap.size w wr)
      (fun _ i _ => os.length - (intOf i).toNat)
    case atStart => exact ⟨0, Nat.zero_le _, rfl, fun j hj => absurd hj (Nat.not_lt_zero j), by simp, by simp, by simp, by simp, by simp, (Below.refl _ _).alloc (Nat.le_refl _) _⟩
    case round =>
      obtain ⟨k, hk, rfl, hall, q0, q1, q2, q3, hz, hbel⟩ := hrel
      have HA : Hid (∀ j, j < k → inB (os.getD j 0) (2 * (n + ln + gn) + 1) = true) := hall
      clear hall
      by_cases hk2 : k < os.length
      · have hcy : wr.cell? ⟨b, off + k, none⟩ = some (.int .i64 (os.getD k 0)) := (hbel.cell (p := ⟨b, _, none⟩) hlt).trans (hc k hk2)
        obtain ⟨x, hX⟩ : ∃ x, x = os.getD k 0 := ⟨_, rfl⟩
        rw [← hX] at hcy
        have HX : Hid (x = os.getD k 0) := hX
        clear hX hc
        cases hq : inB x (2 * (n + ln + gn) + 1)
        · go_wp2_with (first | (go_at_call 33; refine (last_any n _ _ _ ln _ gn _ _ _ _ h0 h1 h2 h3).mono ?_; rintro e w' ⟨rfl, rfl⟩) | (go_at_call 52; refine (signal_any _ _ _ (by omega) (by omega)).mono ?_; rintro e w' ⟨rfl, rfl⟩))
          go_ret
          exact ⟨ret_bool (outsB_false hk2 (by rw [← HX.out]; exact hq)).symm, hbel.alloc (by omega) _⟩
        · go_wp2_with (first | (go_at_call 33; refine (last_any n _ _ _ ln _ gn _ _ _ _ h0 h1 h2 h3).mono ?_; rintro e w' ⟨rfl, rfl⟩) | (go_at_call 52; refine (signal_any _ _ _ (by omega) (by omega)).mono ?_; rintro e w' ⟨rfl, rfl⟩))
          go_roundw
          case rel => exact ⟨k + 1, by omega, by go_num, all_succ HA.out (by rw [← HX.out]; exact hq), by simp [World.cell?_alloc_past, hz, q0], by simp [World.cell?_alloc_past, hz, q1], by simp [World.cell?_alloc_past, hz, q2], by simp [World.cell?_alloc_past, hz, q3], by simp; omega, hbel.alloc (by omega) _⟩
          case measure => simp [intOf]; omega
      · clear hc
        go_wp2
        go_ret
        exact ⟨ret_bool (by unfold outsB; exact (decide_eq_true (fun i hi => HA.out i (by omega))).symm), hbel⟩

set_option maxHeartbeats 1000000 in
theorem rightGates_any (n : Int) (la ga oa : Option Addr) (ln lc gc on oc : Nat) (gs : List (Int × Int)) (w : World) (h0 : 0 ≤ n) (h1 : n ≤ 4) (h2 : ln ≤ 1000) (h3 : gs.length ≤ 1000)
    (hG : PairsAt w ga gs) :
    Calls Tryd.prog 29 #[.agg #[.int .i64 n, .slice la ln lc, .slice ga gs.length gc, .slice oa on oc]] w fun e w' =>
      e = .returned (.bool (gatesB (n + ln) gs)) ∧ Below w.heap.size w w' := by
  rcases hG with rfl | ⟨b, off, rfl, hlt, hc⟩
  · go_enter Tryd.func29, Tryd.ntmps29
    go_wp2
    refine wp_loop_rounds 1 ?_
    rw [rounds_succ]
    go_wp2
    go_ret
    exact ⟨rfl, (Below.refl _ _).alloc (Nat.le_refl _) _⟩
  · go_enter Tryd.func29, Tryd.ntmps29
    go_wp2
    go_loopw [3, 5, 15] (fun before _ i wr => ∃ k : Nat, k ≤ gs.length ∧ i = .int .i64 k ∧ before = .int .i64 (n + ln + k) ∧ (∀ j, j < k → gateOk (n + ln + (j : Nat)) (gs.getD j (0, 0)) = true) ∧
        w.heap.size < wr.heap.size ∧ Below w.heap.size w wr)
      (fun _ _ i _ => gs.length - (intOf i).toNat)
    case atStart => exact ⟨0, Nat.zero_le _, rfl, by go_num, fun j hj => absurd hj (Nat.not_lt_zero j), by simp, (Below.refl _ _).alloc (Nat.le_refl _) _⟩
    case round =>
      obtain ⟨k, hk, rfl, rfl, hall, hz, hbel⟩ := hrel
      have HA : Hid (∀ j, j < k → gateOk (n + ln + (j : Nat)) (gs.getD j (0, 0)) = true) := hall
      clear hall
      by_cases hk2 : k < gs.length
      · have hcy : wr.cell? ⟨b, off + k * 2, none⟩ = some (.int .i64 (gs.getD k (0, 0)).1) := (hbel.cell (p := ⟨b, _, none⟩) hlt).trans (hc k hk2).1
        have hcz : wr.cell? ⟨b, off + k * 2 + 1, none⟩ = some (.int .i64 (gs.getD k (0, 0)).2) := (hbel.cell (p := ⟨b, _, none⟩) hlt).trans (hc k hk2).2
        obtain ⟨x, hX⟩ : ∃ x, x = gs.getD k (0, 0) := ⟨_, rfl⟩
        rw [← hX] at hcy hcz
        have HX : Hid (x = gs.getD k (0, 0)) := hX
        obtain ⟨x1, x2⟩ := x
        dsimp only at hcy hcz
        clear hX hc
        cases hq : inB x1 (2 * (n + ln + k) + 1) <;> cases hr : inB x2 (2 * (n + ln + k) + 1)
        case true.true =>
          go_wp2_with (first | (go_at_call 52; refine (signal_any _ _ _ (by omega) (by omega)).mono ?_; rintro e w' ⟨rfl, rfl⟩))
          go_roundw
          case rel => exact ⟨k + 1, by omega, by go_num, by go_num, all_succ HA.out (by rw [← HX.out]; simp [gateOk, hq, hr]), by simp; omega, hbel.alloc (by omega) _⟩
          case measure => simp [intOf]; omega
        all_goals
          go_wp2_with (first | (go_at_call 52; refine (signal_any _ _ _ (by omega) (by omega)).mono ?_; rintro e w' ⟨rfl, rfl⟩))
          go_ret
          exact ⟨ret_bool (gatesB_false hk2 (by rw [← HX.out]; simp [gateOk, hq, hr])).symm, hbel.alloc (by omega) _⟩
      · clear hc
        go_wp2
        go_ret
        exact ⟨ret_bool (by unfold gatesB; exact (decide_eq_true (fun i hi => HA.out i (by omega))).symm), hbel⟩

set_option maxHeartbeats 1000000 in
theorem rightLatches_any (n : Int) (la ga oa : Option Addr) (lc gn gc on oc : Nat) (ls : List (Int × Int)) (w : World) (h0 : 0 ≤ n) (h1 : n ≤ 4) (h2 : ls.length ≤ 1000) (h3 : gn ≤ 1000)
    (hL : PairsAt w la ls) :
    Calls Tryd.prog 28 #[.agg #[.int .i64 n, .slice la ls.length lc, .slice ga gn gc, .slice oa on oc]] w fun e w' =>
      e = .returned (.bool (latchesB (n + ls.length + gn) ls)) ∧ Below w.heap.size w w' := by
  rcases hL with rfl | ⟨b, off, rfl, hlt, hc⟩
  · go_enter Tryd.func28, Tryd.ntmps28
    go_wp2
    refine wp_loop_rounds 1 ?_
    rw [rounds_succ]
    go_wp2
    go_ret
    exact ⟨rfl, (Below.refl _ _).alloc (Nat.le_refl _) _⟩
  · go_enter Tryd.func28, Tryd.ntmps28
    go_wp2
    go_loopw [4, 8] (fun _ i wr => ∃ k : Nat, k ≤ ls.length ∧ i = .int .i64 k ∧ (∀ j, j < k → latchOk (n + ls.length + gn) (ls.getD j (0, 0)) = true) ∧
        wr.cell? ⟨w.heap.size, 0, none⟩ = some (.int .i64 n) ∧ wr.cell? ⟨w.heap.size, 1, none⟩ = some (.slice (some ⟨b, off, none⟩) ls.length lc) ∧ wr.cell? ⟨w.heap.size, 2, none⟩ = some (.slice ga gn gc) ∧
        wr.cell? ⟨w.heap.size, 3, none⟩ = some (.slice oa on oc) ∧ w.heap.size < wr.heap.size ∧ Below w.heap.size w wr)
      (fun _ i _ => ls.length - (intOf i).toNat)
    case atStart => exact ⟨0, Nat.zero_le _, rfl, fun j hj => absurd hj (Nat.not_lt_zero j), by simp, by simp, by simp, by simp, by simp, (Below.refl _ _).alloc (Nat.le_refl _) _⟩
    case round =>
      obtain ⟨k, hk, rfl, hall, q0, q1, q2, q3, hz, hbel⟩ := hrel
      have HA : Hid (∀ j, j < k → latchOk (n + ls.length + gn) (ls.getD j (0, 0)) = true) := hall
      clear hall
      by_cases hk2 : k < ls.length
      · have hcy : wr.cell? ⟨b, off + k * 2, none⟩ = some (.int .i64 (ls.getD k (0, 0)).1) := (hbel.cell (p := ⟨b, _, none⟩) hlt).trans (hc k hk2).1
        have hcz : wr.cell? ⟨b, off + k * 2 + 1, none⟩ = some (.int .i64 (ls.getD k (0, 0)).2) := (hbel.cell (p := ⟨b, _, none⟩) hlt).trans (hc k hk2).2
        obtain ⟨x, hX⟩ : ∃ x, x = ls.getD k (0, 0) := ⟨_, rfl⟩
        rw [← hX] at hcy hcz
        have HX : Hid (x = ls.getD k (0, 0)) := hX
        obtain ⟨x1, x2⟩ := x
        dsimp only at hcy hcz
        clear hX hc
        have hz1 : w.heap.size < wr.heap.size + 1 := by omega
        cases hq : inB x1 (2 * (n + ls.length + gn) + 1) <;> cases hr : inB x2 1
        case true.true =>
          go_wp2
          first | go_region_with (first | (go_at_call 33; refine (last_any n _ _ _ ls.length _ gn _ _ _ _ h0 h1 h2 h3).mono ?_; rintro e w' ⟨rfl, rfl⟩) | (go_at_call 52; refine (signal_is _ (by omega) (by omega) hq).mono ?_; rintro e w' ⟨rfl, rfl⟩) | (go_at_call 53; refine (init_is _ hr).mono ?_; rintro e w' ⟨rfl, rfl⟩)) | fail
          all_goals
            go_wp2
            go_roundw
            case rel => exact ⟨k + 1, by omega, by go_num, all_succ HA.out (by rw [← HX.out]; simp [latchOk, hq, hr]), by simp [World.cell?_alloc_past, hz, hz1, q0], by simp [World.cell?_alloc_past, hz, hz1, q1], by simp [World.cell?_alloc_past, hz, hz1, q2], by simp [World.cell?_alloc_past, hz, hz1, q3], by simp; omega, ((hbel.alloc (by omega) _).alloc (by simp; omega) _).drew⟩
            case measure => simp [intOf]; omega
        all_goals
          go_wp2
          first | go_region_with (first | (go_at_call 33; refine (last_any n _ _ _ ls.length _ gn _ _ _ _ h0 h1 h2 h3).mono ?_; rintro e w' ⟨rfl, rfl⟩) | (go_at_call 52; refine (signal_is _ (by omega) (by omega) hq).mono ?_; rintro e w' ⟨rfl, rfl⟩) | (go_at_call 53; refine (init_is _ hr).mono ?_; rintro e w' ⟨rfl, rfl⟩)) | fail
          all_goals
            go_wp2
            go_ret
            exact ⟨ret_bool (latchesB_false hk2 (by rw [← HX.out]; simp [latchOk, hq, hr])).symm, ((hbel.alloc (by omega) _).alloc (by simp; omega) _).drew⟩
      · clear hc
        go_wp2
        go_ret
        exact ⟨ret_bool (by unfold latchesB; exact (decide_eq_true (fun i hi => HA.out i (by omega))).symm), hbel⟩

end Go.Proofs.YtgpaajdfkekjiaaDoor

namespace Go.Proofs.YtgpaajdfkekjiaaDoor
open Go.RowKit

theorem sizes_is {i l o g : Int} {b : Bool} (w : World) (h : sizesB i l o g = b) :
    Calls Tryd.prog 27 #[.int .i64 i, .int .i64 l, .int .i64 o, .int .i64 g] w fun e w' => e = .returned (.bool b) ∧ w' = w := by
  subst h; exact sizes_any i l o g w

theorem sizesB_pos {i l o g : Int} (h : sizesB i l o g = true) : 0 ≤ i ∧ i ≤ 4 ∧ l ≤ 4 ∧ o ≤ 4 ∧ g ≤ 30 := by
  simp only [sizesB, Bool.and_eq_true] at h
  have a := inB_pos h.1.1.1; have b := inB_pos h.1.1.2; have c := inB_pos h.1.2; have d := inB_pos h.2
  omega

theorem rightOutputs_is {n : Int} {la ga oa : Option Addr} {ln lc gn gc oc : Nat} {os : List Int} {b : Bool} (w : World) (h0 : 0 ≤ n) (h1 : n ≤ 4) (h2 : ln ≤ 1000) (h3 : gn ≤ 1000) (h4 : os.length ≤ 1000)
    (hO : IntsAt w oa os) (h : outsB (n + ln + gn) os = b) :
    Calls Tryd.prog 30 #[.agg #[.int .i64 n, .slice la ln lc, .slice ga gn gc, .slice oa os.length oc]] w fun e w' =>
      e = .returned (.bool b) ∧ Below w.heap.size w w' := by subst h; exact rightOutputs_any n la ga oa ln lc gn gc oc os w h0 h1 h2 h3 h4 hO
theorem rightGates_is {n : Int} {la ga oa : Option Addr} {ln lc gc on oc : Nat} {gs : List (Int × Int)} {b : Bool} (w : World) (h0 : 0 ≤ n) (h1 : n ≤ 4) (h2 : ln ≤ 1000) (h3 : gs.length ≤ 1000)
    (hG : PairsAt w ga gs) (h : gatesB (n + ln) gs = b) :
    Calls Tryd.prog 29 #[.agg #[.int .i64 n, .slice la ln lc, .slice ga gs.length gc, .slice oa on oc]] w fun e w' =>
      e = .returned (.bool b) ∧ Below w.heap.size w w' := by subst h; exact rightGates_any n la ga oa ln lc gc on oc gs w h0 h1 h2 h3 hG
theorem rightLatches_is {n : Int} {la ga oa : Option Addr} {lc gn gc on oc : Nat} {ls : List (Int × Int)} {b : Bool} (w : World) (h0 : 0 ≤ n) (h1 : n ≤ 4) (h2 : ls.length ≤ 1000) (h3 : gn ≤ 1000)
    (hL : PairsAt w la ls) (h : latchesB (n + ls.length + gn) ls = b) :
    Calls Tryd.prog 28 #[.agg #[.int .i64 n, .slice la ls.length lc, .slice ga gn gc, .slice oa on oc]] w fun e w' =>
      e = .returned (.bool b) ∧ Below w.heap.size w w' := by subst h; exact rightLatches_any n la ga oa lc gn gc on oc ls w h0 h1 h2 h3 hL

set_option maxHeartbeats 1000000 in
theorem right_any (n : Int) (la ga oa : Option Addr) (lc gc oc : Nat) (ls gs : List (Int × Int)) (os : List Int) (w : World)
    (hL : PairsAt w la ls) (hG : PairsAt w ga gs) (hO : IntsAt w oa os) :
    Calls Tryd.prog 18 #[.agg #[.int .i64 n, .slice la ls.length lc, .slice ga gs.length gc, .slice oa os.length oc]] w fun e w' =>
      e = .returned (.bool (rightB n ls gs os)) ∧ Below w.heap.size w w' := by
  cases hs : sizesB n ls.length os.length gs.length
  · go_enter Tryd.func18, Tryd.ntmps18
    go_wp2_with (go_at_call 27; refine (sizes_is _ hs).mono ?_; rintro e w' ⟨rfl, rfl⟩)
    go_ret
    exact ⟨ret_bool (by simp [rightB, hs]), (Below.refl _ _).alloc (Nat.le_refl _) _⟩
  · obtain ⟨n0, n4, l4, o4, g30⟩ := sizesB_pos hs
    have bel0 : Below w.heap.size w (w.alloc (.cells #[.int .i64 n, .slice la ls.length lc, .slice ga gs.length gc, .slice oa os.length oc] 26)) := (Below.refl _ _).alloc (Nat.le_refl _) _
    cases h1 : latchesB (n + ls.length + gs.length) ls <;> cases h2 : gatesB (n + ls.length) gs <;> cases h3 : outsB (n + ls.length + gs.length) os <;>
    · go_enter Tryd.func18, Tryd.ntmps18
      go_wp2_with (first | (go_at_call 27; refine (sizes_is _ hs).mono ?_; rintro e w' ⟨rfl, rfl⟩) | (go_at_call 28; refine (rightLatches_is _ n0 n4 (by omega) (by omega) (hL.below bel0) h1).mono ?_; rintro e w1 ⟨rfl, b1⟩; have c1 := (bcell b1).1; have y1 : w.heap.size < w1.heap.size := Nat.lt_of_lt_of_le (by simp) b1.size) | (go_at_call 29; refine (rightGates_is _ n0 n4 (by omega) (by omega) ((hG.below bel0).below b1) h2).mono ?_; rintro e w2 ⟨rfl, b2⟩; have c2 := (bcell b2).1) | (go_at_call 30; refine (rightOutputs_is _ n0 n4 (by omega) (by omega) (by omega) (((hO.below bel0).below b1).below b2) h3).mono ?_; rintro e w3 ⟨rfl, b3⟩))
      go_ret
      first
        | exact ⟨ret_bool (by simp [rightB, hs, h1, h2, h3]), ((bel0.trans (b1.mono (by simp))).trans (b2.mono (by omega))).trans (b3.mono (Nat.le_trans (by omega) b2.size))⟩
        | exact ⟨ret_bool (by simp [rightB, hs, h1, h2]), (bel0.trans (b1.mono (by simp))).trans (b2.mono (by omega))⟩
        | exact ⟨ret_bool (by simp [rightB, hs, h1]), bel0.trans (b1.mono (by simp))⟩

theorem rightB_pos {n : Int} {ls gs : List (Int × Int)} {os : List Int} (h : rightB n ls gs os = true) :
    (0 ≤ n ∧ n ≤ 4 ∧ ls.length ≤ 4 ∧ os.length ≤ 4 ∧ gs.length ≤ 30) ∧ (∀ i, i < ls.length → latchOk (n + ls.length + gs.length) (ls.getD i (0, 0)) = true) ∧
    (∀ i, i < gs.length → gateOk (n + ls.length + (i : Nat)) (gs.getD i (0, 0)) = true) ∧ (∀ i, i < os.length → inB (os.getD i 0) (2 * (n + ls.length + gs.length) + 1) = true) := by
  simp only [rightB, Bool.and_eq_true] at h
  obtain ⟨⟨⟨hs, hl⟩, hg⟩, ho⟩ := h
  obtain ⟨a, b, c, d, e⟩ := sizesB_pos hs
  exact ⟨⟨a, b, by omega, by omega, by omega⟩, of_decide_eq_true hl, of_decide_eq_true hg, of_decide_eq_true ho⟩

theorem right_is {n : Int} {la ga oa : Option Addr} {lc gc oc : Nat} {ls gs : List (Int × Int)} {os : List Int} {b : Bool} (w : World)
    (hL : PairsAt w la ls) (hG : PairsAt w ga gs) (hO : IntsAt w oa os) (h : rightB n ls gs os = b) :
    Calls Tryd.prog 18 #[.agg #[.int .i64 n, .slice la ls.length lc, .slice ga gs.length gc, .slice oa os.length oc]] w fun e w' =>
      e = .returned (.bool b) ∧ Below w.heap.size w w' := by subst h; exact right_any n la ga oa lc gc oc ls gs os w hL hG hO
end Go.Proofs.YtgpaajdfkekjiaaDoor

namespace Go.Proofs.YtgpaajdfkekjiaaDoor
open Go.RowKit

theorem pairs_of_block {w : World} {B : Nat} {cs : Array Value} {t : TypeId} {fr : Nat × Nat} {ps : List (Int × Int)} (hb : w.heap[B]? = some (.cells cs t fr))
    (h : ∀ i, i < ps.length → cs[i * 2]? = some (.int .i64 (ps.getD i (0, 0)).1) ∧ cs[i * 2 + 1]? = some (.int .i64 (ps.getD i (0, 0)).2)) : PairsAt w (some ⟨B, 0, none⟩) ps := by
  refine .inr ⟨B, 0, rfl, ?_, fun i hi => ?_⟩
  · rcases Nat.lt_or_ge B w.heap.size with hlt | hge
    · exact hlt
    · rw [Array.getElem?_eq_none hge] at hb; cases hb
  · rw [Nat.zero_add, cell_of_row w B _ cs t fr hb, cell_of_row w B _ cs t fr hb]
    exact h i hi
theorem ints_of_block {w : World} {B : Nat} {cs : Array Value} {t : TypeId} {fr : Nat × Nat} {xs : List Int} (hb : w.heap[B]? = some (.cells cs t fr))
    (h : ∀ i, i < xs.length → cs[i]? = some (.int .i64 (xs.getD i 0))) : IntsAt w (some ⟨B, 0, none⟩) xs := by
  refine .inr ⟨B, 0, rfl, ?_, fun i hi => ?_⟩
  · rcases Nat.lt_or_ge B w.heap.size with hlt | hge
    · exact hlt
    · rw [Array.getElem?_eq_none hge] at hb; cases hb
  · rw [Nat.zero_add, cell_of_row w B _ cs t fr hb]
    exact h i hi

theorem alloc_blk (w : World) (o : Obj) (B : Nat) (hB : B = w.heap.size) : (w.alloc o).heap[B]? = some o := by subst hB; exact heap_alloc_new w o
theorem alloc_old {w : World} {o x : Obj} {B : Nat} (h : w.heap[B]? = some x) : (w.alloc o).heap[B]? = some x := by
  rw [Below.heap_alloc w o B ?_]; exact h
  rcases Nat.lt_or_ge B w.heap.size with hlt | hge
  · exact hlt
  · rw [Array.getElem?_eq_none hge] at h; cases h

end Go.Proofs.YtgpaajdfkekjiaaDoor
