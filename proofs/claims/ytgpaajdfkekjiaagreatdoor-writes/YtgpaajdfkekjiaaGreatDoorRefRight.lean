/-
  What Right of package latchref answers of any circuit whose lists can be read: just what Right of package circuit answers.
-/
import Derived.Test.YtgpaajdfkekjiaaGreatDoorRefOut
namespace Go.Proofs.YtgpaajdfkekjiaaGreatDoor
open Go.RowKit

theorem isSignal_at {s last below : Int} {b : Bool} (w : World) (hb : below = last + 1) (hs1 : -9223372036854775808 ≤ s) (hs2 : s ≤ 9223372036854775807) (h : inB s (2 * last + 1) = b) :
    Calls Tryz.prog 74 #[.int .i64 s, .int .i64 below] w fun e w' => e = .returned (.bool b) ∧ w' = w := by
  subst hb; exact isSignal_is w hs1 hs2 h

def upL (last : Int) (ls : List (Int × Int)) (k : Nat) : Bool := decide (∀ i, i < k → latchOk last (ls.getD i (0, 0)) = true)
def upO (last : Int) (os : List Int) (k : Nat) : Bool := decide (∀ i, i < k → inB (os.getD i 0) (2 * last + 1) = true)
def upG (b : Int) (gs : List (Int × Int)) (k : Nat) : Bool := decide (∀ i, i < k → gateOk (b + (i : Nat)) (gs.getD i (0, 0)) = true)
theorem up_succ (p : Nat → Bool) (k : Nat) : decide (∀ i, i < k + 1 → p i = true) = (decide (∀ i, i < k → p i = true) && p k) := by
  rw [Bool.eq_iff_iff]
  simp only [decide_eq_true_eq, Bool.and_eq_true]
  exact ⟨fun h => ⟨fun i hi => h i (by omega), h k (by omega)⟩, fun h => all_succ h.1 h.2⟩
theorem upL_succ (last : Int) (ls : List (Int × Int)) (k : Nat) : upL last ls (k + 1) = (upL last ls k && latchOk last (ls.getD k (0, 0))) := up_succ (fun i => latchOk last (ls.getD i (0, 0))) k
theorem upO_succ (last : Int) (os : List Int) (k : Nat) : upO last os (k + 1) = (upO last os k && inB (os.getD k 0) (2 * last + 1)) := up_succ (fun i => inB (os.getD i 0) (2 * last + 1)) k
theorem upG_succ (b : Int) (gs : List (Int × Int)) (k : Nat) : upG b gs (k + 1) = (upG b gs k && gateOk (b + k) (gs.getD k (0, 0))) := up_succ (fun i => gateOk (b + (i : Nat)) (gs.getD i (0, 0))) k

theorem upL_zero (last : Int) (ls : List (Int × Int)) : upL last ls 0 = true := decide_eq_true (fun i hi => absurd hi (Nat.not_lt_zero i))
theorem upO_zero (last : Int) (os : List Int) : upO last os 0 = true := decide_eq_true (fun i hi => absurd hi (Nat.not_lt_zero i))
theorem upG_zero (b : Int) (gs : List (Int × Int)) : upG b gs 0 = true := decide_eq_true (fun i hi => absurd hi (Nat.not_lt_zero i))
theorem inB_no01 {x : Int} (h0 : ¬ x = 0) (h1 : ¬ x = 1) : inB x 1 = false := decide_eq_false (by omega)
theorem inB_yes0 {x : Int} (h0 : x = 0) : inB x 1 = true := decide_eq_true (by omega)
theorem inB_yes1 {x : Int} (h0 : x = 1) : inB x 1 = true := decide_eq_true (by omega)

theorem sizesB_false {n : Int} {l o g : Nat} (h : n < 0 ∨ 4 < n ∨ 4 < l ∨ 30 < g ∨ 4 < o) : sizesB n l o g = false := by
  unfold sizesB inB
  rcases h with h | h | h | h | h <;> simp <;> omega
theorem sizesB_true {n : Int} {l o g : Nat} (h0 : 0 ≤ n) (h1 : n ≤ 4) (h2 : l ≤ 4) (h3 : g ≤ 30) (h4 : o ≤ 4) : sizesB n l o g = true := by
  unfold sizesB inB
  simp; omega

/-- A number of a list that can be read. -/
def Fits (x : Int) : Prop := -9223372036854775808 ≤ x ∧ x ≤ 9223372036854775807

set_option maxHeartbeats 1000000 in
set_option maxRecDepth 100000 in
theorem refRight_any (n : Int) (la ga oa : Option Addr) (lc gc oc : Nat) (ls gs : List (Int × Int)) (os : List Int) (w : World)
    (hL : PairsAt w la ls) (hG : PairsAt w ga gs) (hO : IntsAt w oa os) (fL : ∀ i, i < ls.length → Fits (ls.getD i (0, 0)).1) (fG : ∀ i, i < gs.length → Fits (gs.getD i (0, 0)).1 ∧ Fits (gs.getD i (0, 0)).2) (fO : ∀ i, i < os.length → Fits (os.getD i 0)) :
    Calls Tryz.prog 46 #[.agg #[.int .i64 n, .slice la ls.length lc, .slice ga gs.length gc, .slice oa os.length oc]] w fun e w' =>
      e = .returned (.bool (rightB n ls gs os)) ∧ Below w.heap.size w w' := by
  by_cases hbad : n < 0 ∨ 4 < n ∨ 4 < ls.length ∨ 30 < gs.length ∨ 4 < os.length
  · have hr : rightB n ls gs os = false := by unfold rightB; rw [sizesB_false hbad]; rfl
    rw [hr]
    by_cases h0 : n < 0
    · go_enter Tryz.func46, Tryz.ntmps46
      go_wp2
      go_ret
      exact ⟨rfl, (Below.refl _ _).alloc (Nat.le_refl _) _⟩
    · by_cases h1 : 4 < n
      · go_enter Tryz.func46, Tryz.ntmps46
        go_wp2
        go_ret
        exact ⟨rfl, (Below.refl _ _).alloc (Nat.le_refl _) _⟩
      · by_cases h2 : 4 < ls.length
        · go_enter Tryz.func46, Tryz.ntmps46
          go_wp2
          go_ret
          exact ⟨rfl, (Below.refl _ _).alloc (Nat.le_refl _) _⟩
        · by_cases h3 : 30 < gs.length
          · go_enter Tryz.func46, Tryz.ntmps46
            go_wp2
            go_ret
            exact ⟨rfl, (Below.refl _ _).alloc (Nat.le_refl _) _⟩
          · have h4 : 4 < os.length := by omega
            clear hbad
            go_enter Tryz.func46, Tryz.ntmps46
            go_wp2
            go_ret
            exact ⟨rfl, (Below.refl _ _).alloc (Nat.le_refl _) _⟩
  · obtain ⟨h0, h1, h2, h3, h4⟩ : 0 ≤ n ∧ n ≤ 4 ∧ ls.length ≤ 4 ∧ gs.length ≤ 30 ∧ os.length ≤ 4 := by omega
    clear hbad
    have hr : rightB n ls gs os = (upL (n + ls.length + gs.length) ls ls.length && upO (n + ls.length + gs.length) os os.length && upG (n + ls.length) gs gs.length) := by
      unfold rightB; rw [sizesB_true h0 h1 h2 h3 h4]
      show (true && upL _ ls ls.length && upG _ gs gs.length && upO _ os os.length) = _
      cases upL (n + ls.length + gs.length) ls ls.length <;> cases upO (n + ls.length + gs.length) os os.length <;> cases upG (n + ls.length) gs gs.length <;> rfl
    rw [hr]
    clear hr
    have bel0 : Below w.heap.size w (w.alloc (.cells #[.int .i64 n, .slice la ls.length lc, .slice ga gs.length gc, .slice oa os.length oc] 34)) := (Below.refl _ _).alloc (Nat.le_refl _) _
    go_enter Tryz.func46, Tryz.ntmps46
    go_wp2_with (go_at_call 48; refine (top_any n _ _ _ ls.length _ gs.length _ _ _ _ h0 h1 (by omega) (by omega)).mono ?_; rintro e w' ⟨rfl, rfl⟩)
    go_loopw [4, 5, 6, 7] (fun ok i _ _ wr => ∃ k : Nat, k ≤ ls.length ∧ i = .int .i64 k ∧ ok = .bool (upL (n + ls.length + gs.length) ls k) ∧
        wr.cell? ⟨w.heap.size, 0, none⟩ = some (.int .i64 n) ∧ wr.cell? ⟨w.heap.size, 1, none⟩ = some (.slice la ls.length lc) ∧ wr.cell? ⟨w.heap.size, 2, none⟩ = some (.slice ga gs.length gc) ∧ wr.cell? ⟨w.heap.size, 3, none⟩ = some (.slice oa os.length oc) ∧ w.heap.size < wr.heap.size ∧ Below w.heap.size w wr)
      (fun _ i _ _ _ => ls.length - (intOf i).toNat)
    case atStart =>
      refine ⟨0, Nat.zero_le _, rfl, (congrArg Value.bool (upL_zero _ _)).symm, ?_, ?_, ?_, ?_, by simp; omega, bel0.alloc (by simp) _⟩
      · rw [World.cell?_alloc_past _ _ _ (by simp)]; simp
      · rw [World.cell?_alloc_past _ _ _ (by simp)]; simp
      · rw [World.cell?_alloc_past _ _ _ (by simp)]; simp
      · rw [World.cell?_alloc_past _ _ _ (by simp)]; simp
    case round =>
      obtain ⟨k, hk, rfl, rfl, q0, q1, q2, q3, hz, hbel⟩ := hrel
      by_cases hk2 : k < ls.length
      · obtain ⟨b, off, rfl, hlt, hc⟩ := hL.get (by omega)
        have hcy : wr.cell? ⟨b, off + k * 2, none⟩ = some (.int .i64 (ls.getD k (0, 0)).1) := (hbel.cell (p := ⟨b, _, none⟩) hlt).trans (hc k hk2).1
        have hcz : wr.cell? ⟨b, off + k * 2 + 1, none⟩ = some (.int .i64 (ls.getD k (0, 0)).2) := (hbel.cell (p := ⟨b, _, none⟩) hlt).trans (hc k hk2).2
        obtain ⟨fx1, fx2⟩ := fL k hk2
        have hu := upL_succ (n + ls.length + gs.length) ls k
        obtain ⟨x, hX⟩ : ∃ x, x = ls.getD k (0, 0) := ⟨_, rfl⟩
        rw [← hX] at hcy hcz fx1 fx2 hu
        obtain ⟨x1, x2⟩ := x
        dsimp only at hcy hcz fx1 fx2
        have HU : Hid (upL (n + ls.length + gs.length) ls (k + 1) = (upL (n + ls.length + gs.length) ls k && (inB x1 (2 * (n + ls.length + gs.length) + 1) && inB x2 1))) := hu
        clear hX hc hu fL fG fO
        have fin : ∀ c : Bool, c = (upL (n + ls.length + gs.length) ls k && (inB x1 (2 * (n + ls.length + gs.length) + 1) && inB x2 1)) → Value.bool c = Value.bool (upL (n + ls.length + gs.length) ls (k + 1)) := fun c h => by rw [HU.out, h]
        have r0 : ∀ o j v, wr.cell? ⟨w.heap.size, j, none⟩ = some v → (wr.alloc o).cell? ⟨w.heap.size, j, none⟩ = some v := fun o j v h => by rw [World.cell?_alloc_past _ _ _ hz]; exact h
        have FIN : Hid (∀ c : Bool, c = (upL (n + ls.length + gs.length) ls k && (inB x1 (2 * (n + ls.length + gs.length) + 1) && inB x2 1)) → Value.bool c = Value.bool (upL (n + ls.length + gs.length) ls (k + 1))) := fin
        have R0 : Hid (∀ o j v, wr.cell? ⟨w.heap.size, j, none⟩ = some v → (wr.alloc o).cell? ⟨w.heap.size, j, none⟩ = some v) := r0
        clear fin r0
        cases hok : upL (n + ls.length + gs.length) ls k
        · go_wp2_with (go_at_call 74; refine (isSignal_at _ rfl fx1 fx2 rfl).mono ?_; rintro e w' ⟨rfl, hw⟩; have hw := hw.symm; subst hw)
          go_roundw
          case rel => exact ⟨k + 1, by omega, by go_num, FIN.out _ (by rw [hok]; rfl), R0.out _ _ _ q0, R0.out _ _ _ q1, R0.out _ _ _ q2, R0.out _ _ _ q3, by simp; omega, hbel.alloc (by omega) _⟩
          case measure => simp [intOf]; omega
        · cases hq : inB x1 (2 * (n + ls.length + gs.length) + 1)
          · go_wp2_with (go_at_call 74; refine (isSignal_at _ rfl fx1 fx2 hq).mono ?_; rintro e w' ⟨rfl, hw⟩; have hw := hw.symm; subst hw)
            go_roundw
            case rel => exact ⟨k + 1, by omega, by go_num, FIN.out _ (by rw [hok, hq]; rfl), R0.out _ _ _ q0, R0.out _ _ _ q1, R0.out _ _ _ q2, R0.out _ _ _ q3, by simp; omega, hbel.alloc (by omega) _⟩
            case measure => simp [intOf]; omega
          · by_cases e0 : x2 = 0
            · go_wp2_with (go_at_call 74; refine (isSignal_at _ rfl fx1 fx2 hq).mono ?_; rintro e w' ⟨rfl, hw⟩; have hw := hw.symm; subst hw)
              go_roundw
              case rel => exact ⟨k + 1, by omega, by go_num, FIN.out _ (by rw [hok, hq, inB_yes0 e0]; rfl), R0.out _ _ _ q0, R0.out _ _ _ q1, R0.out _ _ _ q2, R0.out _ _ _ q3, by simp; omega, hbel.alloc (by omega) _⟩
              case measure => simp [intOf]; omega
            · by_cases e1 : x2 = 1
              · go_wp2_with (go_at_call 74; refine (isSignal_at _ rfl fx1 fx2 hq).mono ?_; rintro e w' ⟨rfl, hw⟩; have hw := hw.symm; subst hw)
                go_roundw
                case rel => exact ⟨k + 1, by omega, by go_num, FIN.out _ (by rw [hok, hq, inB_yes1 e1]; rfl), R0.out _ _ _ q0, R0.out _ _ _ q1, R0.out _ _ _ q2, R0.out _ _ _ q3, by simp; omega, hbel.alloc (by omega) _⟩
                case measure => simp [intOf]; omega
              · go_wp2_with (go_at_call 74; refine (isSignal_at _ rfl fx1 fx2 hq).mono ?_; rintro e w' ⟨rfl, hw⟩; have hw := hw.symm; subst hw)
                go_roundw
                case rel => exact ⟨k + 1, by omega, by go_num, FIN.out _ (by rw [hok, hq, inB_no01 e0 e1]; simp [e0, e1]), R0.out _ _ _ q0, R0.out _ _ _ q1, R0.out _ _ _ q2, R0.out _ _ _ q3, by simp; omega, hbel.alloc (by omega) _⟩
                case measure => simp [intOf]; omega
      · obtain rfl : k = ls.length := by omega
        obtain ⟨LB, hLB⟩ : ∃ LB, LB = upL (n + ls.length + gs.length) ls ls.length := ⟨_, rfl⟩
        obtain ⟨w4, rfl⟩ : ∃ w4, w4 = wr := ⟨wr, rfl⟩
        rw [← hLB]
        have HLB : Hid (LB = upL (n + ls.length + gs.length) ls ls.length) := hLB
        clear hLB fL
        go_wp2
        go_loop [4, 8, 9] (fun ok i _ => ∃ k : Nat, k ≤ os.length ∧ i = .int .i64 k ∧ ok = .bool (LB && upO (n + ls.length + gs.length) os k)) (fun _ i _ => os.length - (intOf i).toNat)
        case atStart => exact ⟨0, Nat.zero_le _, rfl, by rw [upO_zero, Bool.and_true]⟩
        case round =>
          obtain ⟨k, hk, rfl, rfl⟩ := hrel
          by_cases hk2 : k < os.length
          · obtain ⟨b, off, rfl, hlt, hc⟩ := hO.get (by omega)
            have hcy : w4.cell? ⟨b, off + k, none⟩ = some (.int .i64 (os.getD k 0)) := (hbel.cell (p := ⟨b, _, none⟩) hlt).trans (hc k hk2)
            obtain ⟨fx1, fx2⟩ := fO k hk2
            have hu := upO_succ (n + ls.length + gs.length) os k
            obtain ⟨x, hX⟩ : ∃ x, x = os.getD k 0 := ⟨_, rfl⟩
            rw [← hX] at hcy fx1 fx2 hu
            have HU : Hid (upO (n + ls.length + gs.length) os (k + 1) = (upO (n + ls.length + gs.length) os k && inB x (2 * (n + ls.length + gs.length) + 1))) := hu
            obtain ⟨U, hU⟩ : ∃ U, U = (LB && upO (n + ls.length + gs.length) os k) := ⟨_, rfl⟩
            rw [← hU]
            have HE : Hid (U = (LB && upO (n + ls.length + gs.length) os k)) := hU
            clear hX hc hu fO fG hU
            have fin : ∀ c : Bool, c = (U && inB x (2 * (n + ls.length + gs.length) + 1)) → Value.bool c = Value.bool (LB && upO (n + ls.length + gs.length) os (k + 1)) := fun c h => by rw [HU.out, h, HE.out, Bool.and_assoc]
            have FIN : Hid (∀ c : Bool, c = (U && inB x (2 * (n + ls.length + gs.length) + 1)) → Value.bool c = Value.bool (LB && upO (n + ls.length + gs.length) os (k + 1))) := fin
            clear fin
            cases U
            · go_wp2_with (go_at_call 74; refine (isSignal_at _ rfl fx1 fx2 rfl).mono ?_; rintro e w' ⟨rfl, hw⟩; have hw := hw.symm; subst hw)
              go_round
              case rel => exact ⟨k + 1, by omega, by go_num, FIN.out _ rfl⟩
              case measure => simp [intOf]; omega
            · go_wp2_with (go_at_call 74; refine (isSignal_at _ rfl fx1 fx2 rfl).mono ?_; rintro e w' ⟨rfl, hw⟩; have hw := hw.symm; subst hw)
              go_round
              case rel => exact ⟨k + 1, by omega, by go_num, FIN.out _ rfl⟩
              case measure => simp [intOf]; omega
          · obtain rfl : k = os.length := by omega
            obtain ⟨OB, hOB⟩ : ∃ OB, OB = (LB && upO (n + ls.length + gs.length) os os.length) := ⟨_, rfl⟩
            rw [← hOB]
            have HOB : Hid (OB = (LB && upO (n + ls.length + gs.length) os os.length)) := hOB
            clear hOB fO
            go_wp2
            go_loop [4, 10, 11, 12, 13] (fun ok i _ _ _ => ∃ k : Nat, k ≤ gs.length ∧ i = .int .i64 k ∧ ok = .bool (OB && upG (n + ls.length) gs k)) (fun _ i _ _ _ => gs.length - (intOf i).toNat)
            case atStart => exact ⟨0, Nat.zero_le _, rfl, by rw [upG_zero, Bool.and_true]⟩
            case round =>
              obtain ⟨k, hk, rfl, rfl⟩ := hrel
              by_cases hk2 : k < gs.length
              · obtain ⟨b, off, rfl, hlt, hc⟩ := hG.get (by omega)
                have hcy : w4.cell? ⟨b, off + k * 2, none⟩ = some (.int .i64 (gs.getD k (0, 0)).1) := (hbel.cell (p := ⟨b, _, none⟩) hlt).trans (hc k hk2).1
                have hcz : w4.cell? ⟨b, off + k * 2 + 1, none⟩ = some (.int .i64 (gs.getD k (0, 0)).2) := (hbel.cell (p := ⟨b, _, none⟩) hlt).trans (hc k hk2).2
                obtain ⟨⟨fx1, fx2⟩, fy1, fy2⟩ := fG k hk2
                have hu := upG_succ (n + ls.length) gs k
                obtain ⟨x, hX⟩ : ∃ x, x = gs.getD k (0, 0) := ⟨_, rfl⟩
                rw [← hX] at hcy hcz fx1 fx2 fy1 fy2 hu
                obtain ⟨x1, x2⟩ := x
                dsimp only at hcy hcz fx1 fx2 fy1 fy2
                have HU : Hid (upG (n + ls.length) gs (k + 1) = (upG (n + ls.length) gs k && (inB x1 (2 * (n + ls.length + k) + 1) && inB x2 (2 * (n + ls.length + k) + 1)))) := hu
                obtain ⟨U, hU⟩ : ∃ U, U = (OB && upG (n + ls.length) gs k) := ⟨_, rfl⟩
                rw [← hU]
                have HE : Hid (U = (OB && upG (n + ls.length) gs k)) := hU
                clear hX hc hu fG hU
                have fin : ∀ c : Bool, c = (U && (inB x1 (2 * (n + ls.length + k) + 1) && inB x2 (2 * (n + ls.length + k) + 1))) → Value.bool c = Value.bool (OB && upG (n + ls.length) gs (k + 1)) := fun c h => by rw [HU.out, h, HE.out, Bool.and_assoc]
                have FIN : Hid (∀ c : Bool, c = (U && (inB x1 (2 * (n + ls.length + k) + 1) && inB x2 (2 * (n + ls.length + k) + 1))) → Value.bool c = Value.bool (OB && upG (n + ls.length) gs (k + 1))) := fin
                clear fin
                have hbw : n + (ls.length : Int) + 1 + (k : Int) = n + ls.length + k + 1 := by omega
                have HBW : Hid (n + (ls.length : Int) + 1 + (k : Int) = n + ls.length + k + 1) := hbw
                clear hbw
                cases hq1 : inB x1 (2 * (n + ls.length + k) + 1) <;> cases hq2 : inB x2 (2 * (n + ls.length + k) + 1) <;> cases U <;>
                · go_wp2_with (first | (go_at_call_of 74 (Value.int IntKind.i64 x1); refine (isSignal_at _ HBW.out fx1 fx2 hq1).mono ?_; rintro e w' ⟨rfl, hw⟩; have hw := hw.symm; subst hw) | (go_at_call_of 74 (Value.int IntKind.i64 x2); refine (isSignal_at _ HBW.out fy1 fy2 hq2).mono ?_; rintro e w' ⟨rfl, hw⟩; have hw := hw.symm; subst hw))
                  go_round
                  case rel => exact ⟨k + 1, by omega, by go_num, FIN.out _ (by rw [hq1, hq2]; rfl)⟩
                  case measure => simp [intOf]; omega
              · obtain rfl : k = gs.length := by omega
                go_wp2
                go_ret
                exact ⟨ret_bool (by rw [HOB.out, HLB.out]), hbel⟩

end Go.Proofs.YtgpaajdfkekjiaaGreatDoor
