/-
  What number of package latchref answers: the number that digits spell with no nought ahead, or -1.
-/
import Derived.Test.YtgpaajdfkekjiaaGreatDoorNumsOf
namespace Go.Proofs.YtgpaajdfkekjiaaGreatDoor
open Go.RowKit

theorem bget {X : List UInt8} {k : Nat} (h : k < X.length) : (⟨X.toArray⟩ : ByteArray)[k]'(by show k < X.toArray.size; simpa using h) = X[k] := rfl
/-- A number below a hundred of more than one digit has no nought ahead. -/
theorem no_zero (n : Nat) (hn : n < 100) (h1 : 1 < (Lib.decDigits n).length) : (Lib.decDigits n)[0]'(by omega) ≠ 48 := by
  by_cases h : n < 10
  · rw [Lib.decDigits_one h] at h1; simp at h1
  · have e := Lib.decDigits_two h hn
    have : (Lib.decDigits n)[0]'(by omega) = UInt8.ofNat (48 + n / 10) := by simp [e]
    rw [this]
    intro e2
    have := congrArg UInt8.toNat e2
    rw [UInt8.toNat_ofNat'] at this
    simp at this
    omega

set_option maxHeartbeats 1000000 in
set_option maxRecDepth 100000 in
theorem refNumber_any (X : List UInt8) (w : World) (hl : X.length ≤ 2000) :
    Calls Tryz.prog 73 #[.string ⟨X.toArray⟩] w fun e w' => (∃ d, w' = w.drewN d) ∧ ((∃ n, X = Lib.decDigits n ∧ n < 1000000 ∧ e = .returned (.int .i64 n)) ∨ (e = .returned (.int .i64 (-1)) ∧ ∀ n, n < 100 → X ≠ Lib.decDigits n)) := by
  have hc : ((⟨X.toArray⟩ : ByteArray).size : Int) = X.length := by show ((X.toArray.size : Nat) : Int) = _; simp
  by_cases h0 : X = []
  · subst h0
    go_enter Tryz.func73, Tryz.ntmps73
    go_wp2
    go_ret
    exact ⟨⟨0, rfl⟩, .inr ⟨rfl, fun n _ e => dec_ne n e.symm⟩⟩
  · have hne : ¬ X.length = 0 := fun e => h0 (List.eq_nil_of_length_eq_zero e)
    have hX1 : 0 < X.length := by omega
    have hE : (X == []) = false := by cases X with | nil => exact absurd rfl h0 | cons => rfl
    by_cases h6 : 6 < X.length
    · have h6' : (6 : Int) < (X.length : Int) := by omega
      go_enter Tryz.func73, Tryz.ntmps73
      go_wp2
      go_ret
      exact ⟨⟨0, rfl⟩, .inr ⟨rfl, fun n hn e => by have := dec_len n hn; rw [← e] at this; omega⟩⟩
    · have h6' : ¬ (6 : Int) < (X.length : Int) := by omega
      by_cases h1 : 1 < X.length
      · have h1' : (1 : Int) < (X.length : Int) := by omega
        go_enter Tryz.func73, Tryz.ntmps73
        go_wp2
        · rename_i hz
          go_ret
          refine ⟨⟨0, rfl⟩, .inr ⟨rfl, fun n hn e => ?_⟩⟩
          have hz2 : X[0] = 48 := by
            rw [bget hX1, beq_iff_eq] at hz
            exact UInt8.toNat_inj.1 (by show X[0].toNat = 48; omega)
          subst e
          exact no_zero n hn h1 hz2
        · have hz0 : (((⟨X.toArray⟩ : ByteArray)[0]'(by show 0 < X.toArray.size; simpa using hX1)).toNat : Int) ≠ 48 := by
            have h : ((((⟨X.toArray⟩ : ByteArray)[0]'(by show 0 < X.toArray.size; simpa using hX1)).toNat : Int) == 48) = false := by assumption
            simpa using h
          have hzz : 1 < X.length → X.head? ≠ some 48 := fun _ e => by
            rw [List.head?_eq_getElem?, List.getElem?_eq_getElem hX1] at e
            injection e with e
            apply hz0
            rw [bget hX1, e]
            rfl
          go_loopw [3, 4] (fun n i wr => ∃ k : Nat, k ≤ X.length ∧ i = .int .i64 k ∧ n = .int .i64 ((valD (X.take k) : Nat) : Int) ∧ (∀ c ∈ X.take k, 48 ≤ c.toNat ∧ c.toNat ≤ 57) ∧ valD (X.take k) < 10 ^ k ∧ ∃ d, wr = w.drewN d) (fun _ i _ => X.length - (intOf i).toNat)
          case atStart => exact ⟨0, Nat.zero_le _, rfl, rfl, by simp, by simp [valD], 0, rfl⟩
          case round =>
            obtain ⟨k, hk, rfl, rfl, hdig, hval, d, rfl⟩ := hrel
            by_cases hk2 : k < X.length
            · by_cases hd : 48 ≤ X[k].toNat ∧ X[k].toNat ≤ 57
              · have g1 : ¬ (((⟨X.toArray⟩ : ByteArray)[k]'(by show k < X.toArray.size; simpa using hk2)).toNat : Int) < 48 := by rw [bget hk2]; omega
                have g2 : ¬ (57 : Int) < (((⟨X.toArray⟩ : ByteArray)[k]'(by show k < X.toArray.size; simpa using hk2)).toNat : Int) := by rw [bget hk2]; omega
                have hv6 : valD (X.take k) < 1000000 := by
                  have : 10 ^ k ≤ 10 ^ 6 := Nat.pow_le_pow_right (by omega) (by omega)
                  omega
                have HV : Hid (valD (X.take (k + 1)) = 10 * valD (X.take k) + (X[k].toNat - 48)) := by
                  show valD (X.take (k + 1)) = _
                  rw [List.take_add_one, List.getElem?_eq_getElem hk2]; exact valD_snoc _ _
                have HD : Hid (∀ c ∈ X.take (k + 1), 48 ≤ c.toNat ∧ c.toNat ≤ 57) := by
                  show ∀ c ∈ X.take (k + 1), _
                  intro c hcm
                  rw [List.take_add_one, List.getElem?_eq_getElem hk2] at hcm
                  simp only [Option.toList_some, List.mem_append, List.mem_singleton] at hcm
                  rcases hcm with hcm | rfl
                  · exact hdig c hcm
                  · exact hd
                go_wp2
                go_roundw
                case rel =>
                  refine ⟨k + 1, by omega, by go_num, ?_, HD.out, by rw [HV.out, Nat.pow_succ]; omega, d, rfl⟩
                  rw [HV.out]
                  have hB := congrArg UInt8.toNat (bget hk2)
                  congr 1
                  omega
                case measure => simp [intOf]; omega
              · have fin : ∀ n, n < 100 → X ≠ Lib.decDigits n := fun n _ e => hd (by subst e; exact dec_digit n _ (List.getElem_mem hk2))
                go_wp2
                all_goals first
                  | (go_ret; exact ⟨⟨d, rfl⟩, .inr ⟨rfl, fin⟩⟩)
                  | (exfalso; simp only [bget hk2] at *; simp_all; omega)
            · have hkX : X.take k = X := List.take_of_length_le (by omega)
              rw [hkX] at hdig hval
              have hfin := dec_valD X.length X rfl h0 hdig hzz
              have h106 : valD X < 1000000 := by
                have : 10 ^ k ≤ 10 ^ 6 := Nat.pow_le_pow_right (by omega) (by omega)
                omega
              have HX : Hid (X.take k = X) := hkX
              clear hkX
              go_wp2
              go_ret
              exact ⟨⟨d, rfl⟩, .inl ⟨valD X, hfin.symm, h106, by show Ending.returned (.int .i64 ((valD (X.take k) : Nat) : Int)) = _; rw [HX.out]⟩⟩
      · have hzz : 1 < X.length → X.head? ≠ some 48 := fun e => absurd e h1
        have h1' : ¬ (1 : Int) < (X.length : Int) := by omega
        go_enter Tryz.func73, Tryz.ntmps73
        go_wp2
        go_loopw [3, 4] (fun n i wr => ∃ k : Nat, k ≤ X.length ∧ i = .int .i64 k ∧ n = .int .i64 ((valD (X.take k) : Nat) : Int) ∧ (∀ c ∈ X.take k, 48 ≤ c.toNat ∧ c.toNat ≤ 57) ∧ valD (X.take k) < 10 ^ k ∧ ∃ d, wr = w.drewN d) (fun _ i _ => X.length - (intOf i).toNat)
        case atStart => exact ⟨0, Nat.zero_le _, rfl, rfl, by simp, by simp [valD], 0, rfl⟩
        case round =>
          obtain ⟨k, hk, rfl, rfl, hdig, hval, d, rfl⟩ := hrel
          by_cases hk2 : k < X.length
          · by_cases hd : 48 ≤ X[k].toNat ∧ X[k].toNat ≤ 57
            · have g1 : ¬ (((⟨X.toArray⟩ : ByteArray)[k]'(by show k < X.toArray.size; simpa using hk2)).toNat : Int) < 48 := by rw [bget hk2]; omega
              have g2 : ¬ (57 : Int) < (((⟨X.toArray⟩ : ByteArray)[k]'(by show k < X.toArray.size; simpa using hk2)).toNat : Int) := by rw [bget hk2]; omega
              have hv6 : valD (X.take k) < 1000000 := by
                have : 10 ^ k ≤ 10 ^ 6 := Nat.pow_le_pow_right (by omega) (by omega)
                omega
              have HV : Hid (valD (X.take (k + 1)) = 10 * valD (X.take k) + (X[k].toNat - 48)) := by
                show valD (X.take (k + 1)) = _
                rw [List.take_add_one, List.getElem?_eq_getElem hk2]; exact valD_snoc _ _
              have HD : Hid (∀ c ∈ X.take (k + 1), 48 ≤ c.toNat ∧ c.toNat ≤ 57) := by
                show ∀ c ∈ X.take (k + 1), _
                intro c hcm
                rw [List.take_add_one, List.getElem?_eq_getElem hk2] at hcm
                simp only [Option.toList_some, List.mem_append, List.mem_singleton] at hcm
                rcases hcm with hcm | rfl
                · exact hdig c hcm
                · exact hd
              go_wp2
              go_roundw
              case rel =>
                refine ⟨k + 1, by omega, by go_num, ?_, HD.out, by rw [HV.out, Nat.pow_succ]; omega, d, rfl⟩
                rw [HV.out]
                have hB := congrArg UInt8.toNat (bget hk2)
                congr 1
                omega
              case measure => simp [intOf]; omega
            · have fin : ∀ n, n < 100 → X ≠ Lib.decDigits n := fun n _ e => hd (by subst e; exact dec_digit n _ (List.getElem_mem hk2))
              go_wp2
              all_goals first
                | (go_ret; exact ⟨⟨d, rfl⟩, .inr ⟨rfl, fin⟩⟩)
                | (exfalso; simp only [bget hk2] at *; simp_all; omega)
          · have hkX : X.take k = X := List.take_of_length_le (by omega)
            rw [hkX] at hdig hval
            have hfin := dec_valD X.length X rfl h0 hdig hzz
            have h106 : valD X < 1000000 := by
              have : 10 ^ k ≤ 10 ^ 6 := Nat.pow_le_pow_right (by omega) (by omega)
              omega
            have HX : Hid (X.take k = X) := hkX
            clear hkX
            go_wp2
            go_ret
            exact ⟨⟨d, rfl⟩, .inl ⟨valD X, hfin.symm, h106, by show Ending.returned (.int .i64 ((valD (X.take k) : Nat) : Int)) = _; rw [HX.out]⟩⟩

end Go.Proofs.YtgpaajdfkekjiaaGreatDoor
