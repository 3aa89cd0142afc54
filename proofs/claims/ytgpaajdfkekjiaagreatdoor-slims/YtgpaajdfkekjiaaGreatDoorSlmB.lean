/-
  namesAheadOfGates of package slim.
-/
import Derived.Test.YtgpaajdfkekjiaaGreatDoorSlmA
import Derived.Test.YtgpaajdfkekjiaaGreatDoorVals
namespace Go.Proofs.YtgpaajdfkekjiaaGreatDoor
open Go.RowKit

theorem hideS {p : Prop} (h : p) : Hid p := h

set_option maxHeartbeats 1000000 in
set_option maxRecDepth 100000 in
theorem names_any (n ln F : Nat) (la : Option Addr) (lc : Nat) (v2 v3 : Value) (w : World) (h1 : n ≤ 4) (h2 : ln ≤ 4) (hF : F = 1 + n + ln) :
    Calls Tryz.prog 98 #[.agg #[.int .i64 n, .slice la ln lc, v2, v3]] w fun e w' => ∃ v, e = .returned v ∧ w'.ownsRow w.heap.size 3 1 v F (ivals (idn F)) ∧ Below w.heap.size w w' := by
  obtain ⟨i0, hi, hz0, hz1, hz2⟩ := info_parts Tryz.infoInt
  have hFI : (1 : Int) + (n : Int) + (ln : Int) = (F : Int) := by omega
  have hF9 : F ≤ 9 := by omega
  have HF := hideS hF
  clear hF
  go_enter Tryz.func98, Tryz.ntmps98
  go_wp2
  go_loopw [3, 4, 12] (fun v _ i wr => ∃ k : Nat, k ≤ F ∧ i = .int .i64 k ∧ wr.ownsRow w.heap.size 3 1 v k (ivals (idn k)) ∧ Below w.heap.size w wr) (fun _ _ i _ => F - (intOf i).toNat)
  case atStart => exact ⟨0, Nat.zero_le _, rfl, ⟨rfl, .inl ⟨rfl, rfl⟩⟩, (Below.refl _ _).alloc (Nat.le_refl _) _⟩
  case round =>
    obtain ⟨k, hk, rfl, hown, hbel⟩ := hrel
    by_cases hk2 : k < F
    · have kI : (k : Int) < (F : Int) := by omega
      obtain ⟨X, hX⟩ : ∃ X : Nat, X = 2 * k := ⟨_, rfl⟩
      have hXI : (2 : Int) * (k : Int) = (X : Int) := by omega
      have HX := hideS hX
      clear hX
      have hsz := hbel.size
      go_wp2_with (at_builtin; refine wpList_append_lies _ rfl (.tmp 15) (.tmp 18) 165 rfl w.heap.size 3 i0 (.int .i64 0) 1 8 Tryz.underlying165 hi hz0 hz1 hz2 rfl (by omega) _ _ _ rfl (hown.alloc _) ⟨wr.heap.size, 0, none⟩ 1 1 [.int .i64 X] rfl rfl (cell_one_new _ _ _) (by simp; rfl) (by omega) (by unfold maxLen; omega) (by omega) (by simp; omega) _ rfl ?_)
      intro g' cap' w1 hown1 hgrow hat hlt1
      have e3 : Below w.heap.size w w1 := (hbel.alloc hsz _).grown hgrow (by simp; omega) (fun q hq => (hown.lt q hq).1)
      clear hgrow hat hown
      go_wp2
      go_roundw
      case rel => exact ⟨k + 1, by omega, by go_num, by rw [← idn_succ, ivals_snoc, ← HX.out]; exact hown1, e3⟩
      case measure => simp [intOf]; omega
    · have hkF : k = F := by omega
      subst hkF
      go_wp2
      go_ret
      exact ⟨_, rfl, hown, hbel⟩

end Go.Proofs.YtgpaajdfkekjiaaGreatDoor
