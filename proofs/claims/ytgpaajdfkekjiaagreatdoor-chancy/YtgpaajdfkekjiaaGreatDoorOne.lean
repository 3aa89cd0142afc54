/-
  What the book's one does with a call of Run: the program's answer is the document's, what was handed in reads as it did, and the book goes on.
-/
import Derived.Test.YtgpaajdfkekjiaaGreatDoorOutcome
namespace Go.Proofs.YtgpaajdfkekjiaaGreatDoor
open Go.RowKit

theorem ints_eq_of {xs ys : List Int} (hl : xs.length = ys.length) (h : ∀ j, j < xs.length → xs.getD j 0 = ys.getD j 0) : xs = ys := by
  apply List.ext_getElem hl
  intro i h1 h2
  have := h i h1
  simpa [h1, h2] using this

set_option maxHeartbeats 1000000 in
set_option maxRecDepth 100000 in
theorem sameInts_eq (aa ba : Option Addr) (n ac bc : Nat) (xs : List Int) (w : World) (hn : n = xs.length) (hx : xs.length ≤ 1000) (hX : IntsAt w aa xs) (hY : IntsAt w ba xs) :
    Calls Tryz.prog 17 #[.slice aa n ac, .slice ba n bc] w fun e w' => e = .returned (.bool true) ∧ Below w.heap.size w w' := by
  subst hn
  go_enter Tryz.func17, Tryz.ntmps17
  go_wp2
  go_loopw [5] (fun i wr => ∃ k : Nat, k ≤ xs.length ∧ i = .int .i64 k ∧ Below w.heap.size w wr) (fun i _ => xs.length - (intOf i).toNat)
  case atStart => exact ⟨0, Nat.zero_le _, rfl, Below.refl _ _⟩
  case round =>
    obtain ⟨k, hk, rfl, hbel⟩ := hrel
    by_cases hk2 : k < xs.length
    · obtain ⟨b, off, rfl, hlt, hc⟩ := hX.get (by omega)
      obtain ⟨b', off', rfl, hlt', hc'⟩ := hY.get (by omega)
      have hcy : wr.cell? ⟨b, off + k, none⟩ = some (.int .i64 (xs.getD k 0)) := (hbel.cell (p := ⟨b, _, none⟩) hlt).trans (hc k hk2)
      have hcz : wr.cell? ⟨b', off' + k, none⟩ = some (.int .i64 (xs.getD k 0)) := (hbel.cell (p := ⟨b', _, none⟩) hlt').trans (hc' k hk2)
      obtain ⟨x, hx'⟩ : ∃ x, x = xs.getD k 0 := ⟨_, rfl⟩
      rw [← hx'] at hcy hcz
      have k1 : (k : Int) < (xs.length : Int) := by omega
      clear hx' hc hc'
      go_wp2
      go_quiet (fail)
      go_wp2
      go_roundw
      case rel => exact ⟨k + 1, by omega, by go_num, below_drewN hbel _⟩
      case measure => simp [intOf]; omega
    · go_wp2
      go_ret
      exact ⟨rfl, hbel⟩

theorem num_any (x : Int) (w : World) : Calls Tryz.prog 14 #[.int .i64 x] w fun e w' => e = .returned (.int .i64 x) ∧ w' = w := by
  go_enter Tryz.func14, Tryz.ntmps14
  go_wp2
  go_ret
  exact ⟨rfl, rfl⟩

end Go.Proofs.YtgpaajdfkekjiaaGreatDoor
