/-
  Lists of floats, and sameFloats of package latchlaw.
-/
import Derived.Test.YtgpaajdfkekjiaaGreatDoorBkOne
namespace Go.Proofs.YtgpaajdfkekjiaaGreatDoor
open Go.RowKit

/-- A list of floats lies at an address. -/
def FltsAt (w : World) (a : Option Addr) (xs : List Nat) : Prop := xs = [] ∨ ∃ b off, a = some ⟨b, off, none⟩ ∧ b < w.heap.size ∧ ∀ i, i < xs.length → w.cell? ⟨b, off + i, none⟩ = some (.float .f64 (xs.getD i 0))
theorem FltsAt.below {w w' : World} {a : Option Addr} {xs : List Nat} (h : FltsAt w a xs) (hb : Below w.heap.size w w') : FltsAt w' a xs := by
  rcases h with h | ⟨b, off, ha, hlt, hc⟩
  · exact .inl h
  · exact .inr ⟨b, off, ha, Nat.lt_of_lt_of_le hlt hb.size, fun i hi => (hb.cell (p := ⟨b, off + i, none⟩) hlt).trans (hc i hi)⟩
theorem FltsAt.get {w : World} {a : Option Addr} {xs : List Nat} (h : FltsAt w a xs) (h0 : 0 < xs.length) : ∃ b off, a = some ⟨b, off, none⟩ ∧ b < w.heap.size ∧ ∀ i, i < xs.length → w.cell? ⟨b, off + i, none⟩ = some (.float .f64 (xs.getD i 0)) := by
  rcases h with h | h
  · rw [h] at h0; simp at h0
  · exact h
theorem own_fltsC {w : World} {base e c : Nat} {a : Option Addr} {xs : List Nat} (h : w.ownsRow base e 1 (.slice a xs.length c) xs.length (fvals xs)) : FltsAt w a xs := by
  rcases h.2 with ⟨h1, h0⟩ | ⟨g, cap, cur, hv, _⟩
  · obtain rfl : xs = [] := List.length_eq_zero_iff.1 h0
    exact .inl rfl
  · simp only [Value.slice.injEq, true_and] at hv
    obtain ⟨rfl, rfl⟩ := hv
    refine .inr ⟨g, 0, rfl, (h.lt g rfl).2, fun i hi => ?_⟩
    rw [Nat.zero_add, h.cellAt i (by omega)]
    simp [fvals, hi]

set_option maxHeartbeats 1000000 in
set_option maxRecDepth 100000 in
theorem sameFloats_eq (aa ba : Option Addr) (ac bc : Nat) (xs : List Nat) (w : World) (hx : xs.length ≤ 1000) (hs : ∀ i, i < xs.length → FloatKind.f64.format.order (xs.getD i 0) (xs.getD i 0) = some .eq) (hX : FltsAt w aa xs) (hY : FltsAt w ba xs) :
    Calls Tryz.prog 31 #[.slice aa xs.length ac, .slice ba xs.length bc] w fun e w' => e = .returned (.bool true) ∧ Below w.heap.size w w' := by
  go_enter Tryz.func31, Tryz.ntmps31
  go_wp2
  go_loopw [5] (fun i wr => ∃ k : Nat, k ≤ xs.length ∧ i = .int .i64 k ∧ Below w.heap.size w wr) (fun i _ => xs.length - (intOf i).toNat)
  case atStart => exact ⟨0, Nat.zero_le _, rfl, Below.refl _ _⟩
  case round =>
    obtain ⟨k, hk, rfl, bel⟩ := hrel
    by_cases hk2 : k < xs.length
    · obtain ⟨b, off, rfl, hlt, hc⟩ := hX.get (by omega)
      obtain ⟨b', off', rfl, hlt', hc'⟩ := hY.get (by omega)
      have d0 := (bel.cell (p := ⟨b, off + k, none⟩) hlt).trans (hc k hk2)
      have d1 := (bel.cell (p := ⟨b', off' + k, none⟩) hlt').trans (hc' k hk2)
      have he := hs k hk2
      obtain ⟨x, hx9⟩ : ∃ x, x = xs.getD k 0 := ⟨_, rfl⟩
      rw [← hx9] at d0 d1 he
      have kI : (k : Int) < (xs.length : Int) := by omega
      have k0 : (0 : Int) ≤ (k : Int) := by omega
      clear hx9 hc hc'
      go_wp2
      go_quiet (fail)
      go_wp2
      go_roundw
      case rel => exact ⟨k + 1, by omega, by go_num, below_drewN bel _⟩
      case measure => simp [intOf]; omega
    · have hkN : ¬ ((k : Int) < (xs.length : Int)) := by omega
      go_wp2
      go_ret
      exact ⟨rfl, bel⟩

end Go.Proofs.YtgpaajdfkekjiaaGreatDoor
