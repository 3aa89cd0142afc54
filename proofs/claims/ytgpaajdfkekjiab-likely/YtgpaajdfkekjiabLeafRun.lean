/-
  What valueOf and Input of package circuit answer. No condition but those named.
-/
import Derived.Test.YtgpaajdfkekjiabLeaf
namespace Go.Proofs.Ytgpaajdfkekjiab
open Go.RowKit

/-- 'valueOf' of a signal of a variable that has a value. -/
theorem valueOf_any (s : Int) (b off len cap : Nat) (vs : List Nat) (w : World) (h0 : 0 ≤ s) (hl : s / 2 < len) (hlen : len ≤ 1000) (hv : len = vs.length)
    (h01 : ∀ x ∈ vs, x ≤ 1) (hc : ∀ j, j < len → w.cell? ⟨b, off + j, none⟩ = some (.int .i64 ((vs.getD j 0 : Nat) : Int))) :
    Calls Try.prog 24 #[.int .i64 s, .slice (some ⟨b, off, none⟩) len cap] w fun e w' => e = .returned (.int .i64 (sigv s vs : Nat)) ∧ w' = w := by
  have hcell := hc (s / 2).toNat (by omega)
  have hx : vs.getD (s / 2).toNat 0 ≤ 1 := by
    have hlt : (s / 2).toNat < vs.length := by omega
    rw [List.getD_eq_getElem?_getD, List.getElem?_eq_getElem hlt]
    exact h01 _ (List.getElem_mem hlt)
  obtain ⟨x, hX⟩ : ∃ x, x = vs.getD (s / 2).toNat 0 := ⟨_, rfl⟩
  have hs : sigv s vs = (x + s.toNat % 2) % 2 := by unfold sigv; rw [hX]
  rw [← hX] at hcell hx
  rw [hs]
  clear hX hs hc h01 hv
  obtain ⟨S, rfl⟩ := Int.eq_ofNat_of_zero_le h0
  have eS : ((S : Int) / 2).toNat = S / 2 := by omega
  rw [eS] at hcell
  clear eS
  have e1 : bits .and .i64 (S : Int) 1 = ((S % 2 : Nat) : Int) := i64_and1 S (by omega)
  have e2 : bits .xor .i64 (x : Int) ((S % 2 : Nat) : Int) = (((x + S % 2) % 2 : Nat) : Int) := by
    rw [i64_xor_nat x (S % 2) (by omega) (by omega)]
    have h2 : S % 2 = 0 ∨ S % 2 = 1 := by omega
    have h3 : x = 0 ∨ x = 1 := by omega
    rcases h2 with h2 | h2 <;> rcases h3 with h3 | h3 <;> subst h3 <;> rw [h2] <;> rfl
  have E1 := e1
  have H2 : Hid (bits .xor .i64 (x : Int) ((S % 2 : Nat) : Int) = (((x + S % 2) % 2 : Nat) : Int)) := e2
  have H1 : Hid (bits .and .i64 (S : Int) 1 = ((S % 2 : Nat) : Int)) := e1
  clear e1 e2 E1
  go_enter Try.func24, Try.ntmps24
  go_wp2
  go_ret
  refine ⟨ret_int ?_, rfl⟩
  rw [H1.out, H2.out]; simp

theorem input_any (n : Nat) (v1 v2 v3 : Value) (x : Int) (w : World) (h1 : n ≤ 4) :
    Calls Try.prog 22 #[.agg #[.int .i64 n, v1, v2, v3], .int .i64 x] w fun e w' => e = .returned (.bool (inB x (2 ^ n - 1))) ∧ Below w.heap.size w w' := by
  go_enter Try.func22, Try.ntmps22
  go_wp2_with (go_at_call 25; refine (within_any _ _ _).mono ?_; rintro e w' ⟨rfl, rfl⟩)
  go_ret
  refine ⟨ret_bool ?_, (Below.refl _ _).alloc (Nat.le_refl _) _⟩
  have h : n = 0 ∨ n = 1 ∨ n = 2 ∨ n = 3 ∨ n = 4 := by omega
  rcases h with h | h | h | h | h <;> subst h <;> simp [wrap64]

theorem input_is {n : Nat} {v1 v2 v3 : Value} {x : Int} {b : Bool} (w : World) (h1 : n ≤ 4) (h : inB x (2 ^ n - 1) = b) :
    Calls Try.prog 22 #[.agg #[.int .i64 n, v1, v2, v3], .int .i64 x] w fun e w' => e = .returned (.bool b) ∧ Below w.heap.size w w' := by
  subst h; exact input_any n v1 v2 v3 x w h1

end Go.Proofs.Ytgpaajdfkekjiab
