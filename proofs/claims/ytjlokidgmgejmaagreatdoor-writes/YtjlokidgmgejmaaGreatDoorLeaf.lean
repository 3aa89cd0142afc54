/-
  What the smallest functions of package circuit answer: within, Signal, Init, Last, Sizes, valueOf, Input. No condition but those named.
-/
import Derived.Test.YtjlokidgmgejmaaGreatDoorRows
import Derived.Test.YtjlokidgmgejmaaGreatDoorPlain
import Derived.WalkKit
import Derived.WalkSpells
import Derived.WalkLawsBesides
import Derived.BigQuiet
import Derived.Deep.QuietTactic
namespace Go.Proofs.YtjlokidgmgejmaaGreatDoor
open Go.RowKit

theorem ret_int {k : IntKind} {a b : Int} (h : a = b) : Ending.returned (.int k a) = .returned (.int k b) := by rw [h]
theorem ret_bool {a b : Bool} (h : a = b) : Ending.returned (.bool a) = .returned (.bool b) := by rw [h]

theorem bcell {W w1 : World} (hb : Below W.heap.size W w1) : (∀ b o, b < W.heap.size → w1.cell? ⟨b, o, none⟩ = W.cell? ⟨b, o, none⟩) ∧ (∀ b o, b < W.heap.size → w1.frozen? ⟨b, o, none⟩ = W.frozen? ⟨b, o, none⟩) :=
  ⟨fun b o h => hb.cell (p := ⟨b, o, none⟩) h, fun b o h => hb.frozen (p := ⟨b, o, none⟩) h⟩

theorem within_any (n m : Int) (w : World) :
    Calls Tryz.prog 82 #[.int .i64 n, .int .i64 m] w fun e w' => e = .returned (.bool (inB n m)) ∧ w' = w := by
  by_cases h : 0 ≤ n
  · by_cases h2 : n ≤ m
    · go_enter Tryz.func82, Tryz.ntmps82
      go_wp2
      go_ret
      exact ⟨ret_bool (by simp [inB, h, h2]), rfl⟩
    · go_enter Tryz.func82, Tryz.ntmps82
      go_wp2
      go_ret
      exact ⟨ret_bool (by simp [inB, h2]), rfl⟩
  · go_enter Tryz.func82, Tryz.ntmps82
    go_wp2
    go_ret
    exact ⟨ret_bool (by simp [inB]; omega), rfl⟩

theorem signal_any (s last : Int) (w : World) (h0 : 0 ≤ last) (h1 : last ≤ 1000000) :
    Calls Tryz.prog 68 #[.int .i64 s, .int .i64 last] w fun e w' => e = .returned (.bool (inB s (2 * last + 1))) ∧ w' = w := by
  go_enter Tryz.func68, Tryz.ntmps68
  go_wp2_with (go_at_call 82; refine (within_any _ _ _).mono ?_; rintro e w' ⟨rfl, rfl⟩)
  go_ret
  exact ⟨rfl, rfl⟩

theorem init_any (s : Int) (w : World) :
    Calls Tryz.prog 69 #[.int .i64 s] w fun e w' => e = .returned (.bool (inB s 1)) ∧ w' = w := by
  go_enter Tryz.func69, Tryz.ntmps69
  go_wp2_with (go_at_call 82; refine (within_any _ _ _).mono ?_; rintro e w' ⟨rfl, rfl⟩)
  go_ret
  exact ⟨rfl, rfl⟩

theorem signal_is {s last : Int} {b : Bool} (w : World) (h0 : 0 ≤ last) (h1 : last ≤ 1000000) (h : inB s (2 * last + 1) = b) :
    Calls Tryz.prog 68 #[.int .i64 s, .int .i64 last] w fun e w' => e = .returned (.bool b) ∧ w' = w := by
  subst h; exact signal_any s last w h0 h1
theorem init_is {s : Int} {b : Bool} (w : World) (h : inB s 1 = b) :
    Calls Tryz.prog 69 #[.int .i64 s] w fun e w' => e = .returned (.bool b) ∧ w' = w := by
  subst h; exact init_any s w

/-- The one block that 'Last' makes: the circuit's box. -/
theorem last_any (n : Int) (la ga oa : Option Addr) (ln lc gn gc on oc : Nat) (w : World) (h0 : 0 ≤ n) (h1 : n ≤ 4) (h2 : ln ≤ 1000) (h3 : gn ≤ 1000) :
    Calls Tryz.prog 65 #[.agg #[.int .i64 n, .slice la ln lc, .slice ga gn gc, .slice oa on oc]] w fun e w' =>
      e = .returned (.int .i64 (n + ln + gn)) ∧ w' = w.alloc (.cells #[.int .i64 n, .slice la ln lc, .slice ga gn gc, .slice oa on oc] 34) := by
  go_enter Tryz.func65, Tryz.ntmps65
  go_wp2
  go_ret
  exact ⟨rfl, rfl⟩


theorem sizes_any (i l o g : Int) (w : World) :
    Calls Tryz.prog 59 #[.int .i64 i, .int .i64 l, .int .i64 o, .int .i64 g] w fun e w' => e = .returned (.bool (sizesB i l o g)) ∧ w' = w := by
  cases h1 : inB i 4 <;> cases h2 : inB l 4 <;> cases h3 : inB o 4 <;> cases h4 : inB g 30 <;>
  · go_enter Tryz.func59, Tryz.ntmps59
    go_wp2_with (go_at_call 82; refine (within_any _ _ _).mono ?_; rintro e w' ⟨rfl, rfl⟩)
    go_ret
    exact ⟨ret_bool (by simp [sizesB, h1, h2, h3, h4]), rfl⟩

/-- 'valueOf' of a signal of a variable that has a value. -/
theorem valueOf_any (s : Int) (b off len cap : Nat) (vs : List Nat) (w : World) (h0 : 0 ≤ s) (hl : s / 2 < len) (hlen : len ≤ 1000) (hv : len = vs.length)
    (h01 : ∀ x ∈ vs, x ≤ 1) (hc : ∀ j, j < len → w.cell? ⟨b, off + j, none⟩ = some (.int .i64 ((vs.getD j 0 : Nat) : Int))) :
    Calls Tryz.prog 75 #[.int .i64 s, .slice (some ⟨b, off, none⟩) len cap] w fun e w' => e = .returned (.int .i64 (sigv s vs : Nat)) ∧ w' = w := by
  have hcell := hc (s / 2).toNat (by omega)
  have hx : vs.getD (s / 2).toNat 0 ≤ 1 := by
    have hlt : (s / 2).toNat < vs.length := by omega
    rw [List.getD_eq_getElem?_getD, List.getElem?_eq_getElem hlt]
    exact h01 _ (List.getElem_mem hlt)
  obtain ⟨x, hX⟩ : ∃ x, x = vs.getD (s / 2).toNat 0 := ⟨_, rfl⟩
  have hs : sigv s vs = (x + s.toNat % 2) % 2 := by unfold sigv; rw [hX]
  rw [← hX] at hcell hx
  rw [hs]
  clear hX hs hc h01 hv
  obtain ⟨S, rfl⟩ := Int.eq_ofNat_of_zero_le h0
  have eS : ((S : Int) / 2).toNat = S / 2 := by omega
  rw [eS] at hcell
  clear eS
  have e1 : bits .and .i64 (S : Int) 1 = ((S % 2 : Nat) : Int) := i64_and1 S (by omega)
  have e2 : bits .xor .i64 (x : Int) ((S % 2 : Nat) : Int) = (((x + S % 2) % 2 : Nat) : Int) := by
    rw [i64_xor_nat x (S % 2) (by omega) (by omega)]
    have h2 : S % 2 = 0 ∨ S % 2 = 1 := by omega
    have h3 : x = 0 ∨ x = 1 := by omega
    rcases h2 with h2 | h2 <;> rcases h3 with h3 | h3 <;> subst h3 <;> rw [h2] <;> rfl
  have E1 := e1
  have H2 : Hid (bits .xor .i64 (x : Int) ((S % 2 : Nat) : Int) = (((x + S % 2) % 2 : Nat) : Int)) := e2
  have H1 : Hid (bits .and .i64 (S : Int) 1 = ((S % 2 : Nat) : Int)) := e1
  clear e1 e2 E1
  go_enter Tryz.func75, Tryz.ntmps75
  go_wp2
  go_ret
  refine ⟨ret_int ?_, rfl⟩
  rw [H1.out, H2.out]; simp

theorem input_any (n : Nat) (v1 v2 v3 : Value) (x : Int) (w : World) (h1 : n ≤ 4) :
    Calls Tryz.prog 73 #[.agg #[.int .i64 n, v1, v2, v3], .int .i64 x] w fun e w' => e = .returned (.bool (inB x (2 ^ n - 1))) ∧ Below w.heap.size w w' := by
  go_enter Tryz.func73, Tryz.ntmps73
  go_wp2_with (go_at_call 82; refine (within_any _ _ _).mono ?_; rintro e w' ⟨rfl, rfl⟩)
  go_ret
  refine ⟨ret_bool ?_, (Below.refl _ _).alloc (Nat.le_refl _) _⟩
  have h : n = 0 ∨ n = 1 ∨ n = 2 ∨ n = 3 ∨ n = 4 := by omega
  rcases h with h | h | h | h | h <;> subst h <;> simp [wrap64]

theorem input_is {n : Nat} {v1 v2 v3 : Value} {x : Int} {b : Bool} (w : World) (h1 : n ≤ 4) (h : inB x (2 ^ n - 1) = b) :
    Calls Tryz.prog 73 #[.agg #[.int .i64 n, v1, v2, v3], .int .i64 x] w fun e w' => e = .returned (.bool b) ∧ Below w.heap.size w w' := by
  subst h; exact input_any n v1 v2 v3 x w h1

end Go.Proofs.YtjlokidgmgejmaaGreatDoor
