/-
  Plain mathematics of Slim's second pass: what is needed is closed; names grow.
-/
import Derived.Test.YtgpaajdfkekjiaaDoorSlimP
namespace Go.Proofs.YtgpaajdfkekjiaaDoor

/-- The gates that were kept: each signal of a variable ahead, the lesser ahead. -/
def KeptOk (first : Nat) (kept : List (Nat × Nat)) : Prop := ∀ k, k < kept.length → (kept.getD k (0, 0)).1 / 2 < (kept.getD k (0, 0)).2 / 2 ∧ (kept.getD k (0, 0)).2 / 2 < first + k ∧ 2 ≤ (kept.getD k (0, 0)).1
section
variable {first : Nat} {roots : List Nat} {kept : List (Nat × Nat)}

theorem need_mono {j : Nat} {v : Nat} (h : need first roots kept j v = true) : ∀ j', j ≤ j' → need first roots kept j' v = true := by
  intro j'
  induction j' with
  | zero => intro hj; have : j = 0 := by omega
            subst this; exact h
  | succ j' ih =>
    intro hj
    by_cases e : j = j' + 1
    · subst e; exact h
    · rw [need, ih (by omega)]; rfl
/-- A gate is not asked for by those ahead of it. -/
theorem need_still (hk : KeptOk first kept) {i : Nat} (hi : i < kept.length) : ∀ j, kept.length - 1 - i ≤ j → j ≤ kept.length → need first roots kept j (first + i) = need first roots kept (kept.length - 1 - i) (first + i) := by
  intro j
  induction j with
  | zero => intro h1 _; have : kept.length - 1 - i = 0 := by omega
            rw [this]
  | succ j ih =>
    intro h1 h2
    by_cases e : kept.length - 1 - i = j + 1
    · rw [e]
    · rw [need, ih (by omega) (by omega)]
      have := hk (kept.length - 1 - j) (by omega)
      rw [decide_eq_false (by omega), decide_eq_false (by omega)]
      simp
/-- What a gate that is needed asks for is needed. -/
theorem need_closed (hk : KeptOk first kept) {i : Nat} (hi : i < kept.length) (h : need first roots kept kept.length (first + i) = true) :
    need first roots kept kept.length ((kept.getD i (0, 0)).1 / 2) = true ∧ need first roots kept kept.length ((kept.getD i (0, 0)).2 / 2) = true := by
  rw [need_still hk hi _ (by omega) (Nat.le_refl _)] at h
  have e : kept.length - 1 - (kept.length - 1 - i) = i := by omega
  constructor
  · refine need_mono (j := kept.length - 1 - i + 1) ?_ _ (by omega)
    rw [need, e, h]
    simp
  · refine need_mono (j := kept.length - 1 - i + 1) ?_ _ (by omega)
    rw [need, e, h]
    simp
theorem need_root {s : Nat} (h : s ∈ roots) (j : Nat) : need first roots kept j (s / 2) = true := need_mono (j := 0) (by rw [need]; exact decide_eq_true ⟨s, h, rfl⟩) j (Nat.zero_le _)

variable {use : Nat → Bool}
theorem sl2_stay_mono (k : Nat) : ∀ k', k ≤ k' → (sl2 first use kept k).2.length ≤ (sl2 first use kept k').2.length := by
  intro k'
  induction k' with
  | zero => intro h; have : k = 0 := by omega
            subst this; exact Nat.le_refl _
  | succ k' ih =>
    intro h
    by_cases e : k = k' + 1
    · subst e; exact Nat.le_refl _
    · refine Nat.le_trans (ih (by omega)) ?_
      rw [sl2]
      split
      · simp
      · exact Nat.le_refl _
theorem sl2_stay_le (k : Nat) : (sl2 first use kept k).2.length ≤ k := by
  induction k with
  | zero => simp [sl2]
  | succ k ih =>
    rw [sl2]
    split
    · simp; omega
    · dsimp only; omega
/-- The name of a variable that is no gate. -/
theorem sl2_small {v : Nat} (hv : v < first) : ∀ k, (sl2 first use kept k).1.getD v 0 = 2 * v
  | 0 => by rw [sl2]; exact idn_get hv
  | k + 1 => by
    rw [sl2]
    split
    · dsimp only; rw [getD_snoc_lt (by rw [sl2_len]; omega)]; exact sl2_small hv k
    · dsimp only; rw [getD_snoc_lt (by rw [sl2_len]; omega)]; exact sl2_small hv k
/-- The name of a gate. -/
theorem sl2_gate {i : Nat} : ∀ k, i < k → (sl2 first use kept k).1.getD (first + i) 0 = if use (first + i) then 2 * (first + (sl2 first use kept i).2.length) else 0 := by
  intro k
  induction k with
  | zero => intro h; omega
  | succ k ih =>
    intro h
    by_cases e : i = k
    · subst e
      rw [sl2]
      have hl := sl2_len first use kept i
      split
      · dsimp only
        rw [← hl, getD_snoc_at]
      · dsimp only
        rw [← hl, getD_snoc_at]
    · rw [← ih (by omega), sl2]
      have hl := sl2_len first use kept k
      split
      · dsimp only; rw [getD_snoc_lt (by omega)]
      · dsimp only; rw [getD_snoc_lt (by omega)]
/-- One gate that stays makes the next names greater. -/
theorem sl2_more {i j : Nat} (hij : i < j) (hu : use (first + i) = true) : (sl2 first use kept i).2.length < (sl2 first use kept j).2.length := by
  refine Nat.lt_of_lt_of_le ?_ (sl2_stay_mono (i + 1) j hij)
  rw [sl2, if_pos hu]
  simp
/-- Of two variables that are there the later has the greater name. -/
theorem sl2_lt {v w k : Nat} (hvw : v < w) (hw : w < first + k) (hv : v < first ∨ use v = true) (hw2 : w < first ∨ use w = true) : (sl2 first use kept k).1.getD v 0 + 2 ≤ (sl2 first use kept k).1.getD w 0 := by
  by_cases h1 : w < first
  · rw [sl2_small (by omega), sl2_small h1]; omega
  · obtain ⟨j, rfl⟩ : ∃ j, w = first + j := ⟨w - first, by omega⟩
    have u2 : use (first + j) = true := hw2.resolve_left h1
    rw [sl2_gate k (by omega), if_pos u2]
    by_cases h2 : v < first
    · rw [sl2_small h2]; omega
    · obtain ⟨i, rfl⟩ : ∃ i, v = first + i := ⟨v - first, by omega⟩
      have u1 : use (first + i) = true := hv.resolve_left h2
      rw [sl2_gate k (by omega), if_pos u1]
      have := sl2_more (kept := kept) (show i < j by omega) u1
      omega
theorem sl2_even {v k : Nat} (hv : v < first + k) : (sl2 first use kept k).1.getD v 0 % 2 = 0 := by
  by_cases h : v < first
  · rw [sl2_small h]; omega
  · obtain ⟨i, rfl⟩ : ∃ i, v = first + i := ⟨v - first, by omega⟩
    rw [sl2_gate k (by omega)]
    split <;> omega
/-- The names do not change as more come. -/
theorem sl2_keep {v k : Nat} (hv : v < first + k) : ∀ k', k ≤ k' → (sl2 first use kept k').1.getD v 0 = (sl2 first use kept k).1.getD v 0 := by
  intro k' hk'
  by_cases h : v < first
  · rw [sl2_small h, sl2_small h]
  · obtain ⟨i, rfl⟩ : ∃ i, v = first + i := ⟨v - first, by omega⟩
    rw [sl2_gate k (by omega), sl2_gate k' (by omega)]
/-- A gate that stays has its lesser signal ahead, as it was. -/
theorem sl2_order (hk : KeptOk first kept) (hc : ∀ i, i < kept.length → use (first + i) = true → (use ((kept.getD i (0, 0)).1 / 2) = true ∧ use ((kept.getD i (0, 0)).2 / 2) = true)) {i : Nat} (hi : i < kept.length) (hu : use (first + i) = true) :
    putS ((sl2 first use kept i).1 ++ [2 * (first + (sl2 first use kept i).2.length)]) (kept.getD i (0, 0)).1 < putS ((sl2 first use kept i).1 ++ [2 * (first + (sl2 first use kept i).2.length)]) (kept.getD i (0, 0)).2 := by
  obtain ⟨h1, h2, _⟩ := hk i hi
  obtain ⟨c1, c2⟩ := hc i hi hu
  have hl := sl2_len first use kept i
  have := sl2_lt (kept := kept) (use := use) (k := i) h1 h2 (.inr c1) (.inr c2)
  have e1 := putS_half ((sl2 first use kept i).1 ++ [2 * (first + (sl2 first use kept i).2.length)]) (kept.getD i (0, 0)).1
  have e2 := putS_half ((sl2 first use kept i).1 ++ [2 * (first + (sl2 first use kept i).2.length)]) (kept.getD i (0, 0)).2
  rw [getD_snoc_lt (by omega)] at e1 e2
  omega
end

end Go.Proofs.YtgpaajdfkekjiaaDoor
