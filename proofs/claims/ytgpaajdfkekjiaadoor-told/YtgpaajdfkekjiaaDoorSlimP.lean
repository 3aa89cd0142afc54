/-
  Plain mathematics of Slim: which gates are kept and stay, and what each variable's signal is put as. No program in it.
-/
import Derived.Test.YtgpaajdfkekjiaaDoorPlain
namespace Go.Proofs.YtgpaajdfkekjiaaDoor

/-- Every variable as itself. -/
def idn (first : Nat) : List Nat := (List.range first).map (2 * ·)
/-- A signal put anew. -/
def putS (l : List Nat) (s : Nat) : Nat := l.getD (s / 2) 0 ^^^ (s % 2)
/-- A gate put anew, the lesser ahead. -/
def putG (l : List Nat) (g : Nat × Nat) : Nat × Nat := (min (putS l g.1) (putS l g.2), max (putS l g.1) (putS l g.2))

theorem xor_bit (a b : Nat) (hb : b ≤ 1) : (a ^^^ b) / 2 = a / 2 ∧ (a ^^^ b) % 2 = (a + b) % 2 := by
  have h : b = 0 ∨ b = 1 := by omega
  rcases h with rfl | rfl
  · simp
  · constructor
    · have := Nat.xor_div_two (a := a) (b := 1); simpa using this
    · have h := Nat.xor_mod_two_pow (a := a) (b := 1) (n := 1)
      simp only [Nat.pow_one] at h
      rw [h]
      have h2 : a % 2 = 0 ∨ a % 2 = 1 := by omega
      rcases h2 with h2 | h2 <;> rw [h2]
      · show 1 = _
        omega
      · show 0 = _
        omega
theorem putS_half (l : List Nat) (s : Nat) : putS l s / 2 = l.getD (s / 2) 0 / 2 := (xor_bit _ _ (by omega)).1
theorem putS_bit (l : List Nat) (s : Nat) : putS l s % 2 = (l.getD (s / 2) 0 + s % 2) % 2 := (xor_bit _ _ (by omega)).2

/-- One gate more: the names and the gates that are kept. -/
def slStep (first : Nat) (t : List Nat × List (Nat × Nat)) (g : Nat × Nat) : List Nat × List (Nat × Nat) :=
  let h := putG t.1 g
  if h.1 = 0 then (t.1 ++ [0], t.2)
  else if h.1 = 1 then (t.1 ++ [h.2], t.2)
  else if h.1 = h.2 then (t.1 ++ [h.1], t.2)
  else if h.1 / 2 = h.2 / 2 then (t.1 ++ [0], t.2)
  else if h ∈ t.2 then (t.1 ++ [2 * (first + t.2.idxOf h)], t.2)
  else (t.1 ++ [2 * (first + t.2.length)], t.2 ++ [h])
def sl1 (first : Nat) (gs : List (Nat × Nat)) : Nat → List Nat × List (Nat × Nat)
  | 0 => (idn first, [])
  | k + 1 => slStep first (sl1 first gs k) (gs.getD k (0, 0))

/-- Which variables are needed, the gates from the k-th on having been gone through. -/
def need (first : Nat) (roots : List Nat) (kept : List (Nat × Nat)) : Nat → Nat → Bool
  | 0, v => decide (∃ s ∈ roots, s / 2 = v)
  | j + 1, v => need first roots kept j v || (need first roots kept j (first + (kept.length - 1 - j)) && (decide ((kept.getD (kept.length - 1 - j) (0, 0)).1 / 2 = v) || decide ((kept.getD (kept.length - 1 - j) (0, 0)).2 / 2 = v)))

/-- The gates that stay, of the first k. -/
def sl2 (first : Nat) (use : Nat → Bool) (kept : List (Nat × Nat)) : Nat → List Nat × List (Nat × Nat)
  | 0 => (idn first, [])
  | k + 1 =>
    let t := sl2 first use kept k
    if use (first + k) then
      (t.1 ++ [2 * (first + t.2.length)], t.2 ++ [(putS (t.1 ++ [2 * (first + t.2.length)]) (kept.getD k (0, 0)).1, putS (t.1 ++ [2 * (first + t.2.length)]) (kept.getD k (0, 0)).2)])
    else (t.1 ++ [0], t.2)

theorem idn_len (first : Nat) : (idn first).length = first := by simp [idn]
theorem idn_get {first v : Nat} (h : v < first) : (idn first).getD v 0 = 2 * v := by simp [idn, h]
theorem slStep_len (first : Nat) (t : List Nat × List (Nat × Nat)) (g : Nat × Nat) : (slStep first t g).1.length = t.1.length + 1 := by
  unfold slStep
  dsimp only
  repeat' split
  all_goals simp
theorem sl1_len (first : Nat) (gs : List (Nat × Nat)) (k : Nat) : (sl1 first gs k).1.length = first + k := by
  induction k with
  | zero => simp [sl1, idn_len]
  | succ k ih => rw [sl1, slStep_len, ih]; omega
theorem sl2_len (first : Nat) (use : Nat → Bool) (kept : List (Nat × Nat)) (k : Nat) : (sl2 first use kept k).1.length = first + k := by
  induction k with
  | zero => simp [sl2, idn_len]
  | succ k ih =>
    rw [sl2]
    split <;> simp [ih] <;> omega

/-- The gates are right: each signal is of a variable ahead. -/
def GatesOk (first : Nat) (gs : List (Nat × Nat)) : Prop := ∀ k, k < gs.length → (gs.getD k (0, 0)).1 / 2 < first + k ∧ (gs.getD k (0, 0)).2 / 2 < first + k

/-- What the first pass keeps. -/
structure Sl1Inv (first : Nat) (t : List Nat × List (Nat × Nat)) : Prop where
  names : ∀ v, v < t.1.length → t.1.getD v 0 / 2 < first + t.2.length
  ahead : ∀ k, k < t.2.length → (t.2.getD k (0, 0)).1 / 2 < (t.2.getD k (0, 0)).2 / 2 ∧ (t.2.getD k (0, 0)).2 / 2 < first + k ∧ 2 ≤ (t.2.getD k (0, 0)).1
  nodup : t.2.Nodup
  small : ∀ v, v < first → t.1.getD v 0 = 2 * v
  long : first ≤ t.1.length

theorem getD_snoc_lt {α : Type} {l : List α} {x d : α} {j : Nat} (h : j < l.length) : (l ++ [x]).getD j d = l.getD j d := by
  simp only [List.getD_eq_getElem?_getD]; rw [List.getElem?_append_left h]
theorem getD_snoc_at {α : Type} (l : List α) (x d : α) : (l ++ [x]).getD l.length d = x := by simp [List.getD_eq_getElem?_getD]

theorem minmax (a b : Nat) : (min a b = a ∧ max a b = b) ∨ (min a b = b ∧ max a b = a) := by omega
theorem Sl1Inv.step {first : Nat} {t : List Nat × List (Nat × Nat)} (h : Sl1Inv first t) {g : Nat × Nat} (h1 : g.1 / 2 < t.1.length) (h2 : g.2 / 2 < t.1.length) : Sl1Inv first (slStep first t g) := by
  have a1 : putS t.1 g.1 / 2 < first + t.2.length := by rw [putS_half]; exact h.names _ h1
  have a2 : putS t.1 g.2 / 2 < first + t.2.length := by rw [putS_half]; exact h.names _ h2
  have b1 : (putG t.1 g).1 / 2 < first + t.2.length := by unfold putG; dsimp only; omega
  have b2 : (putG t.1 g).2 / 2 < first + t.2.length := by unfold putG; dsimp only; omega
  have b3 : (putG t.1 g).1 ≤ (putG t.1 g).2 := by unfold putG; dsimp only; omega
  have old : ∀ x, x / 2 < first + t.2.length → Sl1Inv first (t.1 ++ [x], t.2) := fun x hx => by
    refine ⟨fun v hv => ?_, h.ahead, h.nodup, fun v hv => ?_, by have := h.long; simp; omega⟩
    · simp only [List.length_append, List.length_singleton] at hv
      by_cases e : v = t.1.length
      · subst e; dsimp only; rw [getD_snoc_at]; exact hx
      · dsimp only; rw [getD_snoc_lt (by omega)]; exact h.names v (by omega)
    · dsimp only
      rw [getD_snoc_lt (by have := h.long; omega)]; exact h.small v hv
  unfold slStep
  dsimp only
  split
  · exact old 0 (by omega)
  split
  · exact old _ b2
  split
  · exact old _ b1
  split
  · exact old 0 (by omega)
  split
  · rename_i hm
    exact old _ (by have := List.idxOf_lt_length_iff.2 hm; omega)
  · rename_i c0 c1 c2 c3 hm
    refine ⟨fun v hv => ?_, fun k hk => ?_, ?_, fun v hv => ?_, by have := h.long; simp; omega⟩
    · simp only [List.length_append, List.length_singleton] at hv ⊢
      by_cases e : v = t.1.length
      · subst e; rw [getD_snoc_at]; omega
      · rw [getD_snoc_lt (by omega)]; have := h.names v (by omega); omega
    · simp only [List.length_append, List.length_singleton] at hk ⊢
      by_cases e : k = t.2.length
      · subst e; rw [getD_snoc_at]; omega
      · rw [getD_snoc_lt (by omega)]; exact h.ahead k (by omega)
    · refine List.nodup_append.2 ⟨h.nodup, by simp, fun a ha b hb e => ?_⟩
      simp at hb
      subst hb
      subst e
      exact hm ha
    · dsimp only
      rw [getD_snoc_lt (by have := h.long; omega)]; exact h.small v hv
theorem sl1_inv {first : Nat} {gs : List (Nat × Nat)} (hf : 0 < first) (hg : GatesOk first gs) : ∀ k, k ≤ gs.length → Sl1Inv first (sl1 first gs k)
  | 0, _ => ⟨fun v hv => by simp only [sl1, idn_len] at hv; simp only [sl1]; rw [idn_get hv]; simp; omega, fun k hk => by simp [sl1] at hk, by simp [sl1], fun v hv => idn_get hv, by simp [sl1, idn_len]⟩
  | k + 1, hk => by
    rw [sl1]
    have := hg k (by omega)
    exact (sl1_inv hf hg k (by omega)).step (by rw [sl1_len]; exact this.1) (by rw [sl1_len]; exact this.2)
theorem sl1_kept_le (first : Nat) (gs : List (Nat × Nat)) (k : Nat) : (sl1 first gs k).2.length ≤ k := by
  induction k with
  | zero => simp [sl1]
  | succ k ih =>
    rw [sl1]
    unfold slStep
    dsimp only
    repeat' split
    all_goals (try simp only [List.length_append, List.length_singleton]); omega

end Go.Proofs.YtgpaajdfkekjiaaDoor
