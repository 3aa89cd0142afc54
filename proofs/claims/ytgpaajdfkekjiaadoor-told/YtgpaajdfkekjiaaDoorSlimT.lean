/-
  Plain mathematics of Slim: the second pass; the slim circuit is right; it is not made smaller again.
-/
import Derived.Test.YtgpaajdfkekjiaaDoorSlimS
namespace Go.Proofs.YtgpaajdfkekjiaaDoor

theorem nd_iff {α : Type} {l : List α} : l.Nodup ↔ ∀ i j, i < j → j < l.length → l[i]? ≠ l[j]? := by
  unfold List.Nodup
  rw [List.pairwise_iff_getElem]
  constructor
  · intro h i j hij hj e
    rw [List.getElem?_eq_getElem (by omega), List.getElem?_eq_getElem hj] at e
    exact h i j (by omega) hj hij (Option.some.inj e)
  · intro h i j hi hj hij e
    refine h i j hij hj ?_
    rw [List.getElem?_eq_getElem hi, List.getElem?_eq_getElem hj, e]

section
variable {first : Nat} {kept : List (Nat × Nat)} {use : Nat → Bool}
/-- What is used is closed. -/
def Closed (first : Nat) (use : Nat → Bool) (kept : List (Nat × Nat)) : Prop := ∀ i, i < kept.length → use (first + i) = true → (use ((kept.getD i (0, 0)).1 / 2) = true ∧ use ((kept.getD i (0, 0)).2 / 2) = true)

theorem sl2_prefix (k : Nat) : ∀ k', k ≤ k' → (sl2 first use kept k).2 <+: (sl2 first use kept k').2 := by
  intro k'
  induction k' with
  | zero => intro h; have : k = 0 := by omega
            subst this; exact List.prefix_refl _
  | succ k' ih =>
    intro h
    by_cases e : k = k' + 1
    · subst e; exact List.prefix_refl _
    · refine (ih (by omega)).trans ?_
      rw [sl2]
      split
      · exact List.prefix_append _ _
      · exact List.prefix_refl _
/-- The gate that stays of the i-th. -/
theorem sl2_at (hk : KeptOk first kept) {i k : Nat} (hi : i < k) (hkl : k ≤ kept.length) (hu : use (first + i) = true) :
    (sl2 first use kept i).2.length < (sl2 first use kept k).2.length ∧
    (sl2 first use kept k).2.getD (sl2 first use kept i).2.length (0, 0) = (putS (sl2 first use kept k).1 (kept.getD i (0, 0)).1, putS (sl2 first use kept k).1 (kept.getD i (0, 0)).2) := by
  have hp := sl2_prefix (first := first) (use := use) (kept := kept) (i + 1) k hi
  have hl := sl2_len first use kept i
  obtain ⟨h1, h2, _⟩ := hk i (by omega)
  have e1 : (sl2 first use kept (i + 1)).2 = (sl2 first use kept i).2 ++ [(putS ((sl2 first use kept i).1 ++ [2 * (first + (sl2 first use kept i).2.length)]) (kept.getD i (0, 0)).1, putS ((sl2 first use kept i).1 ++ [2 * (first + (sl2 first use kept i).2.length)]) (kept.getD i (0, 0)).2)] := by
    rw [sl2, if_pos hu]
  have hlt : (sl2 first use kept i).2.length < (sl2 first use kept (i + 1)).2.length := by rw [e1]; simp
  refine ⟨Nat.lt_of_lt_of_le hlt hp.length_le, ?_⟩
  rw [prefix_get hp hlt, e1, getD_snoc_at]
  have key : ∀ s, s / 2 < first + i → putS ((sl2 first use kept i).1 ++ [2 * (first + (sl2 first use kept i).2.length)]) s = putS (sl2 first use kept k).1 s := fun s hs => by
    unfold putS
    rw [getD_snoc_lt (by omega), ← sl2_keep hs k (by omega)]
  rw [key _ (by omega), key _ (by omega)]
/-- Each gate that stays is one that was kept and is used. -/
theorem sl2_from : ∀ k, k ≤ kept.length → ∀ m, m < (sl2 first use kept k).2.length → ∃ i, i < k ∧ use (first + i) = true ∧ (sl2 first use kept i).2.length = m := by
  intro k
  induction k with
  | zero => intro _ m hm; simp [sl2] at hm
  | succ k ih =>
    intro hk m hm
    by_cases hu : use (first + k) = true
    · by_cases e : m = (sl2 first use kept k).2.length
      · exact ⟨k, by omega, hu, e.symm⟩
      · rw [sl2, if_pos hu] at hm
        simp at hm
        obtain ⟨i, h1, h2, h3⟩ := ih (by omega) m (by omega)
        exact ⟨i, by omega, h2, h3⟩
    · rw [sl2, if_neg hu] at hm
      obtain ⟨i, h1, h2, h3⟩ := ih (by omega) m hm
      exact ⟨i, by omega, h2, h3⟩

/-- What stays is as what was kept: in order, the lesser ahead. -/
theorem stay_ok (hk : KeptOk first kept) (hc : Closed first use kept) (hf : 0 < first) : KeptOk first (sl2 first use kept kept.length).2 := by
  intro m hm
  obtain ⟨i, hi, hu, rfl⟩ := sl2_from kept.length (Nat.le_refl _) m hm
  obtain ⟨_, e⟩ := sl2_at hk hi (Nat.le_refl _) hu
  obtain ⟨h1, h2, h3⟩ := hk i hi
  obtain ⟨c1, c2⟩ := hc i hi hu
  rw [e]
  dsimp only
  rw [putS_half, putS_half]
  have a := sl2_lt (first := first) (kept := kept) (use := use) (k := kept.length) h1 (by omega) (.inr c1) (.inr c2)
  have b := sl2_lt (first := first) (kept := kept) (use := use) (k := kept.length) h2 (by omega) (.inr c2) (.inr hu)
  rw [sl2_gate (i := i) kept.length hi, if_pos hu] at b
  have d : 2 ≤ (sl2 first use kept kept.length).1.getD ((kept.getD i (0, 0)).1 / 2) 0 := by
    have h0 : 0 < (kept.getD i (0, 0)).1 / 2 := by omega
    have := sl2_lt (first := first) (kept := kept) (use := use) (k := kept.length) h0 (by omega) (.inl hf) (.inr c1)
    omega
  have e1 := putS_half (sl2 first use kept kept.length).1 (kept.getD i (0, 0)).1
  have := sl2_even (kept := kept) (use := use) (k := kept.length) (v := (kept.getD i (0, 0)).1 / 2) (first := first) (by omega)
  omega
theorem even_half {a b : Nat} (ha : a % 2 = 0) (hb : b % 2 = 0) (h : a / 2 = b / 2) : a = b := by omega
/-- Names of variables that are there part. -/
theorem sl2_inj {v w k : Nat} (hv : v < first + k) (hw : w < first + k) (uv : v < first ∨ use v = true) (uw : w < first ∨ use w = true) (h : (sl2 first use kept k).1.getD v 0 = (sl2 first use kept k).1.getD w 0) : v = w := by
  rcases Nat.lt_trichotomy v w with h1 | h1 | h1
  · have := sl2_lt (first := first) (kept := kept) h1 hw uv uw; omega
  · exact h1
  · have := sl2_lt (first := first) (kept := kept) h1 hv uw uv; omega
theorem putS_inj {k a b : Nat} (ha : a / 2 < first + k) (hb : b / 2 < first + k) (ua : a / 2 < first ∨ use (a / 2) = true) (ub : b / 2 < first ∨ use (b / 2) = true) (h : putS (sl2 first use kept k).1 a = putS (sl2 first use kept k).1 b) : a = b := by
  have e1 := putS_half (sl2 first use kept k).1 a
  have e2 := putS_half (sl2 first use kept k).1 b
  have b1 := putS_bit (sl2 first use kept k).1 a
  have b2 := putS_bit (sl2 first use kept k).1 b
  have v1 := sl2_even (kept := kept) (use := use) ha
  have v2 := sl2_even (kept := kept) (use := use) hb
  have := sl2_inj (kept := kept) ha hb ua ub (even_half v1 v2 (by rw [← e1, ← e2, h]))
  rw [h] at b1
  omega
theorem stay_nodup (hk : KeptOk first kept) (hc : Closed first use kept) (hn : kept.Nodup) : (sl2 first use kept kept.length).2.Nodup := by
  rw [nd_iff]
  intro m m' hmm hm' e
  obtain ⟨i, hi, hu, ei⟩ := sl2_from (first := first) (use := use) kept.length (Nat.le_refl _) m (by omega)
  obtain ⟨j, hj, hu', ej⟩ := sl2_from (first := first) (use := use) kept.length (Nat.le_refl _) m' hm'
  obtain ⟨_, g1⟩ := sl2_at hk hi (Nat.le_refl _) hu
  obtain ⟨_, g2⟩ := sl2_at hk hj (Nat.le_refl _) hu'
  rw [ei, List.getD_eq_getElem?_getD] at g1
  rw [ej, List.getD_eq_getElem?_getD] at g2
  rw [e, g2] at g1
  obtain ⟨h1, h2, _⟩ := hk i hi
  obtain ⟨h1', h2', _⟩ := hk j hj
  obtain ⟨c1, c2⟩ := hc i hi hu
  obtain ⟨c1', c2'⟩ := hc j hj hu'
  have p1 := putS_inj (kept := kept) (use := use) (k := kept.length) (by omega) (by omega) (.inr c1') (.inr c1) (congrArg Prod.fst g1)
  have p2 := putS_inj (kept := kept) (use := use) (k := kept.length) (by omega) (by omega) (.inr c2') (.inr c2) (congrArg Prod.snd g1)
  have hij : i ≠ j := fun h => by rw [h, ej] at ei; omega
  have hne := nd_iff.1 hn
  have heq : kept[i]? = kept[j]? := by
    rw [List.getElem?_eq_getElem hi, List.getElem?_eq_getElem hj]
    have q1 : kept.getD i (0, 0) = kept[i] := by rw [List.getD_eq_getElem?_getD, List.getElem?_eq_getElem hi]; rfl
    have q2 : kept.getD j (0, 0) = kept[j] := by rw [List.getD_eq_getElem?_getD, List.getElem?_eq_getElem hj]; rfl
    rw [← q1, ← q2]
    exact congrArg some (Prod.ext p1.symm p2.symm)
  rcases Nat.lt_or_ge i j with h | h
  · exact hne i j h hj heq
  · exact hne j i (by omega) hi heq.symm

/-- The second pass: each variable that is there has the value of its new name. -/
theorem sl2_sem {bs : List Nat} (hb : bs.length = first) (h01 : ∀ x ∈ bs, x ≤ 1) (hf : 0 < first) (hk : KeptOk first kept) (hc : Closed first use kept) : ∀ v, v < first + kept.length → (v < first ∨ use v = true) →
    (valN kept bs).getD v 0 = sigN ((sl2 first use kept kept.length).1.getD v 0) (valN (sl2 first use kept kept.length).2 bs) := by
  obtain ⟨V2, hV2⟩ : ∃ V2, V2 = valN (sl2 first use kept kept.length).2 bs := ⟨_, rfl⟩
  have hs := stay_ok hk hc hf
  rw [← hV2]
  intro v
  induction v using Nat.strongRecOn with
  | ind v ih =>
    intro hv hu
    by_cases h : v < first
    · rw [sl2_small h, valN_base _ _ (by omega)]
      unfold sigN
      rw [show 2 * v / 2 = v by omega, show 2 * v % 2 = 0 by omega, hV2, valN_base _ _ (by omega)]
      have : bs.getD v 0 ≤ 1 := by
        rw [List.getD_eq_getElem?_getD, List.getElem?_eq_getElem (show v < bs.length by omega)]
        exact h01 _ (List.getElem_mem _)
      omega
    · obtain ⟨i, rfl⟩ : ∃ i, v = first + i := ⟨v - first, by omega⟩
      have hi : i < kept.length := by omega
      have u := hu.resolve_left h
      obtain ⟨h1, h2, _⟩ := hk i hi
      obtain ⟨c1, c2⟩ := hc i hi u
      obtain ⟨hlt, e⟩ := sl2_at hk hi (Nat.le_refl _) u
      have g1 := valN_gate (bs := bs) (gs := kept) (by rw [hb]; exact kept_gates hk) hi
      have g2 := valN_gate (bs := bs) (gs := (sl2 first use kept kept.length).2) (by rw [hb]; exact kept_gates hs) hlt
      rw [hb] at g1 g2
      rw [← hV2, e] at g2
      dsimp only at g2
      have key : ∀ s, s / 2 < first + i → use (s / 2) = true → sigN s (valN kept bs) = sigN (putS (sl2 first use kept kept.length).1 s) V2 := fun s hs us => by
        rw [sig_put, ← ih _ hs (by omega) (.inr us)]
        unfold sigN
        omega
      rw [g1, key _ (by omega) c1, key _ (by omega) c2, ← g2, sl2_gate (i := i) kept.length hi, if_pos u]
      unfold sigN
      rw [show 2 * (first + (sl2 first use kept i).2.length) / 2 = first + (sl2 first use kept i).2.length by omega, show 2 * (first + (sl2 first use kept i).2.length) % 2 = 0 by omega]
      have := valN_01 (gs := (sl2 first use kept kept.length).2) h01 (first + (sl2 first use kept i).2.length)
      rw [← hV2] at this
      omega
end

/-- A gate list in the form that Slim gives is not changed by the first pass. -/
theorem putS_idn {m s : Nat} (h : s / 2 < m) : putS (idn m) s = s := by
  have e1 := putS_half (idn m) s
  have e2 := putS_bit (idn m) s
  rw [idn_get h] at e1 e2
  omega
theorem idn_succ (m : Nat) : idn m ++ [2 * m] = idn (m + 1) := by simp [idn, List.range_succ]
theorem take_getD {α : Type} (l : List α) (d : α) (k : Nat) (hk : k < l.length) : l.take (k + 1) = l.take k ++ [l.getD k d] := by
  rw [List.take_succ_eq_append_getElem hk]; simp [hk]
theorem sl1_idem {first : Nat} {gs : List (Nat × Nat)} (hk : KeptOk first gs) (hn : gs.Nodup) : ∀ k, k ≤ gs.length → sl1 first gs k = (idn (first + k), gs.take k) := by
  intro k
  induction k with
  | zero => intro _; simp [sl1]
  | succ k ih =>
    intro h
    obtain ⟨h1, h2, h3⟩ := hk k (by omega)
    have hp : putG (idn (first + k)) (gs.getD k (0, 0)) = gs.getD k (0, 0) := by
      unfold putG
      rw [putS_idn (by omega), putS_idn (by omega)]
      exact Prod.ext (Nat.min_eq_left (by omega)) (Nat.max_eq_right (by omega))
    have hm : gs.getD k (0, 0) ∉ gs.take k := fun hm => by
      obtain ⟨j, hj, e⟩ := List.getElem_of_mem hm
      have hj' : j < k := by simp at hj; omega
      rw [List.getElem_take] at e
      have e2 : gs.getD k (0, 0) = gs[k] := by rw [List.getD_eq_getElem?_getD, List.getElem?_eq_getElem (show k < gs.length by omega)]; rfl
      have hne := nd_iff.1 hn j k hj' (by omega)
      rw [List.getElem?_eq_getElem (show j < gs.length by omega), List.getElem?_eq_getElem (show k < gs.length by omega)] at hne
      exact hne (by rw [e, e2])
    rw [sl1, ih (by omega)]
    unfold slStep
    dsimp only
    rw [hp, if_neg (by omega), if_neg (by omega), if_neg (by omega), if_neg (by omega), if_neg hm]
    rw [take_getD gs (0, 0) k (by omega)]
    have hl : (gs.take k).length = k := by simp; omega
    rw [hl, idn_succ]
    rfl
theorem sl2_idem {first : Nat} {gs : List (Nat × Nat)} {use : Nat → Bool} (hk : KeptOk first gs) (hu : ∀ i, i < gs.length → use (first + i) = true) : ∀ k, k ≤ gs.length → sl2 first use gs k = (idn (first + k), gs.take k) := by
  intro k
  induction k with
  | zero => intro _; simp [sl2]
  | succ k ih =>
    intro h
    obtain ⟨h1, h2, h3⟩ := hk k (by omega)
    have hl : (gs.take k).length = k := by simp; omega
    rw [sl2, ih (by omega), if_pos (hu k (by omega))]
    dsimp only
    rw [hl, idn_succ, putS_idn (by omega), putS_idn (by omega), take_getD gs (0, 0) k (by omega)]
    rfl

end Go.Proofs.YtgpaajdfkekjiaaDoor
