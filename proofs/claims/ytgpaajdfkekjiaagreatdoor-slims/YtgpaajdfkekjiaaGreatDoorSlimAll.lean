/-
  Plain mathematics of Slim: which gates are kept and stay, and what each variable's signal is put as. No program in it.
  Plain mathematics of Slim's second pass: what is needed is closed; names grow.
  Plain mathematics of Slim: the slim circuit does the same, is right, and is not made smaller again.
  Plain mathematics of Slim: the second pass; the slim circuit is right; it is not made smaller again.
  Plain mathematics of Slim: the whole circuit. It is right, does the same, has no more gates, and is not made smaller again.
-/
import Derived.Test.YtgpaajdfkekjiaaGreatDoorPlain
import Derived.Test.YtgpaajdfkekjiaaGreatDoorPairsAll
namespace Go.Proofs.YtgpaajdfkekjiaaGreatDoor

/-- Every variable as itself. -/
def idn (first : Nat) : List Nat := (List.range first).map (2 * ·)
/-- A signal put anew. -/
def putS (l : List Nat) (s : Nat) : Nat := l.getD (s / 2) 0 ^^^ (s % 2)
/-- A gate put anew, the lesser ahead. -/
def putG (l : List Nat) (g : Nat × Nat) : Nat × Nat := (min (putS l g.1) (putS l g.2), max (putS l g.1) (putS l g.2))

theorem xor_bit (a b : Nat) (hb : b ≤ 1) : (a ^^^ b) / 2 = a / 2 ∧ (a ^^^ b) % 2 = (a + b) % 2 := by
  have h : b = 0 ∨ b = 1 := by omega
  rcases h with rfl | rfl
  · simp
  · constructor
    · have := Nat.xor_div_two (a := a) (b := 1); simpa using this
    · have h := Nat.xor_mod_two_pow (a := a) (b := 1) (n := 1)
      simp only [Nat.pow_one] at h
      rw [h]
      have h2 : a % 2 = 0 ∨ a % 2 = 1 := by omega
      rcases h2 with h2 | h2 <;> rw [h2]
      · show 1 = _
        omega
      · show 0 = _
        omega
theorem putS_half (l : List Nat) (s : Nat) : putS l s / 2 = l.getD (s / 2) 0 / 2 := (xor_bit _ _ (by omega)).1
theorem putS_bit (l : List Nat) (s : Nat) : putS l s % 2 = (l.getD (s / 2) 0 + s % 2) % 2 := (xor_bit _ _ (by omega)).2

/-- One gate more: the names and the gates that are kept. -/
def slStep (first : Nat) (t : List Nat × List (Nat × Nat)) (g : Nat × Nat) : List Nat × List (Nat × Nat) :=
  let h := putG t.1 g
  if h.1 = 0 then (t.1 ++ [0], t.2)
  else if h.1 = 1 then (t.1 ++ [h.2], t.2)
  else if h.1 = h.2 then (t.1 ++ [h.1], t.2)
  else if h.1 / 2 = h.2 / 2 then (t.1 ++ [0], t.2)
  else if h ∈ t.2 then (t.1 ++ [2 * (first + t.2.idxOf h)], t.2)
  else (t.1 ++ [2 * (first + t.2.length)], t.2 ++ [h])
def sl1 (first : Nat) (gs : List (Nat × Nat)) : Nat → List Nat × List (Nat × Nat)
  | 0 => (idn first, [])
  | k + 1 => slStep first (sl1 first gs k) (gs.getD k (0, 0))

/-- Which variables are needed, the gates from the k-th on having been gone through. -/
def need (first : Nat) (roots : List Nat) (kept : List (Nat × Nat)) : Nat → Nat → Bool
  | 0, v => decide (∃ s ∈ roots, s / 2 = v)
  | j + 1, v => need first roots kept j v || (need first roots kept j (first + (kept.length - 1 - j)) && (decide ((kept.getD (kept.length - 1 - j) (0, 0)).1 / 2 = v) || decide ((kept.getD (kept.length - 1 - j) (0, 0)).2 / 2 = v)))

/-- The gates that stay, of the first k. -/
def sl2 (first : Nat) (use : Nat → Bool) (kept : List (Nat × Nat)) : Nat → List Nat × List (Nat × Nat)
  | 0 => (idn first, [])
  | k + 1 =>
    let t := sl2 first use kept k
    if use (first + k) then
      (t.1 ++ [2 * (first + t.2.length)], t.2 ++ [(putS (t.1 ++ [2 * (first + t.2.length)]) (kept.getD k (0, 0)).1, putS (t.1 ++ [2 * (first + t.2.length)]) (kept.getD k (0, 0)).2)])
    else (t.1 ++ [0], t.2)

theorem idn_len (first : Nat) : (idn first).length = first := by simp [idn]
theorem idn_get {first v : Nat} (h : v < first) : (idn first).getD v 0 = 2 * v := by simp [idn, h]
theorem slStep_len (first : Nat) (t : List Nat × List (Nat × Nat)) (g : Nat × Nat) : (slStep first t g).1.length = t.1.length + 1 := by
  unfold slStep
  dsimp only
  repeat' split
  all_goals simp
theorem sl1_len (first : Nat) (gs : List (Nat × Nat)) (k : Nat) : (sl1 first gs k).1.length = first + k := by
  induction k with
  | zero => simp [sl1, idn_len]
  | succ k ih => rw [sl1, slStep_len, ih]; omega
theorem sl2_len (first : Nat) (use : Nat → Bool) (kept : List (Nat × Nat)) (k : Nat) : (sl2 first use kept k).1.length = first + k := by
  induction k with
  | zero => simp [sl2, idn_len]
  | succ k ih =>
    rw [sl2]
    split <;> simp [ih] <;> omega

/-- The gates are right: each signal is of a variable ahead. -/
def GatesOk (first : Nat) (gs : List (Nat × Nat)) : Prop := ∀ k, k < gs.length → (gs.getD k (0, 0)).1 / 2 < first + k ∧ (gs.getD k (0, 0)).2 / 2 < first + k

/-- What the first pass keeps. -/
structure Sl1Inv (first : Nat) (t : List Nat × List (Nat × Nat)) : Prop where
  names : ∀ v, v < t.1.length → t.1.getD v 0 / 2 < first + t.2.length
  ahead : ∀ k, k < t.2.length → (t.2.getD k (0, 0)).1 / 2 < (t.2.getD k (0, 0)).2 / 2 ∧ (t.2.getD k (0, 0)).2 / 2 < first + k ∧ 2 ≤ (t.2.getD k (0, 0)).1
  nodup : t.2.Nodup
  small : ∀ v, v < first → t.1.getD v 0 = 2 * v
  long : first ≤ t.1.length

theorem getD_snoc_lt {α : Type} {l : List α} {x d : α} {j : Nat} (h : j < l.length) : (l ++ [x]).getD j d = l.getD j d := by
  simp only [List.getD_eq_getElem?_getD]; rw [List.getElem?_append_left h]
theorem getD_snoc_at {α : Type} (l : List α) (x d : α) : (l ++ [x]).getD l.length d = x := by simp [List.getD_eq_getElem?_getD]

theorem minmax (a b : Nat) : (min a b = a ∧ max a b = b) ∨ (min a b = b ∧ max a b = a) := by omega
theorem Sl1Inv.step {first : Nat} {t : List Nat × List (Nat × Nat)} (h : Sl1Inv first t) {g : Nat × Nat} (h1 : g.1 / 2 < t.1.length) (h2 : g.2 / 2 < t.1.length) : Sl1Inv first (slStep first t g) := by
  have a1 : putS t.1 g.1 / 2 < first + t.2.length := by rw [putS_half]; exact h.names _ h1
  have a2 : putS t.1 g.2 / 2 < first + t.2.length := by rw [putS_half]; exact h.names _ h2
  have b1 : (putG t.1 g).1 / 2 < first + t.2.length := by unfold putG; dsimp only; omega
  have b2 : (putG t.1 g).2 / 2 < first + t.2.length := by unfold putG; dsimp only; omega
  have b3 : (putG t.1 g).1 ≤ (putG t.1 g).2 := by unfold putG; dsimp only; omega
  have old : ∀ x, x / 2 < first + t.2.length → Sl1Inv first (t.1 ++ [x], t.2) := fun x hx => by
    refine ⟨fun v hv => ?_, h.ahead, h.nodup, fun v hv => ?_, by have := h.long; simp; omega⟩
    · simp only [List.length_append, List.length_singleton] at hv
      by_cases e : v = t.1.length
      · subst e; dsimp only; rw [getD_snoc_at]; exact hx
      · dsimp only; rw [getD_snoc_lt (by omega)]; exact h.names v (by omega)
    · dsimp only
      rw [getD_snoc_lt (by have := h.long; omega)]; exact h.small v hv
  unfold slStep
  dsimp only
  split
  · exact old 0 (by omega)
  split
  · exact old _ b2
  split
  · exact old _ b1
  split
  · exact old 0 (by omega)
  split
  · rename_i hm
    exact old _ (by have := List.idxOf_lt_length_iff.2 hm; omega)
  · rename_i c0 c1 c2 c3 hm
    refine ⟨fun v hv => ?_, fun k hk => ?_, ?_, fun v hv => ?_, by have := h.long; simp; omega⟩
    · simp only [List.length_append, List.length_singleton] at hv ⊢
      by_cases e : v = t.1.length
      · subst e; rw [getD_snoc_at]; omega
      · rw [getD_snoc_lt (by omega)]; have := h.names v (by omega); omega
    · simp only [List.length_append, List.length_singleton] at hk ⊢
      by_cases e : k = t.2.length
      · subst e; rw [getD_snoc_at]; omega
      · rw [getD_snoc_lt (by omega)]; exact h.ahead k (by omega)
    · refine List.nodup_append.2 ⟨h.nodup, by simp, fun a ha b hb e => ?_⟩
      simp at hb
      subst hb
      subst e
      exact hm ha
    · dsimp only
      rw [getD_snoc_lt (by have := h.long; omega)]; exact h.small v hv
theorem sl1_inv {first : Nat} {gs : List (Nat × Nat)} (hf : 0 < first) (hg : GatesOk first gs) : ∀ k, k ≤ gs.length → Sl1Inv first (sl1 first gs k)
  | 0, _ => ⟨fun v hv => by simp only [sl1, idn_len] at hv; simp only [sl1]; rw [idn_get hv]; simp; omega, fun k hk => by simp [sl1] at hk, by simp [sl1], fun v hv => idn_get hv, by simp [sl1, idn_len]⟩
  | k + 1, hk => by
    rw [sl1]
    have := hg k (by omega)
    exact (sl1_inv hf hg k (by omega)).step (by rw [sl1_len]; exact this.1) (by rw [sl1_len]; exact this.2)
theorem sl1_kept_le (first : Nat) (gs : List (Nat × Nat)) (k : Nat) : (sl1 first gs k).2.length ≤ k := by
  induction k with
  | zero => simp [sl1]
  | succ k ih =>
    rw [sl1]
    unfold slStep
    dsimp only
    repeat' split
    all_goals (try simp only [List.length_append, List.length_singleton]); omega

end Go.Proofs.YtgpaajdfkekjiaaGreatDoor

namespace Go.Proofs.YtgpaajdfkekjiaaGreatDoor

/-- The gates that were kept: each signal of a variable ahead, the lesser ahead. -/
def KeptOk (first : Nat) (kept : List (Nat × Nat)) : Prop := ∀ k, k < kept.length → (kept.getD k (0, 0)).1 / 2 < (kept.getD k (0, 0)).2 / 2 ∧ (kept.getD k (0, 0)).2 / 2 < first + k ∧ 2 ≤ (kept.getD k (0, 0)).1
section
variable {first : Nat} {roots : List Nat} {kept : List (Nat × Nat)}

theorem need_mono {j : Nat} {v : Nat} (h : need first roots kept j v = true) : ∀ j', j ≤ j' → need first roots kept j' v = true := by
  intro j'
  induction j' with
  | zero => intro hj; have : j = 0 := by omega
            subst this; exact h
  | succ j' ih =>
    intro hj
    by_cases e : j = j' + 1
    · subst e; exact h
    · rw [need, ih (by omega)]; rfl
/-- A gate is not asked for by those ahead of it. -/
theorem need_still (hk : KeptOk first kept) {i : Nat} (hi : i < kept.length) : ∀ j, kept.length - 1 - i ≤ j → j ≤ kept.length → need first roots kept j (first + i) = need first roots kept (kept.length - 1 - i) (first + i) := by
  intro j
  induction j with
  | zero => intro h1 _; have : kept.length - 1 - i = 0 := by omega
            rw [this]
  | succ j ih =>
    intro h1 h2
    by_cases e : kept.length - 1 - i = j + 1
    · rw [e]
    · rw [need, ih (by omega) (by omega)]
      have := hk (kept.length - 1 - j) (by omega)
      rw [decide_eq_false (by omega), decide_eq_false (by omega)]
      simp
/-- What a gate that is needed asks for is needed. -/
theorem need_closed (hk : KeptOk first kept) {i : Nat} (hi : i < kept.length) (h : need first roots kept kept.length (first + i) = true) :
    need first roots kept kept.length ((kept.getD i (0, 0)).1 / 2) = true ∧ need first roots kept kept.length ((kept.getD i (0, 0)).2 / 2) = true := by
  rw [need_still hk hi _ (by omega) (Nat.le_refl _)] at h
  have e : kept.length - 1 - (kept.length - 1 - i) = i := by omega
  constructor
  · refine need_mono (j := kept.length - 1 - i + 1) ?_ _ (by omega)
    rw [need, e, h]
    simp
  · refine need_mono (j := kept.length - 1 - i + 1) ?_ _ (by omega)
    rw [need, e, h]
    simp
theorem need_root {s : Nat} (h : s ∈ roots) (j : Nat) : need first roots kept j (s / 2) = true := need_mono (j := 0) (by rw [need]; exact decide_eq_true ⟨s, h, rfl⟩) j (Nat.zero_le _)

variable {use : Nat → Bool}
theorem sl2_stay_mono (k : Nat) : ∀ k', k ≤ k' → (sl2 first use kept k).2.length ≤ (sl2 first use kept k').2.length := by
  intro k'
  induction k' with
  | zero => intro h; have : k = 0 := by omega
            subst this; exact Nat.le_refl _
  | succ k' ih =>
    intro h
    by_cases e : k = k' + 1
    · subst e; exact Nat.le_refl _
    · refine Nat.le_trans (ih (by omega)) ?_
      rw [sl2]
      split
      · simp
      · exact Nat.le_refl _
theorem sl2_stay_le (k : Nat) : (sl2 first use kept k).2.length ≤ k := by
  induction k with
  | zero => simp [sl2]
  | succ k ih =>
    rw [sl2]
    split
    · simp; omega
    · dsimp only; omega
/-- The name of a variable that is no gate. -/
theorem sl2_small {v : Nat} (hv : v < first) : ∀ k, (sl2 first use kept k).1.getD v 0 = 2 * v
  | 0 => by rw [sl2]; exact idn_get hv
  | k + 1 => by
    rw [sl2]
    split
    · dsimp only; rw [getD_snoc_lt (by rw [sl2_len]; omega)]; exact sl2_small hv k
    · dsimp only; rw [getD_snoc_lt (by rw [sl2_len]; omega)]; exact sl2_small hv k
/-- The name of a gate. -/
theorem sl2_gate {i : Nat} : ∀ k, i < k → (sl2 first use kept k).1.getD (first + i) 0 = if use (first + i) then 2 * (first + (sl2 first use kept i).2.length) else 0 := by
  intro k
  induction k with
  | zero => intro h; omega
  | succ k ih =>
    intro h
    by_cases e : i = k
    · subst e
      rw [sl2]
      have hl := sl2_len first use kept i
      split
      · dsimp only
        rw [← hl, getD_snoc_at]
      · dsimp only
        rw [← hl, getD_snoc_at]
    · rw [← ih (by omega), sl2]
      have hl := sl2_len first use kept k
      split
      · dsimp only; rw [getD_snoc_lt (by omega)]
      · dsimp only; rw [getD_snoc_lt (by omega)]
/-- One gate that stays makes the next names greater. -/
theorem sl2_more {i j : Nat} (hij : i < j) (hu : use (first + i) = true) : (sl2 first use kept i).2.length < (sl2 first use kept j).2.length := by
  refine Nat.lt_of_lt_of_le ?_ (sl2_stay_mono (i + 1) j hij)
  rw [sl2, if_pos hu]
  simp
/-- Of two variables that are there the later has the greater name. -/
theorem sl2_lt {v w k : Nat} (hvw : v < w) (hw : w < first + k) (hv : v < first ∨ use v = true) (hw2 : w < first ∨ use w = true) : (sl2 first use kept k).1.getD v 0 + 2 ≤ (sl2 first use kept k).1.getD w 0 := by
  by_cases h1 : w < first
  · rw [sl2_small (by omega), sl2_small h1]; omega
  · obtain ⟨j, rfl⟩ : ∃ j, w = first + j := ⟨w - first, by omega⟩
    have u2 : use (first + j) = true := hw2.resolve_left h1
    rw [sl2_gate k (by omega), if_pos u2]
    by_cases h2 : v < first
    · rw [sl2_small h2]; omega
    · obtain ⟨i, rfl⟩ : ∃ i, v = first + i := ⟨v - first, by omega⟩
      have u1 : use (first + i) = true := hv.resolve_left h2
      rw [sl2_gate k (by omega), if_pos u1]
      have := sl2_more (kept := kept) (show i < j by omega) u1
      omega
theorem sl2_even {v k : Nat} (hv : v < first + k) : (sl2 first use kept k).1.getD v 0 % 2 = 0 := by
  by_cases h : v < first
  · rw [sl2_small h]; omega
  · obtain ⟨i, rfl⟩ : ∃ i, v = first + i := ⟨v - first, by omega⟩
    rw [sl2_gate k (by omega)]
    split <;> omega
/-- The names do not change as more come. -/
theorem sl2_keep {v k : Nat} (hv : v < first + k) : ∀ k', k ≤ k' → (sl2 first use kept k').1.getD v 0 = (sl2 first use kept k).1.getD v 0 := by
  intro k' hk'
  by_cases h : v < first
  · rw [sl2_small h, sl2_small h]
  · obtain ⟨i, rfl⟩ : ∃ i, v = first + i := ⟨v - first, by omega⟩
    rw [sl2_gate k (by omega), sl2_gate k' (by omega)]
/-- A gate that stays has its lesser signal ahead, as it was. -/
theorem sl2_order (hk : KeptOk first kept) (hc : ∀ i, i < kept.length → use (first + i) = true → (use ((kept.getD i (0, 0)).1 / 2) = true ∧ use ((kept.getD i (0, 0)).2 / 2) = true)) {i : Nat} (hi : i < kept.length) (hu : use (first + i) = true) :
    putS ((sl2 first use kept i).1 ++ [2 * (first + (sl2 first use kept i).2.length)]) (kept.getD i (0, 0)).1 < putS ((sl2 first use kept i).1 ++ [2 * (first + (sl2 first use kept i).2.length)]) (kept.getD i (0, 0)).2 := by
  obtain ⟨h1, h2, _⟩ := hk i hi
  obtain ⟨c1, c2⟩ := hc i hi hu
  have hl := sl2_len first use kept i
  have := sl2_lt (kept := kept) (use := use) (k := i) h1 h2 (.inr c1) (.inr c2)
  have e1 := putS_half ((sl2 first use kept i).1 ++ [2 * (first + (sl2 first use kept i).2.length)]) (kept.getD i (0, 0)).1
  have e2 := putS_half ((sl2 first use kept i).1 ++ [2 * (first + (sl2 first use kept i).2.length)]) (kept.getD i (0, 0)).2
  rw [getD_snoc_lt (by omega)] at e1 e2
  omega
end

end Go.Proofs.YtgpaajdfkekjiaaGreatDoor

namespace Go.Proofs.YtgpaajdfkekjiaaGreatDoor

def z2 (ps : List (Nat × Nat)) : List (Int × Int) := ps.map fun (p : Nat × Nat) => ((p.1 : Int), (p.2 : Int))
theorem z2_len (ps : List (Nat × Nat)) : (z2 ps).length = ps.length := by simp [z2]
theorem z2_get (ps : List (Nat × Nat)) (k : Nat) : (z2 ps).getD k (0, 0) = (((ps.getD k (0, 0)).1 : Int), ((ps.getD k (0, 0)).2 : Int)) := by
  simp only [z2, List.getD_eq_getElem?_getD, List.getElem?_map]
  cases ps[k]? <;> rfl
def sigN (s : Nat) (vs : List Nat) : Nat := (vs.getD (s / 2) 0 + s % 2) % 2
theorem sigv_nat (s : Nat) (vs : List Nat) : sigv (s : Int) vs = sigN s vs := by
  unfold sigv sigN
  have h1 : ((s : Int) / 2).toNat = s / 2 := by omega
  have h2 : ((s : Int)).toNat = s := by omega
  rw [h1, h2]
theorem sigN_le (s : Nat) (vs : List Nat) : sigN s vs ≤ 1 := by unfold sigN; omega

/-- A gate's value. -/
theorem gateVals_keep (gs : List (Int × Int)) (vs : List Nat) {i : Nat} : ∀ k, i ≤ k → ∀ v, v < vs.length + i → (gateVals gs vs k).getD v 0 = (gateVals gs vs i).getD v 0 := by
  intro k
  induction k with
  | zero => intro h v _; have : i = 0 := by omega
            subst this; rfl
  | succ k ih =>
    intro h v hv
    by_cases e : i = k + 1
    · subst e; rfl
    · rw [gateVals, getD_snoc_lt (by rw [gateVals_len]; omega)]
      exact ih (by omega) v hv
/-- Values of the variables, out of those ahead of the gates and the gates. -/
def valN (gs : List (Nat × Nat)) (bs : List Nat) : List Nat := gateVals (z2 gs) bs gs.length
theorem valN_len (gs : List (Nat × Nat)) (bs : List Nat) : (valN gs bs).length = bs.length + gs.length := gateVals_len _ _ _
theorem valN_base (gs : List (Nat × Nat)) (bs : List Nat) {v : Nat} (hv : v < bs.length) : (valN gs bs).getD v 0 = bs.getD v 0 := gateVals_keep _ _ _ (Nat.zero_le _) v hv
theorem valN_gate {gs : List (Nat × Nat)} {bs : List Nat} (hg : GatesOk bs.length gs) {i : Nat} (hi : i < gs.length) : (valN gs bs).getD (bs.length + i) 0 = sigN (gs.getD i (0, 0)).1 (valN gs bs) * sigN (gs.getD i (0, 0)).2 (valN gs bs) := by
  obtain ⟨h1, h2⟩ := hg i hi
  have key : ∀ s, s / 2 < bs.length + i → sigN s (gateVals (z2 gs) bs i) = sigN s (valN gs bs) := fun s hs => by
    unfold sigN
    rw [show (valN gs bs).getD (s / 2) 0 = (gateVals (z2 gs) bs i).getD (s / 2) 0 from gateVals_keep _ _ _ (by omega) _ hs]
  have : (valN gs bs).getD (bs.length + i) 0 = (gateVals (z2 gs) bs (i + 1)).getD (bs.length + i) 0 := gateVals_keep _ _ _ (by omega) _ (by omega)
  rw [this, gateVals]
  have hl := gateVals_len (z2 gs) bs i
  rw [← hl, getD_snoc_at, z2_get, sigv_nat, sigv_nat, key _ h1, key _ h2]
theorem valN_01 {gs : List (Nat × Nat)} {bs : List Nat} (hb : ∀ x ∈ bs, x ≤ 1) (v : Nat) : (valN gs bs).getD v 0 ≤ 1 := by
  by_cases h : v < (valN gs bs).length
  · rw [List.getD_eq_getElem?_getD, List.getElem?_eq_getElem h]
    exact gateVals_01 (z2 gs) bs hb _ _ (List.getElem_mem h)
  · rw [List.getD_eq_getElem?_getD, List.getElem?_eq_none (by omega)]
    exact Nat.zero_le _

theorem sig_put (l : List Nat) (s : Nat) (W : List Nat) : sigN (putS l s) W = (sigN (l.getD (s / 2) 0) W + s % 2) % 2 := by
  unfold sigN
  rw [putS_half, putS_bit]
  omega

section
variable {first : Nat} {gs : List (Nat × Nat)}
theorem sl1_prefix (k : Nat) : ∀ k', k ≤ k' → (sl1 first gs k).2 <+: (sl1 first gs k').2 := by
  intro k'
  induction k' with
  | zero => intro h; have : k = 0 := by omega
            subst this; exact List.prefix_refl _
  | succ k' ih =>
    intro h
    by_cases e : k = k' + 1
    · subst e; exact List.prefix_refl _
    · refine (ih (by omega)).trans ?_
      rw [sl1]
      unfold slStep
      dsimp only
      repeat' split
      all_goals first | exact List.prefix_refl _ | exact List.prefix_append _ _
theorem prefix_get {α : Type} {a b : List α} (h : a <+: b) {k : Nat} (hk : k < a.length) (d : α) : b.getD k d = a.getD k d := by
  obtain ⟨r, rfl⟩ := h
  simp only [List.getD_eq_getElem?_getD]; rw [List.getElem?_append_left hk]
theorem kept_ok {t : List Nat × List (Nat × Nat)} (h : Sl1Inv first t) : KeptOk first t.2 := h.ahead
theorem kept_gates {kept : List (Nat × Nat)} (h : KeptOk first kept) : GatesOk first kept := fun k hk => by have := h k hk; omega

/-- The first pass: each variable has the value of the signal that it is put as. -/
theorem sl1_sem {bs : List Nat} (hb : bs.length = first) (h01 : ∀ x ∈ bs, x ≤ 1) (h0 : bs.getD 0 0 = 0) (hf : 0 < first) (hg : GatesOk first gs) : ∀ k, k ≤ gs.length → ∀ v, v < first + k →
    (valN gs bs).getD v 0 = sigN ((sl1 first gs k).1.getD v 0) (valN (sl1 first gs gs.length).2 bs) := by
  obtain ⟨V, hV⟩ : ∃ V, V = valN gs bs := ⟨_, rfl⟩
  obtain ⟨kF, hkF⟩ : ∃ kF, kF = (sl1 first gs gs.length).2 := ⟨_, rfl⟩
  obtain ⟨V1, hV1⟩ : ∃ V1, V1 = valN kF bs := ⟨_, rfl⟩
  have hinvF := sl1_inv hf hg gs.length (Nat.le_refl _)
  have hgF : GatesOk bs.length kF := by rw [hb, hkF]; exact kept_gates (kept_ok hinvF)
  have hz : V1.getD 0 0 = 0 := by rw [hV1, valN_base _ _ (by omega)]; exact h0
  intro k
  rw [← hV, ← hkF, ← hV1]
  induction k with
  | zero =>
    intro _ v hv
    rw [sl1]
    dsimp only
    rw [idn_get (by omega), hV, valN_base _ _ (by omega)]
    unfold sigN
    rw [show 2 * v / 2 = v by omega, show 2 * v % 2 = 0 by omega, hV1, valN_base _ _ (by omega)]
    have : bs.getD v 0 ≤ 1 := by
      rw [List.getD_eq_getElem?_getD, List.getElem?_eq_getElem (show v < bs.length by omega)]
      exact h01 _ (List.getElem_mem _)
    omega
  | succ k ih =>
    intro hk v hv
    have hl := sl1_len first gs k
    have hinv := sl1_inv hf hg k (by omega)
    by_cases e : v = first + k
    · subst e
      obtain ⟨g1, g2⟩ := hg k (by omega)
      have hval : V.getD (first + k) 0 = sigN (gs.getD k (0, 0)).1 V * sigN (gs.getD k (0, 0)).2 V := by
        have := valN_gate (bs := bs) (gs := gs) (by rw [hb]; exact hg) (i := k) (by omega)
        rw [hb, ← hV] at this; exact this
      have hs : ∀ s, s / 2 < first + k → sigN s V = sigN (putS (sl1 first gs k).1 s) V1 := fun s hs => by
        rw [sig_put, ← ih (by omega) _ hs]
        unfold sigN
        omega
      have hprod : V.getD (first + k) 0 = sigN (putG (sl1 first gs k).1 (gs.getD k (0, 0))).1 V1 * sigN (putG (sl1 first gs k).1 (gs.getD k (0, 0))).2 V1 := by
        rw [hval, hs _ g1, hs _ g2]
        unfold putG
        dsimp only
        rcases minmax (putS (sl1 first gs k).1 (gs.getD k (0, 0)).1) (putS (sl1 first gs k).1 (gs.getD k (0, 0)).2) with ⟨e1, e2⟩ | ⟨e1, e2⟩
        · rw [e1, e2]
        · rw [e1, e2, Nat.mul_comm]
      have hpre : (sl1 first gs (k + 1)).2 <+: kF := by rw [hkF]; exact sl1_prefix (k + 1) _ hk
      rw [hprod]
      rw [sl1] at hpre ⊢
      obtain ⟨h, hh⟩ : ∃ h, h = putG (sl1 first gs k).1 (gs.getD k (0, 0)) := ⟨_, rfl⟩
      have hle := sigN_le h.1 V1
      have hle2 := sigN_le h.2 V1
      have hgate : ∀ j, j < kF.length → kF.getD j (0, 0) = h → sigN (2 * (first + j)) V1 = sigN h.1 V1 * sigN h.2 V1 := fun j hj ej => by
        have := valN_gate (bs := bs) (gs := kF) hgF hj
        rw [hb, ← hV1, ej] at this
        unfold sigN at this ⊢
        rw [show 2 * (first + j) / 2 = first + j by omega, show 2 * (first + j) % 2 = 0 by omega, this]
        have a : (V1.getD (h.1 / 2) 0 + h.1 % 2) % 2 ≤ 1 := by omega
        have b : (V1.getD (h.2 / 2) 0 + h.2 % 2) % 2 ≤ 1 := by omega
        have := Nat.mul_le_mul a b
        omega
      unfold slStep at hpre ⊢
      rw [← hh] at hpre ⊢
      dsimp only at hpre ⊢
      split
      · rename_i c0
        dsimp only
        rw [← hl, getD_snoc_at, c0]
        have : sigN 0 V1 = 0 := by unfold sigN; rw [show 0 / 2 = 0 from rfl, hz]
        rw [this, Nat.zero_mul]
      split
      · rename_i c0 c1
        dsimp only
        rw [← hl, getD_snoc_at, c1]
        have : sigN 1 V1 = 1 := by unfold sigN; rw [show 1 / 2 = 0 from rfl, hz]
        rw [this, Nat.one_mul]
      split
      · rename_i c0 c1 c2
        dsimp only
        rw [← hl, getD_snoc_at, ← c2]
        have : sigN h.1 V1 = 0 ∨ sigN h.1 V1 = 1 := by omega
        rcases this with e | e <;> rw [e]
      split
      · rename_i c0 c1 c2 c3
        dsimp only
        rw [← hl, getD_snoc_at]
        have e0 : sigN 0 V1 = 0 := by unfold sigN; rw [show 0 / 2 = 0 from rfl, hz]
        have eo : sigN h.1 V1 + sigN h.2 V1 = 1 := by
          unfold sigN
          rw [c3]
          omega
        rw [e0]
        have : sigN h.1 V1 = 0 ∨ sigN h.1 V1 = 1 := by omega
        rcases this with e | e
        · rw [e, Nat.zero_mul]
        · have e2 : sigN h.2 V1 = 0 := by omega
          rw [e2, Nat.mul_zero]
      split
      · rename_i c0 c1 c2 c3 hm
        rw [if_neg c0, if_neg c1, if_neg c2, if_neg c3, if_pos hm] at hpre
        dsimp only at hpre ⊢
        rw [← hl, getD_snoc_at]
        have hj := List.idxOf_lt_length_iff.2 hm
        refine (hgate _ (Nat.lt_of_lt_of_le hj hpre.length_le) ?_).symm
        rw [prefix_get hpre hj, List.getD_eq_getElem?_getD, List.getElem?_eq_getElem hj]
        simp
      · rename_i c0 c1 c2 c3 hm
        rw [if_neg c0, if_neg c1, if_neg c2, if_neg c3, if_neg hm] at hpre
        dsimp only at hpre ⊢
        rw [← hl, getD_snoc_at]
        have hj : (sl1 first gs k).2.length < ((sl1 first gs k).2 ++ [h]).length := by simp
        refine (hgate _ (Nat.lt_of_lt_of_le hj hpre.length_le) ?_).symm
        rw [prefix_get hpre hj, getD_snoc_at]
    · rw [ih (by omega) v (by omega)]
      congr 1
      rw [sl1]
      unfold slStep
      dsimp only
      repeat' split
      all_goals (dsimp only; rw [getD_snoc_lt (by omega)])
end

end Go.Proofs.YtgpaajdfkekjiaaGreatDoor

namespace Go.Proofs.YtgpaajdfkekjiaaGreatDoor

theorem nd_iff {α : Type} {l : List α} : l.Nodup ↔ ∀ i j, i < j → j < l.length → l[i]? ≠ l[j]? := by
  unfold List.Nodup
  rw [List.pairwise_iff_getElem]
  constructor
  · intro h i j hij hj e
    rw [List.getElem?_eq_getElem (by omega), List.getElem?_eq_getElem hj] at e
    exact h i j (by omega) hj hij (Option.some.inj e)
  · intro h i j hi hj hij e
    refine h i j hij hj ?_
    rw [List.getElem?_eq_getElem hi, List.getElem?_eq_getElem hj, e]

section
variable {first : Nat} {kept : List (Nat × Nat)} {use : Nat → Bool}
/-- What is used is closed. -/
def Closed (first : Nat) (use : Nat → Bool) (kept : List (Nat × Nat)) : Prop := ∀ i, i < kept.length → use (first + i) = true → (use ((kept.getD i (0, 0)).1 / 2) = true ∧ use ((kept.getD i (0, 0)).2 / 2) = true)

theorem sl2_prefix (k : Nat) : ∀ k', k ≤ k' → (sl2 first use kept k).2 <+: (sl2 first use kept k').2 := by
  intro k'
  induction k' with
  | zero => intro h; have : k = 0 := by omega
            subst this; exact List.prefix_refl _
  | succ k' ih =>
    intro h
    by_cases e : k = k' + 1
    · subst e; exact List.prefix_refl _
    · refine (ih (by omega)).trans ?_
      rw [sl2]
      split
      · exact List.prefix_append _ _
      · exact List.prefix_refl _
/-- The gate that stays of the i-th. -/
theorem sl2_at (hk : KeptOk first kept) {i k : Nat} (hi : i < k) (hkl : k ≤ kept.length) (hu : use (first + i) = true) :
    (sl2 first use kept i).2.length < (sl2 first use kept k).2.length ∧
    (sl2 first use kept k).2.getD (sl2 first use kept i).2.length (0, 0) = (putS (sl2 first use kept k).1 (kept.getD i (0, 0)).1, putS (sl2 first use kept k).1 (kept.getD i (0, 0)).2) := by
  have hp := sl2_prefix (first := first) (use := use) (kept := kept) (i + 1) k hi
  have hl := sl2_len first use kept i
  obtain ⟨h1, h2, _⟩ := hk i (by omega)
  have e1 : (sl2 first use kept (i + 1)).2 = (sl2 first use kept i).2 ++ [(putS ((sl2 first use kept i).1 ++ [2 * (first + (sl2 first use kept i).2.length)]) (kept.getD i (0, 0)).1, putS ((sl2 first use kept i).1 ++ [2 * (first + (sl2 first use kept i).2.length)]) (kept.getD i (0, 0)).2)] := by
    rw [sl2, if_pos hu]
  have hlt : (sl2 first use kept i).2.length < (sl2 first use kept (i + 1)).2.length := by rw [e1]; simp
  refine ⟨Nat.lt_of_lt_of_le hlt hp.length_le, ?_⟩
  rw [prefix_get hp hlt, e1, getD_snoc_at]
  have key : ∀ s, s / 2 < first + i → putS ((sl2 first use kept i).1 ++ [2 * (first + (sl2 first use kept i).2.length)]) s = putS (sl2 first use kept k).1 s := fun s hs => by
    unfold putS
    rw [getD_snoc_lt (by omega), ← sl2_keep hs k (by omega)]
  rw [key _ (by omega), key _ (by omega)]
/-- Each gate that stays is one that was kept and is used. -/
theorem sl2_from : ∀ k, k ≤ kept.length → ∀ m, m < (sl2 first use kept k).2.length → ∃ i, i < k ∧ use (first + i) = true ∧ (sl2 first use kept i).2.length = m := by
  intro k
  induction k with
  | zero => intro _ m hm; simp [sl2] at hm
  | succ k ih =>
    intro hk m hm
    by_cases hu : use (first + k) = true
    · by_cases e : m = (sl2 first use kept k).2.length
      · exact ⟨k, by omega, hu, e.symm⟩
      · rw [sl2, if_pos hu] at hm
        simp at hm
        obtain ⟨i, h1, h2, h3⟩ := ih (by omega) m (by omega)
        exact ⟨i, by omega, h2, h3⟩
    · rw [sl2, if_neg hu] at hm
      obtain ⟨i, h1, h2, h3⟩ := ih (by omega) m hm
      exact ⟨i, by omega, h2, h3⟩

/-- What stays is as what was kept: in order, the lesser ahead. -/
theorem stay_ok (hk : KeptOk first kept) (hc : Closed first use kept) (hf : 0 < first) : KeptOk first (sl2 first use kept kept.length).2 := by
  intro m hm
  obtain ⟨i, hi, hu, rfl⟩ := sl2_from kept.length (Nat.le_refl _) m hm
  obtain ⟨_, e⟩ := sl2_at hk hi (Nat.le_refl _) hu
  obtain ⟨h1, h2, h3⟩ := hk i hi
  obtain ⟨c1, c2⟩ := hc i hi hu
  rw [e]
  dsimp only
  rw [putS_half, putS_half]
  have a := sl2_lt (first := first) (kept := kept) (use := use) (k := kept.length) h1 (by omega) (.inr c1) (.inr c2)
  have b := sl2_lt (first := first) (kept := kept) (use := use) (k := kept.length) h2 (by omega) (.inr c2) (.inr hu)
  rw [sl2_gate (i := i) kept.length hi, if_pos hu] at b
  have d : 2 ≤ (sl2 first use kept kept.length).1.getD ((kept.getD i (0, 0)).1 / 2) 0 := by
    have h0 : 0 < (kept.getD i (0, 0)).1 / 2 := by omega
    have := sl2_lt (first := first) (kept := kept) (use := use) (k := kept.length) h0 (by omega) (.inl hf) (.inr c1)
    omega
  have e1 := putS_half (sl2 first use kept kept.length).1 (kept.getD i (0, 0)).1
  have := sl2_even (kept := kept) (use := use) (k := kept.length) (v := (kept.getD i (0, 0)).1 / 2) (first := first) (by omega)
  omega
theorem even_half {a b : Nat} (ha : a % 2 = 0) (hb : b % 2 = 0) (h : a / 2 = b / 2) : a = b := by omega
/-- Names of variables that are there part. -/
theorem sl2_inj {v w k : Nat} (hv : v < first + k) (hw : w < first + k) (uv : v < first ∨ use v = true) (uw : w < first ∨ use w = true) (h : (sl2 first use kept k).1.getD v 0 = (sl2 first use kept k).1.getD w 0) : v = w := by
  rcases Nat.lt_trichotomy v w with h1 | h1 | h1
  · have := sl2_lt (first := first) (kept := kept) h1 hw uv uw; omega
  · exact h1
  · have := sl2_lt (first := first) (kept := kept) h1 hv uw uv; omega
theorem putS_inj {k a b : Nat} (ha : a / 2 < first + k) (hb : b / 2 < first + k) (ua : a / 2 < first ∨ use (a / 2) = true) (ub : b / 2 < first ∨ use (b / 2) = true) (h : putS (sl2 first use kept k).1 a = putS (sl2 first use kept k).1 b) : a = b := by
  have e1 := putS_half (sl2 first use kept k).1 a
  have e2 := putS_half (sl2 first use kept k).1 b
  have b1 := putS_bit (sl2 first use kept k).1 a
  have b2 := putS_bit (sl2 first use kept k).1 b
  have v1 := sl2_even (kept := kept) (use := use) ha
  have v2 := sl2_even (kept := kept) (use := use) hb
  have := sl2_inj (kept := kept) ha hb ua ub (even_half v1 v2 (by rw [← e1, ← e2, h]))
  rw [h] at b1
  omega
theorem stay_nodup (hk : KeptOk first kept) (hc : Closed first use kept) (hn : kept.Nodup) : (sl2 first use kept kept.length).2.Nodup := by
  rw [nd_iff]
  intro m m' hmm hm' e
  obtain ⟨i, hi, hu, ei⟩ := sl2_from (first := first) (use := use) kept.length (Nat.le_refl _) m (by omega)
  obtain ⟨j, hj, hu', ej⟩ := sl2_from (first := first) (use := use) kept.length (Nat.le_refl _) m' hm'
  obtain ⟨_, g1⟩ := sl2_at hk hi (Nat.le_refl _) hu
  obtain ⟨_, g2⟩ := sl2_at hk hj (Nat.le_refl _) hu'
  rw [ei, List.getD_eq_getElem?_getD] at g1
  rw [ej, List.getD_eq_getElem?_getD] at g2
  rw [e, g2] at g1
  obtain ⟨h1, h2, _⟩ := hk i hi
  obtain ⟨h1', h2', _⟩ := hk j hj
  obtain ⟨c1, c2⟩ := hc i hi hu
  obtain ⟨c1', c2'⟩ := hc j hj hu'
  have p1 := putS_inj (kept := kept) (use := use) (k := kept.length) (by omega) (by omega) (.inr c1') (.inr c1) (congrArg Prod.fst g1)
  have p2 := putS_inj (kept := kept) (use := use) (k := kept.length) (by omega) (by omega) (.inr c2') (.inr c2) (congrArg Prod.snd g1)
  have hij : i ≠ j := fun h => by rw [h, ej] at ei; omega
  have hne := nd_iff.1 hn
  have heq : kept[i]? = kept[j]? := by
    rw [List.getElem?_eq_getElem hi, List.getElem?_eq_getElem hj]
    have q1 : kept.getD i (0, 0) = kept[i] := by rw [List.getD_eq_getElem?_getD, List.getElem?_eq_getElem hi]; rfl
    have q2 : kept.getD j (0, 0) = kept[j] := by rw [List.getD_eq_getElem?_getD, List.getElem?_eq_getElem hj]; rfl
    rw [← q1, ← q2]
    exact congrArg some (Prod.ext p1.symm p2.symm)
  rcases Nat.lt_or_ge i j with h | h
  · exact hne i j h hj heq
  · exact hne j i (by omega) hi heq.symm

/-- The second pass: each variable that is there has the value of its new name. -/
theorem sl2_sem {bs : List Nat} (hb : bs.length = first) (h01 : ∀ x ∈ bs, x ≤ 1) (hf : 0 < first) (hk : KeptOk first kept) (hc : Closed first use kept) : ∀ v, v < first + kept.length → (v < first ∨ use v = true) →
    (valN kept bs).getD v 0 = sigN ((sl2 first use kept kept.length).1.getD v 0) (valN (sl2 first use kept kept.length).2 bs) := by
  obtain ⟨V2, hV2⟩ : ∃ V2, V2 = valN (sl2 first use kept kept.length).2 bs := ⟨_, rfl⟩
  have hs := stay_ok hk hc hf
  rw [← hV2]
  intro v
  induction v using Nat.strongRecOn with
  | ind v ih =>
    intro hv hu
    by_cases h : v < first
    · rw [sl2_small h, valN_base _ _ (by omega)]
      unfold sigN
      rw [show 2 * v / 2 = v by omega, show 2 * v % 2 = 0 by omega, hV2, valN_base _ _ (by omega)]
      have : bs.getD v 0 ≤ 1 := by
        rw [List.getD_eq_getElem?_getD, List.getElem?_eq_getElem (show v < bs.length by omega)]
        exact h01 _ (List.getElem_mem _)
      omega
    · obtain ⟨i, rfl⟩ : ∃ i, v = first + i := ⟨v - first, by omega⟩
      have hi : i < kept.length := by omega
      have u := hu.resolve_left h
      obtain ⟨h1, h2, _⟩ := hk i hi
      obtain ⟨c1, c2⟩ := hc i hi u
      obtain ⟨hlt, e⟩ := sl2_at hk hi (Nat.le_refl _) u
      have g1 := valN_gate (bs := bs) (gs := kept) (by rw [hb]; exact kept_gates hk) hi
      have g2 := valN_gate (bs := bs) (gs := (sl2 first use kept kept.length).2) (by rw [hb]; exact kept_gates hs) hlt
      rw [hb] at g1 g2
      rw [← hV2, e] at g2
      dsimp only at g2
      have key : ∀ s, s / 2 < first + i → use (s / 2) = true → sigN s (valN kept bs) = sigN (putS (sl2 first use kept kept.length).1 s) V2 := fun s hs us => by
        rw [sig_put, ← ih _ hs (by omega) (.inr us)]
        unfold sigN
        omega
      rw [g1, key _ (by omega) c1, key _ (by omega) c2, ← g2, sl2_gate (i := i) kept.length hi, if_pos u]
      unfold sigN
      rw [show 2 * (first + (sl2 first use kept i).2.length) / 2 = first + (sl2 first use kept i).2.length by omega, show 2 * (first + (sl2 first use kept i).2.length) % 2 = 0 by omega]
      have := valN_01 (gs := (sl2 first use kept kept.length).2) h01 (first + (sl2 first use kept i).2.length)
      rw [← hV2] at this
      omega
end

/-- A gate list in the form that Slim gives is not changed by the first pass. -/
theorem putS_idn {m s : Nat} (h : s / 2 < m) : putS (idn m) s = s := by
  have e1 := putS_half (idn m) s
  have e2 := putS_bit (idn m) s
  rw [idn_get h] at e1 e2
  omega
theorem idn_succ (m : Nat) : idn m ++ [2 * m] = idn (m + 1) := by simp [idn, List.range_succ]
theorem take_getD {α : Type} (l : List α) (d : α) (k : Nat) (hk : k < l.length) : l.take (k + 1) = l.take k ++ [l.getD k d] := by
  rw [List.take_succ_eq_append_getElem hk]; simp [hk]
theorem sl1_idem {first : Nat} {gs : List (Nat × Nat)} (hk : KeptOk first gs) (hn : gs.Nodup) : ∀ k, k ≤ gs.length → sl1 first gs k = (idn (first + k), gs.take k) := by
  intro k
  induction k with
  | zero => intro _; simp [sl1]
  | succ k ih =>
    intro h
    obtain ⟨h1, h2, h3⟩ := hk k (by omega)
    have hp : putG (idn (first + k)) (gs.getD k (0, 0)) = gs.getD k (0, 0) := by
      unfold putG
      rw [putS_idn (by omega), putS_idn (by omega)]
      exact Prod.ext (Nat.min_eq_left (by omega)) (Nat.max_eq_right (by omega))
    have hm : gs.getD k (0, 0) ∉ gs.take k := fun hm => by
      obtain ⟨j, hj, e⟩ := List.getElem_of_mem hm
      have hj' : j < k := by simp at hj; omega
      rw [List.getElem_take] at e
      have e2 : gs.getD k (0, 0) = gs[k] := by rw [List.getD_eq_getElem?_getD, List.getElem?_eq_getElem (show k < gs.length by omega)]; rfl
      have hne := nd_iff.1 hn j k hj' (by omega)
      rw [List.getElem?_eq_getElem (show j < gs.length by omega), List.getElem?_eq_getElem (show k < gs.length by omega)] at hne
      exact hne (by rw [e, e2])
    rw [sl1, ih (by omega)]
    unfold slStep
    dsimp only
    rw [hp, if_neg (by omega), if_neg (by omega), if_neg (by omega), if_neg (by omega), if_neg hm]
    rw [take_getD gs (0, 0) k (by omega)]
    have hl : (gs.take k).length = k := by simp; omega
    rw [hl, idn_succ]
    rfl
theorem sl2_idem {first : Nat} {gs : List (Nat × Nat)} {use : Nat → Bool} (hk : KeptOk first gs) (hu : ∀ i, i < gs.length → use (first + i) = true) : ∀ k, k ≤ gs.length → sl2 first use gs k = (idn (first + k), gs.take k) := by
  intro k
  induction k with
  | zero => intro _; simp [sl2]
  | succ k ih =>
    intro h
    obtain ⟨h1, h2, h3⟩ := hk k (by omega)
    have hl : (gs.take k).length = k := by simp; omega
    rw [sl2, ih (by omega), if_pos (hu k (by omega))]
    dsimp only
    rw [hl, idn_succ, putS_idn (by omega), putS_idn (by omega), take_getD gs (0, 0) k (by omega)]
    rfl

end Go.Proofs.YtgpaajdfkekjiaaGreatDoor

namespace Go.Proofs.YtgpaajdfkekjiaaGreatDoor

def natP (ps : List (Int × Int)) : List (Nat × Nat) := ps.map fun p => (p.1.toNat, p.2.toNat)
theorem natP_len (ps : List (Int × Int)) : (natP ps).length = ps.length := by simp [natP]
theorem natP_get (ps : List (Int × Int)) (k : Nat) : (natP ps).getD k (0, 0) = ((ps.getD k (0, 0)).1.toNat, (ps.getD k (0, 0)).2.toNat) := by
  simp only [natP, List.getD_eq_getElem?_getD, List.getElem?_map]
  cases ps[k]? <;> rfl
theorem natP_z2 (ps : List (Nat × Nat)) : natP (z2 ps) = ps := by
  simp only [natP, z2, List.map_map]
  rw [List.map_congr_left (g := id)]
  · simp
  · intro p _; rfl

/-- What the first pass names each variable, and the gates that it keeps. -/
def slN1 (n : Nat) (ls gs : List (Int × Int)) : List Nat := (sl1 (n + ls.length + 1) (natP gs) gs.length).1
def slKept (n : Nat) (ls gs : List (Int × Int)) : List (Nat × Nat) := (sl1 (n + ls.length + 1) (natP gs) gs.length).2
def slRoots (n : Nat) (ls gs : List (Int × Int)) (os : List Int) : List Nat := ls.map (fun p => putS (slN1 n ls gs) p.1.toNat) ++ os.map fun s => putS (slN1 n ls gs) s.toNat
def slUse (n : Nat) (ls gs : List (Int × Int)) (os : List Int) : Nat → Bool := need (n + ls.length + 1) (slRoots n ls gs os) (slKept n ls gs) (slKept n ls gs).length
def slN2 (n : Nat) (ls gs : List (Int × Int)) (os : List Int) : List Nat := (sl2 (n + ls.length + 1) (slUse n ls gs os) (slKept n ls gs) (slKept n ls gs).length).1
def slStay (n : Nat) (ls gs : List (Int × Int)) (os : List Int) : List (Nat × Nat) := (sl2 (n + ls.length + 1) (slUse n ls gs os) (slKept n ls gs) (slKept n ls gs).length).2
/-- The slim circuit's latches, gates, outputs. -/
def slL (n : Nat) (ls gs : List (Int × Int)) (os : List Int) : List (Int × Int) := ls.map fun p => ((putS (slN2 n ls gs os) (putS (slN1 n ls gs) p.1.toNat) : Int), p.2)
def slG (n : Nat) (ls gs : List (Int × Int)) (os : List Int) : List (Int × Int) := z2 (slStay n ls gs os)
def slO (n : Nat) (ls gs : List (Int × Int)) (os : List Int) : List Int := os.map fun s => (putS (slN2 n ls gs os) (putS (slN1 n ls gs) s.toNat) : Int)

/-- A right circuit's numbers, as naturals. -/
structure RightN (n : Nat) (ls gs : List (Int × Int)) (os : List Int) : Prop where
  n4 : n ≤ 4
  l4 : ls.length ≤ 4
  o4 : os.length ≤ 4
  g30 : gs.length ≤ 30
  lat : ∀ i, i < ls.length → 0 ≤ (ls.getD i (0, 0)).1 ∧ (ls.getD i (0, 0)).1.toNat / 2 < n + ls.length + 1 + gs.length ∧ 0 ≤ (ls.getD i (0, 0)).2 ∧ (ls.getD i (0, 0)).2 ≤ 1
  gat : ∀ i, i < gs.length → 0 ≤ (gs.getD i (0, 0)).1 ∧ 0 ≤ (gs.getD i (0, 0)).2 ∧ (gs.getD i (0, 0)).1.toNat / 2 < n + ls.length + 1 + i ∧ (gs.getD i (0, 0)).2.toNat / 2 < n + ls.length + 1 + i
  out : ∀ i, i < os.length → 0 ≤ os.getD i 0 ∧ (os.getD i 0).toNat / 2 < n + ls.length + 1 + gs.length
theorem rightN_iff {n : Nat} {ls gs : List (Int × Int)} {os : List Int} : rightB n ls gs os = true ↔ RightN n ls gs os := by
  simp only [rightB, sizesB, latchesB, gatesB, outsB, latchOk, gateOk, Bool.and_eq_true, decide_eq_true_eq, inB]
  constructor
  · rintro ⟨⟨⟨⟨⟨⟨h1, h2⟩, h3⟩, h4⟩, hl⟩, hg⟩, ho⟩
    exact ⟨by omega, by omega, by omega, by omega, fun i hi => by have := hl i hi; omega, fun i hi => by have := hg i hi; omega, fun i hi => by have := ho i hi; omega⟩
  · rintro ⟨h1, h2, h3, h4, hl, hg, ho⟩
    exact ⟨⟨⟨⟨⟨⟨by omega, by omega⟩, by omega⟩, by omega⟩, fun i hi => by have := hl i hi; omega⟩, fun i hi => by have := hg i hi; omega⟩, fun i hi => by have := ho i hi; omega⟩

section
variable {n : Nat} {ls gs : List (Int × Int)} {os : List Int}
theorem RightN.gatesOk (h : RightN n ls gs os) : GatesOk (n + ls.length + 1) (natP gs) := fun k hk => by
  rw [natP_len] at hk
  rw [natP_get]
  have := h.gat k hk
  exact ⟨this.2.2.1, this.2.2.2⟩
theorem RightN.inv (h : RightN n ls gs os) : Sl1Inv (n + ls.length + 1) (sl1 (n + ls.length + 1) (natP gs) gs.length) := sl1_inv (by omega) h.gatesOk _ (by rw [natP_len]; exact Nat.le_refl _)
theorem RightN.keptOk (h : RightN n ls gs os) : KeptOk (n + ls.length + 1) (slKept n ls gs) := h.inv.ahead
theorem slUse_closed (h : RightN n ls gs os) : Closed (n + ls.length + 1) (slUse n ls gs os) (slKept n ls gs) := fun _ hi hu => need_closed h.keptOk hi hu
theorem slStay_ok (h : RightN n ls gs os) : KeptOk (n + ls.length + 1) (slStay n ls gs os) := stay_ok h.keptOk (slUse_closed h) (by omega)
theorem slStay_nodup (h : RightN n ls gs os) : (slStay n ls gs os).Nodup := stay_nodup h.keptOk (slUse_closed h) h.inv.nodup
theorem slStay_le : (slStay n ls gs os).length ≤ (slKept n ls gs).length := sl2_stay_le _
theorem slKept_le : (slKept n ls gs).length ≤ gs.length := sl1_kept_le _ _ _
theorem slL_len : (slL n ls gs os).length = ls.length := by simp [slL]
theorem slO_len : (slO n ls gs os).length = os.length := by simp [slO]
theorem slG_len : (slG n ls gs os).length = (slStay n ls gs os).length := z2_len _
theorem slN1_len : (slN1 n ls gs).length = n + ls.length + 1 + gs.length := sl1_len _ _ _
theorem slN2_len : (slN2 n ls gs os).length = n + ls.length + 1 + (slKept n ls gs).length := sl2_len _ _ _ _
theorem put1_lt (h : RightN n ls gs os) {s : Nat} (hs : s / 2 < n + ls.length + 1 + gs.length) : putS (slN1 n ls gs) s / 2 < n + ls.length + 1 + (slKept n ls gs).length := by
  rw [putS_half]
  exact h.inv.names _ (by rw [sl1_len]; exact hs)
/-- A name of the second pass. -/
theorem name2_lt {v : Nat} (hv : v < n + ls.length + 1 + (slKept n ls gs).length) (hu : v < n + ls.length + 1 ∨ slUse n ls gs os v = true) : (slN2 n ls gs os).getD v 0 / 2 < n + ls.length + 1 + (slStay n ls gs os).length := by
  unfold slN2 slStay
  by_cases h : v < n + ls.length + 1
  · rw [sl2_small h]; omega
  · obtain ⟨i, rfl⟩ : ∃ i, v = n + ls.length + 1 + i := ⟨v - (n + ls.length + 1), by omega⟩
    have u := hu.resolve_left h
    rw [sl2_gate _ (by omega), if_pos u]
    have := sl2_more (first := n + ls.length + 1) (use := slUse n ls gs os) (kept := slKept n ls gs) (show i < (slKept n ls gs).length by omega) u
    omega
theorem root_use {s : Nat} (h : s ∈ slRoots n ls gs os) : slUse n ls gs os (s / 2) = true := need_root h _
theorem getD_map {α β : Type} (l : List α) (f : α → β) (d : α) (e : β) (i : Nat) (hi : i < l.length) : (l.map f).getD i e = f (l.getD i d) := by simp [hi]
theorem latch_root {i : Nat} (hi : i < ls.length) : putS (slN1 n ls gs) (ls.getD i (0, 0)).1.toNat ∈ slRoots n ls gs os := by
  refine List.mem_append.2 (.inl (List.mem_map.2 ⟨ls.getD i (0, 0), ?_, rfl⟩))
  rw [List.getD_eq_getElem?_getD, List.getElem?_eq_getElem hi]; exact List.getElem_mem hi
theorem out_root {i : Nat} (hi : i < os.length) : putS (slN1 n ls gs) (os.getD i 0).toNat ∈ slRoots n ls gs os := by
  refine List.mem_append.2 (.inr (List.mem_map.2 ⟨os.getD i 0, ?_, rfl⟩))
  rw [List.getD_eq_getElem?_getD, List.getElem?_eq_getElem hi]; exact List.getElem_mem hi
theorem slL_get {i : Nat} (hi : i < ls.length) : (slL n ls gs os).getD i (0, 0) = ((putS (slN2 n ls gs os) (putS (slN1 n ls gs) (ls.getD i (0, 0)).1.toNat) : Int), (ls.getD i (0, 0)).2) := by
  unfold slL; rw [getD_map _ _ (0, 0) _ i hi]
theorem slO_get {i : Nat} (hi : i < os.length) : (slO n ls gs os).getD i 0 = (putS (slN2 n ls gs os) (putS (slN1 n ls gs) (os.getD i 0).toNat) : Int) := by
  unfold slO; rw [getD_map _ _ 0 _ i hi]
theorem root_lt (h : RightN n ls gs os) {s : Nat} (hs : s / 2 < n + ls.length + 1 + gs.length) (hr : putS (slN1 n ls gs) s ∈ slRoots n ls gs os) : putS (slN2 n ls gs os) (putS (slN1 n ls gs) s) / 2 < n + ls.length + 1 + (slStay n ls gs os).length := by
  rw [putS_half]
  exact name2_lt (put1_lt h hs) (.inr (root_use hr))

/-- IT IS RIGHT. -/
theorem slim_right (h : RightN n ls gs os) : RightN n (slL n ls gs os) (slG n ls gs os) (slO n ls gs os) := by
  have hst := slStay_ok h
  have h1 := slStay_le (n := n) (ls := ls) (gs := gs) (os := os)
  have h2 := slKept_le (n := n) (ls := ls) (gs := gs)
  have h3 := h.g30
  refine ⟨h.n4, by rw [slL_len]; exact h.l4, by rw [slO_len]; exact h.o4, by rw [slG_len]; omega, fun i hi => ?_, fun i hi => ?_, fun i hi => ?_⟩
  · rw [slL_len] at hi ⊢
    rw [slL_get hi, slG_len]
    have hl := h.lat i hi
    have := root_lt h hl.2.1 (latch_root hi)
    dsimp only
    omega
  · rw [slG_len] at hi
    rw [slL_len]
    unfold slG
    rw [z2_get]
    have := hst i hi
    dsimp only
    omega
  · rw [slO_len] at hi
    rw [slO_get hi, slL_len, slG_len]
    have ho := h.out i hi
    have := root_lt h ho.2 (out_root hi)
    omega

theorem natP_right (h : RightN n ls gs os) : z2 (natP gs) = gs := by
  apply List.ext_getElem
  · rw [z2_len, natP_len]
  · intro i h1 h2
    have e := z2_get (natP gs) i
    rw [natP_get] at e
    have := h.gat i h2
    rw [List.getD_eq_getElem?_getD, List.getElem?_eq_getElem h1, List.getD_eq_getElem?_getD, List.getElem?_eq_getElem h2] at e
    rw [List.getD_eq_getElem?_getD, List.getElem?_eq_getElem h2] at this
    simp only [Option.getD_some] at e this
    rw [e]
    exact Prod.ext (by dsimp only; omega) (by dsimp only; omega)
theorem vals_valN (h : RightN n ls gs os) (st inp : Nat) : vals n ls.length gs st inp = valN (natP gs) (baseVals n ls.length st inp) := by
  unfold vals valN
  rw [natP_right h, natP_len]
theorem vals_stay (st inp : Nat) : vals n ls.length (slG n ls gs os) st inp = valN (slStay n ls gs os) (baseVals n ls.length st inp) := by
  unfold vals valN slG
  rw [z2_len]
/-- Each signal that is asked for has the same value. -/
theorem slim_sig (h : RightN n ls gs os) (st inp : Nat) {s : Nat} (hs : s / 2 < n + ls.length + 1 + gs.length) (hr : putS (slN1 n ls gs) s ∈ slRoots n ls gs os) :
    sigN s (vals n ls.length gs st inp) = sigN (putS (slN2 n ls gs os) (putS (slN1 n ls gs) s)) (vals n ls.length (slG n ls gs os) st inp) := by
  have hb : (baseVals n ls.length st inp).length = n + ls.length + 1 := baseVals_len _ _ _ _
  have h01 := baseVals_01 n ls.length st inp
  have h0 : (baseVals n ls.length st inp).getD 0 0 = 0 := rfl
  rw [vals_valN h, vals_stay]
  have a := sl1_sem hb h01 h0 (by omega) h.gatesOk (natP gs).length (Nat.le_refl _) (s / 2) (by rw [natP_len]; exact hs)
  rw [natP_len] at a
  have hp := put1_lt h hs
  have b := sl2_sem hb h01 (by omega) h.keptOk (slUse_closed h) _ hp (.inr (root_use hr))
  rw [sig_put (slN2 n ls gs os)]
  have c : sigN s (valN (natP gs) (baseVals n ls.length st inp)) = sigN (putS (slN1 n ls gs) s) (valN (slKept n ls gs) (baseVals n ls.length st inp)) := by
    rw [sig_put]
    unfold slN1 slKept
    rw [← a]
    unfold sigN
    omega
  rw [c]
  unfold slN2 slStay
  rw [← b]
  unfold sigN
  omega
theorem packN_congr {f g : Nat → Nat} : ∀ k, (∀ i, i < k → f i = g i) → packN f k = packN g k
  | 0, _ => rfl
  | k + 1, h => by rw [packN, packN, packN_congr k (fun i hi => h i (by omega)), h k (by omega)]
theorem sigv_of_nat {s : Int} (h : 0 ≤ s) (vs : List Nat) : sigv s vs = sigN s.toNat vs := by
  have := sigv_nat s.toNat vs
  rw [← this]
  congr 1
  omega
/-- IT DOES THE SAME. -/
theorem slim_start : startOf (slL n ls gs os) (slL n ls gs os).length = startOf ls ls.length := by
  rw [slL_len]
  unfold startOf
  exact packN_congr _ (fun i hi => by rw [slL_get hi])
theorem slim_next (h : RightN n ls gs os) (st inp : Nat) : nextOf (slL n ls gs os) (vals n (slL n ls gs os).length (slG n ls gs os) st inp) (slL n ls gs os).length = nextOf ls (vals n ls.length gs st inp) ls.length := by
  rw [slL_len]
  unfold nextOf
  refine packN_congr _ (fun i hi => ?_)
  have hl := h.lat i hi
  rw [slL_get hi, sigv_nat, sigv_of_nat hl.1, ← slim_sig h st inp hl.2.1 (latch_root hi)]
theorem slim_out (h : RightN n ls gs os) (st inp : Nat) : outOf (slO n ls gs os) (vals n (slL n ls gs os).length (slG n ls gs os) st inp) (slO n ls gs os).length = outOf os (vals n ls.length gs st inp) os.length := by
  rw [slL_len, slO_len]
  unfold outOf
  refine packN_congr _ (fun i hi => ?_)
  have hl := h.out i hi
  rw [slO_get hi, sigv_nat, sigv_of_nat hl.1, ← slim_sig h st inp hl.2 (out_root hi)]
theorem slim_state (h : RightN n ls gs os) (ins : List Int) : ∀ k, stateAt n (slL n ls gs os) (slG n ls gs os) ins k = stateAt n ls gs ins k
  | 0 => slim_start
  | k + 1 => by rw [stateAt, stateAt, slim_state h ins k, slim_next h]
theorem slim_outAt (h : RightN n ls gs os) (ins : List Int) (k : Nat) : outAt n (slL n ls gs os) (slG n ls gs os) (slO n ls gs os) ins k = outAt n ls gs os ins k := by
  unfold outAt
  rw [slim_state h, slim_out h]
/-- .. so nothing makes the two differ. -/
theorem slim_run (h : RightN n ls gs os) (u : List Nat) : ((duo n ls gs os (slL n ls gs os) (slG n ls gs os) (slO n ls gs os)).run u).1 = ((duo n ls gs os (slL n ls gs os) (slG n ls gs os) (slO n ls gs os)).run u).2 := by
  have := state_run (n := n) (la := ls) (ga := gs) (oa := os) (lb := slL n ls gs os) (gb := slG n ls gs os) (ob := slO n ls gs os) u u.length (Nat.le_refl _)
  rw [List.take_length] at this
  rw [this]
  exact (slim_state h _ _).symm
theorem slim_difL (h : RightN n ls gs os) (u : List Nat) : (duo n ls gs os (slL n ls gs os) (slG n ls gs os) (slO n ls gs os)).difL u = 0 := by
  rcases snoc_cases u with rfl | ⟨q, i, rfl⟩
  · rfl
  · rw [Duo.difL_snoc]
    show outOf _ _ _ ^^^ outOf _ _ _ = 0
    rw [slim_out h, slim_run h, Nat.xor_self]
theorem slim_says (h : RightN n ls gs os) {s : Bool} {r : Nat} {t : List Nat} {d : Nat} (hs : (duo n ls gs os (slL n ls gs os) (slG n ls gs os) (slO n ls gs os)).Says s r t d) : s = true := by
  rcases hs with ⟨rfl, _⟩ | ⟨_, _, hl, _⟩
  · rfl
  · exact absurd (slim_difL h t) hl.2.1

/-- What was needed is needed, by its new name. -/
theorem need_again (h : RightN n ls gs os) : ∀ J, J ≤ (slKept n ls gs).length → ∀ v, v < n + ls.length + 1 + (slKept n ls gs).length → need (n + ls.length + 1) (slRoots n ls gs os) (slKept n ls gs) J v = true →
    need (n + ls.length + 1) ((slRoots n ls gs os).map (putS (slN2 n ls gs os))) (slStay n ls gs os) (slStay n ls gs os).length ((slN2 n ls gs os).getD v 0 / 2) = true := by
  intro J
  induction J with
  | zero =>
    intro _ v _ hn
    rw [need] at hn
    obtain ⟨s, hs, rfl⟩ := of_decide_eq_true hn
    rw [← putS_half]
    exact need_root (List.mem_map.2 ⟨s, hs, rfl⟩) _
  | succ J ih =>
    intro hJ v hv hn
    rw [need, Bool.or_eq_true, Bool.and_eq_true, Bool.or_eq_true, decide_eq_true_eq, decide_eq_true_eq] at hn
    rcases hn with hn | ⟨hn, hhalf⟩
    · exact ih (by omega) v hv hn
    · obtain ⟨i, hi⟩ : ∃ i, i = (slKept n ls gs).length - 1 - J := ⟨_, rfl⟩
      rw [← hi] at hn hhalf
      have hi2 : i < (slKept n ls gs).length := by omega
      have h1 := ih (by omega) _ (by omega) hn
      have hu : slUse n ls gs os (n + ls.length + 1 + i) = true := need_mono hn _ (by omega)
      have e : (slN2 n ls gs os).getD (n + ls.length + 1 + i) 0 = 2 * (n + ls.length + 1 + (sl2 (n + ls.length + 1) (slUse n ls gs os) (slKept n ls gs) i).2.length) := by
        unfold slN2; rw [sl2_gate _ hi2, if_pos hu]
      rw [e, Nat.mul_div_cancel_left _ (by omega)] at h1
      obtain ⟨hlt, hat⟩ := sl2_at h.keptOk hi2 (Nat.le_refl _) hu
      have hc := need_closed (slStay_ok h) hlt h1
      have hat' : (slStay n ls gs os).getD (sl2 (n + ls.length + 1) (slUse n ls gs os) (slKept n ls gs) i).2.length (0, 0) = (putS (slN2 n ls gs os) ((slKept n ls gs).getD i (0, 0)).1, putS (slN2 n ls gs os) ((slKept n ls gs).getD i (0, 0)).2) := hat
      rw [hat'] at hc
      dsimp only at hc
      rw [putS_half, putS_half] at hc
      rcases hhalf with e | e
      · rw [e] at hc; exact hc.1
      · rw [e] at hc; exact hc.2
theorem again_all (h : RightN n ls gs os) (m : Nat) (hm : m < (slStay n ls gs os).length) : need (n + ls.length + 1) ((slRoots n ls gs os).map (putS (slN2 n ls gs os))) (slStay n ls gs os) (slStay n ls gs os).length (n + ls.length + 1 + m) = true := by
  obtain ⟨i, hi, hu, e⟩ := sl2_from (first := n + ls.length + 1) (use := slUse n ls gs os) (slKept n ls gs).length (Nat.le_refl _) m hm
  have := need_again h _ (Nat.le_refl _) (n + ls.length + 1 + i) (by omega) hu
  rw [show (slN2 n ls gs os).getD (n + ls.length + 1 + i) 0 = 2 * (n + ls.length + 1 + m) by unfold slN2; rw [sl2_gate _ hi, if_pos hu, e], Nat.mul_div_cancel_left _ (by omega)] at this
  exact this
/-- IT IS NOT MADE SMALLER AGAIN. -/
theorem slim_again (h : RightN n ls gs os) : slL n (slL n ls gs os) (slG n ls gs os) (slO n ls gs os) = slL n ls gs os ∧ slG n (slL n ls gs os) (slG n ls gs os) (slO n ls gs os) = slG n ls gs os ∧ slO n (slL n ls gs os) (slG n ls gs os) (slO n ls gs os) = slO n ls gs os := by
  obtain ⟨L', hL'⟩ : ∃ L', L' = slL n ls gs os := ⟨_, rfl⟩
  obtain ⟨G', hG'⟩ : ∃ G', G' = slG n ls gs os := ⟨_, rfl⟩
  obtain ⟨O', hO'⟩ : ∃ O', O' = slO n ls gs os := ⟨_, rfl⟩
  have hr : RightN n L' G' O' := by rw [hL', hG', hO']; exact slim_right h
  have lL : L'.length = ls.length := by rw [hL', slL_len]
  have lO : O'.length = os.length := by rw [hO', slO_len]
  have lG : G'.length = (slStay n ls gs os).length := by rw [hG', slG_len]
  have nG : natP G' = slStay n ls gs os := by rw [hG']; unfold slG; exact natP_z2 _
  have e1 := sl1_idem (slStay_ok h) (slStay_nodup h) (slStay n ls gs os).length (Nat.le_refl _)
  rw [List.take_length] at e1
  have hN1 : slN1 n L' G' = idn (n + ls.length + 1 + (slStay n ls gs os).length) := by unfold slN1; rw [lL, lG, nG, e1]
  have hK : slKept n L' G' = slStay n ls gs os := by unfold slKept; rw [lL, lG, nG, e1]
  have hpu : ∀ s : Nat, s / 2 < n + ls.length + 1 + (slStay n ls gs os).length → putS (slN1 n L' G') s = s := fun s hs => by rw [hN1]; exact putS_idn hs
  have hRt : slRoots n L' G' O' = (slRoots n ls gs os).map (putS (slN2 n ls gs os)) := by
    unfold slRoots
    rw [List.map_append, List.map_map, List.map_map]
    congr 1
    · rw [hL']
      unfold slL
      rw [List.map_map]
      apply List.map_congr_left
      intro p hp
      obtain ⟨i, hi, rfl⟩ := List.getElem_of_mem hp
      have hp2 : ls.getD i (0, 0) = ls[i] := by rw [List.getD_eq_getElem?_getD, List.getElem?_eq_getElem hi]; rfl
      show putS (slN1 n (slL n ls gs os) G') ((putS (slN2 n ls gs os) (putS (slN1 n ls gs) ls[i].1.toNat) : Nat) : Int).toNat = putS (slN2 n ls gs os) (putS (slN1 n ls gs) ls[i].1.toNat)
      rw [← hL', Int.toNat_natCast, hpu]
      rw [← hp2]
      exact root_lt h (h.lat i hi).2.1 (latch_root hi)
    · rw [hO']
      unfold slO
      rw [List.map_map]
      apply List.map_congr_left
      intro p hp
      obtain ⟨i, hi, rfl⟩ := List.getElem_of_mem hp
      have hp2 : os.getD i 0 = os[i] := by rw [List.getD_eq_getElem?_getD, List.getElem?_eq_getElem hi]; rfl
      show putS (slN1 n L' G') ((putS (slN2 n ls gs os) (putS (slN1 n ls gs) os[i].toNat) : Nat) : Int).toNat = putS (slN2 n ls gs os) (putS (slN1 n ls gs) os[i].toNat)
      rw [Int.toNat_natCast, hpu]
      rw [← hp2]
      exact root_lt h (h.out i hi).2 (out_root hi)
  have e2 := sl2_idem (slStay_ok h) (use := slUse n L' G' O') (fun i hi => by unfold slUse; rw [lL, hK, hRt]; exact again_all h i hi) (slStay n ls gs os).length (Nat.le_refl _)
  rw [List.take_length] at e2
  have hN2 : slN2 n L' G' O' = idn (n + ls.length + 1 + (slStay n ls gs os).length) := by unfold slN2; rw [lL, hK, e2]
  have hS : slStay n L' G' O' = slStay n ls gs os := by unfold slStay at e2 ⊢; rw [lL, hK]; unfold slStay; rw [e2]
  refine ⟨?_, ?_, ?_⟩
  · rw [← hL', ← hG', ← hO']
    apply List.ext_getElem
    · rw [slL_len]
    · intro i h1 h2
      have a := slL_get (n := n) (ls := L') (gs := G') (os := O') h2
      have b := hr.lat i h2
      rw [lL, lG] at b
      rw [hpu _ b.2.1, hN2, putS_idn b.2.1] at a
      rw [List.getD_eq_getElem?_getD, List.getElem?_eq_getElem h1, List.getD_eq_getElem?_getD, List.getElem?_eq_getElem h2] at a
      rw [List.getD_eq_getElem?_getD, List.getElem?_eq_getElem h2] at b
      simp only [Option.getD_some] at a b
      rw [a]
      exact Prod.ext (by dsimp only; omega) rfl
  · rw [← hL', ← hG', ← hO']
    show z2 (slStay n L' G' O') = G'
    rw [hS, hG']
    rfl
  · rw [← hL', ← hG', ← hO']
    apply List.ext_getElem
    · rw [slO_len]
    · intro i h1 h2
      have a := slO_get (n := n) (ls := L') (gs := G') (os := O') h2
      have b := hr.out i h2
      rw [lL, lG] at b
      rw [hpu _ b.2, hN2, putS_idn b.2] at a
      rw [List.getD_eq_getElem?_getD, List.getElem?_eq_getElem h1, List.getD_eq_getElem?_getD, List.getElem?_eq_getElem h2] at a
      rw [List.getD_eq_getElem?_getD, List.getElem?_eq_getElem h2] at b
      simp only [Option.getD_some] at a b
      rw [a]
      omega
end

end Go.Proofs.YtgpaajdfkekjiaaGreatDoor
