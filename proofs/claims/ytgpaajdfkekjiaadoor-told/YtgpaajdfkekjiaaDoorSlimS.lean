/-
  Plain mathematics of Slim: the slim circuit does the same, is right, and is not made smaller again.
-/
import Derived.Test.YtgpaajdfkekjiaaDoorSlimQ
namespace Go.Proofs.YtgpaajdfkekjiaaDoor

def z2 (ps : List (Nat × Nat)) : List (Int × Int) := ps.map fun (p : Nat × Nat) => ((p.1 : Int), (p.2 : Int))
theorem z2_len (ps : List (Nat × Nat)) : (z2 ps).length = ps.length := by simp [z2]
theorem z2_get (ps : List (Nat × Nat)) (k : Nat) : (z2 ps).getD k (0, 0) = (((ps.getD k (0, 0)).1 : Int), ((ps.getD k (0, 0)).2 : Int)) := by
  simp only [z2, List.getD_eq_getElem?_getD, List.getElem?_map]
  cases ps[k]? <;> rfl
def sigN (s : Nat) (vs : List Nat) : Nat := (vs.getD (s / 2) 0 + s % 2) % 2
theorem sigv_nat (s : Nat) (vs : List Nat) : sigv (s : Int) vs = sigN s vs := by
  unfold sigv sigN
  have h1 : ((s : Int) / 2).toNat = s / 2 := by omega
  have h2 : ((s : Int)).toNat = s := by omega
  rw [h1, h2]
theorem sigN_le (s : Nat) (vs : List Nat) : sigN s vs ≤ 1 := by unfold sigN; omega

/-- A gate's value. -/
theorem gateVals_keep (gs : List (Int × Int)) (vs : List Nat) {i : Nat} : ∀ k, i ≤ k → ∀ v, v < vs.length + i → (gateVals gs vs k).getD v 0 = (gateVals gs vs i).getD v 0 := by
  intro k
  induction k with
  | zero => intro h v _; have : i = 0 := by omega
            subst this; rfl
  | succ k ih =>
    intro h v hv
    by_cases e : i = k + 1
    · subst e; rfl
    · rw [gateVals, getD_snoc_lt (by rw [gateVals_len]; omega)]
      exact ih (by omega) v hv
/-- Values of the variables, out of those ahead of the gates and the gates. -/
def valN (gs : List (Nat × Nat)) (bs : List Nat) : List Nat := gateVals (z2 gs) bs gs.length
theorem valN_len (gs : List (Nat × Nat)) (bs : List Nat) : (valN gs bs).length = bs.length + gs.length := gateVals_len _ _ _
theorem valN_base (gs : List (Nat × Nat)) (bs : List Nat) {v : Nat} (hv : v < bs.length) : (valN gs bs).getD v 0 = bs.getD v 0 := gateVals_keep _ _ _ (Nat.zero_le _) v hv
theorem valN_gate {gs : List (Nat × Nat)} {bs : List Nat} (hg : GatesOk bs.length gs) {i : Nat} (hi : i < gs.length) : (valN gs bs).getD (bs.length + i) 0 = sigN (gs.getD i (0, 0)).1 (valN gs bs) * sigN (gs.getD i (0, 0)).2 (valN gs bs) := by
  obtain ⟨h1, h2⟩ := hg i hi
  have key : ∀ s, s / 2 < bs.length + i → sigN s (gateVals (z2 gs) bs i) = sigN s (valN gs bs) := fun s hs => by
    unfold sigN
    rw [show (valN gs bs).getD (s / 2) 0 = (gateVals (z2 gs) bs i).getD (s / 2) 0 from gateVals_keep _ _ _ (by omega) _ hs]
  have : (valN gs bs).getD (bs.length + i) 0 = (gateVals (z2 gs) bs (i + 1)).getD (bs.length + i) 0 := gateVals_keep _ _ _ (by omega) _ (by omega)
  rw [this, gateVals]
  have hl := gateVals_len (z2 gs) bs i
  rw [← hl, getD_snoc_at, z2_get, sigv_nat, sigv_nat, key _ h1, key _ h2]
theorem valN_01 {gs : List (Nat × Nat)} {bs : List Nat} (hb : ∀ x ∈ bs, x ≤ 1) (v : Nat) : (valN gs bs).getD v 0 ≤ 1 := by
  by_cases h : v < (valN gs bs).length
  · rw [List.getD_eq_getElem?_getD, List.getElem?_eq_getElem h]
    exact gateVals_01 (z2 gs) bs hb _ _ (List.getElem_mem h)
  · rw [List.getD_eq_getElem?_getD, List.getElem?_eq_none (by omega)]
    exact Nat.zero_le _

theorem sig_put (l : List Nat) (s : Nat) (W : List Nat) : sigN (putS l s) W = (sigN (l.getD (s / 2) 0) W + s % 2) % 2 := by
  unfold sigN
  rw [putS_half, putS_bit]
  omega

section
variable {first : Nat} {gs : List (Nat × Nat)}
theorem sl1_prefix (k : Nat) : ∀ k', k ≤ k' → (sl1 first gs k).2 <+: (sl1 first gs k').2 := by
  intro k'
  induction k' with
  | zero => intro h; have : k = 0 := by omega
            subst this; exact List.prefix_refl _
  | succ k' ih =>
    intro h
    by_cases e : k = k' + 1
    · subst e; exact List.prefix_refl _
    · refine (ih (by omega)).trans ?_
      rw [sl1]
      unfold slStep
      dsimp only
      repeat' split
      all_goals first | exact List.prefix_refl _ | exact List.prefix_append _ _
theorem prefix_get {α : Type} {a b : List α} (h : a <+: b) {k : Nat} (hk : k < a.length) (d : α) : b.getD k d = a.getD k d := by
  obtain ⟨r, rfl⟩ := h
  simp only [List.getD_eq_getElem?_getD]; rw [List.getElem?_append_left hk]
theorem kept_ok {t : List Nat × List (Nat × Nat)} (h : Sl1Inv first t) : KeptOk first t.2 := h.ahead
theorem kept_gates {kept : List (Nat × Nat)} (h : KeptOk first kept) : GatesOk first kept := fun k hk => by have := h k hk; omega

/-- The first pass: each variable has the value of the signal that it is put as. -/
theorem sl1_sem {bs : List Nat} (hb : bs.length = first) (h01 : ∀ x ∈ bs, x ≤ 1) (h0 : bs.getD 0 0 = 0) (hf : 0 < first) (hg : GatesOk first gs) : ∀ k, k ≤ gs.length → ∀ v, v < first + k →
    (valN gs bs).getD v 0 = sigN ((sl1 first gs k).1.getD v 0) (valN (sl1 first gs gs.length).2 bs) := by
  obtain ⟨V, hV⟩ : ∃ V, V = valN gs bs := ⟨_, rfl⟩
  obtain ⟨kF, hkF⟩ : ∃ kF, kF = (sl1 first gs gs.length).2 := ⟨_, rfl⟩
  obtain ⟨V1, hV1⟩ : ∃ V1, V1 = valN kF bs := ⟨_, rfl⟩
  have hinvF := sl1_inv hf hg gs.length (Nat.le_refl _)
  have hgF : GatesOk bs.length kF := by rw [hb, hkF]; exact kept_gates (kept_ok hinvF)
  have hz : V1.getD 0 0 = 0 := by rw [hV1, valN_base _ _ (by omega)]; exact h0
  intro k
  rw [← hV, ← hkF, ← hV1]
  induction k with
  | zero =>
    intro _ v hv
    rw [sl1]
    dsimp only
    rw [idn_get (by omega), hV, valN_base _ _ (by omega)]
    unfold sigN
    rw [show 2 * v / 2 = v by omega, show 2 * v % 2 = 0 by omega, hV1, valN_base _ _ (by omega)]
    have : bs.getD v 0 ≤ 1 := by
      rw [List.getD_eq_getElem?_getD, List.getElem?_eq_getElem (show v < bs.length by omega)]
      exact h01 _ (List.getElem_mem _)
    omega
  | succ k ih =>
    intro hk v hv
    have hl := sl1_len first gs k
    have hinv := sl1_inv hf hg k (by omega)
    by_cases e : v = first + k
    · subst e
      obtain ⟨g1, g2⟩ := hg k (by omega)
      have hval : V.getD (first + k) 0 = sigN (gs.getD k (0, 0)).1 V * sigN (gs.getD k (0, 0)).2 V := by
        have := valN_gate (bs := bs) (gs := gs) (by rw [hb]; exact hg) (i := k) (by omega)
        rw [hb, ← hV] at this; exact this
      have hs : ∀ s, s / 2 < first + k → sigN s V = sigN (putS (sl1 first gs k).1 s) V1 := fun s hs => by
        rw [sig_put, ← ih (by omega) _ hs]
        unfold sigN
        omega
      have hprod : V.getD (first + k) 0 = sigN (putG (sl1 first gs k).1 (gs.getD k (0, 0))).1 V1 * sigN (putG (sl1 first gs k).1 (gs.getD k (0, 0))).2 V1 := by
        rw [hval, hs _ g1, hs _ g2]
        unfold putG
        dsimp only
        rcases minmax (putS (sl1 first gs k).1 (gs.getD k (0, 0)).1) (putS (sl1 first gs k).1 (gs.getD k (0, 0)).2) with ⟨e1, e2⟩ | ⟨e1, e2⟩
        · rw [e1, e2]
        · rw [e1, e2, Nat.mul_comm]
      have hpre : (sl1 first gs (k + 1)).2 <+: kF := by rw [hkF]; exact sl1_prefix (k + 1) _ hk
      rw [hprod]
      rw [sl1] at hpre ⊢
      obtain ⟨h, hh⟩ : ∃ h, h = putG (sl1 first gs k).1 (gs.getD k (0, 0)) := ⟨_, rfl⟩
      have hle := sigN_le h.1 V1
      have hle2 := sigN_le h.2 V1
      have hgate : ∀ j, j < kF.length → kF.getD j (0, 0) = h → sigN (2 * (first + j)) V1 = sigN h.1 V1 * sigN h.2 V1 := fun j hj ej => by
        have := valN_gate (bs := bs) (gs := kF) hgF hj
        rw [hb, ← hV1, ej] at this
        unfold sigN at this ⊢
        rw [show 2 * (first + j) / 2 = first + j by omega, show 2 * (first + j) % 2 = 0 by omega, this]
        have a : (V1.getD (h.1 / 2) 0 + h.1 % 2) % 2 ≤ 1 := by omega
        have b : (V1.getD (h.2 / 2) 0 + h.2 % 2) % 2 ≤ 1 := by omega
        have := Nat.mul_le_mul a b
        omega
      unfold slStep at hpre ⊢
      rw [← hh] at hpre ⊢
      dsimp only at hpre ⊢
      split
      · rename_i c0
        dsimp only
        rw [← hl, getD_snoc_at, c0]
        have : sigN 0 V1 = 0 := by unfold sigN; rw [show 0 / 2 = 0 from rfl, hz]
        rw [this, Nat.zero_mul]
      split
      · rename_i c0 c1
        dsimp only
        rw [← hl, getD_snoc_at, c1]
        have : sigN 1 V1 = 1 := by unfold sigN; rw [show 1 / 2 = 0 from rfl, hz]
        rw [this, Nat.one_mul]
      split
      · rename_i c0 c1 c2
        dsimp only
        rw [← hl, getD_snoc_at, ← c2]
        have : sigN h.1 V1 = 0 ∨ sigN h.1 V1 = 1 := by omega
        rcases this with e | e <;> rw [e]
      split
      · rename_i c0 c1 c2 c3
        dsimp only
        rw [← hl, getD_snoc_at]
        have e0 : sigN 0 V1 = 0 := by unfold sigN; rw [show 0 / 2 = 0 from rfl, hz]
        have eo : sigN h.1 V1 + sigN h.2 V1 = 1 := by
          unfold sigN
          rw [c3]
          omega
        rw [e0]
        have : sigN h.1 V1 = 0 ∨ sigN h.1 V1 = 1 := by omega
        rcases this with e | e
        · rw [e, Nat.zero_mul]
        · have e2 : sigN h.2 V1 = 0 := by omega
          rw [e2, Nat.mul_zero]
      split
      · rename_i c0 c1 c2 c3 hm
        rw [if_neg c0, if_neg c1, if_neg c2, if_neg c3, if_pos hm] at hpre
        dsimp only at hpre ⊢
        rw [← hl, getD_snoc_at]
        have hj := List.idxOf_lt_length_iff.2 hm
        refine (hgate _ (Nat.lt_of_lt_of_le hj hpre.length_le) ?_).symm
        rw [prefix_get hpre hj, List.getD_eq_getElem?_getD, List.getElem?_eq_getElem hj]
        simp
      · rename_i c0 c1 c2 c3 hm
        rw [if_neg c0, if_neg c1, if_neg c2, if_neg c3, if_neg hm] at hpre
        dsimp only at hpre ⊢
        rw [← hl, getD_snoc_at]
        have hj : (sl1 first gs k).2.length < ((sl1 first gs k).2 ++ [h]).length := by simp
        refine (hgate _ (Nat.lt_of_lt_of_le hj hpre.length_le) ?_).symm
        rw [prefix_get hpre hj, getD_snoc_at]
    · rw [ih (by omega) v (by omega)]
      congr 1
      rw [sl1]
      unfold slStep
      dsimp only
      repeat' split
      all_goals (dsimp only; rw [getD_snoc_lt (by omega)])
end

end Go.Proofs.YtgpaajdfkekjiaaDoor
