/-
  The map from gates to signals of package slim: what it holds. And the first pass in the words of needless.
-/
import Derived.Test.YtgpaajdfkekjiaaGreatDoorSlmB
import Derived.Maps.OwnSet
import Derived.DeepKeys4
namespace Go.Proofs.YtgpaajdfkekjiaaGreatDoor
open Go.RowKit Go.Maps

theorem Tryz.laidOutS : laidOutB Tryz.prog = true := by kernel_rfl
theorem Tryz.rowGateS : (56 : TypeId) < Tryz.prog.types.size := of_decide_eq_true (by kernel_rfl)
theorem Tryz.wideGateS : (match Tryz.prog.underlying 56 with | some (.array _ _) | some (.struct _) => true | _ => false) = true := by rw [Tryz.underlying56]
set_option maxRecDepth 100000 in
theorem gateLaw : Keyed Tryz.prog 56 := Keyed.of_law (deep_law_laid Tryz.laidOutS (m := 2) (by omega) Tryz.rowGateS (by kernel_rfl) Tryz.wideGateS)
/-- A gate as a value. -/
def gval (g : Nat × Nat) : Value := .agg #[.int .i64 g.1, .int .i64 g.2]
theorem gval_inj {g h : Nat × Nat} (e : gval g = gval h) : g = h := by
  unfold gval at e
  simp at e
  exact Prod.ext (by omega) (by omega)

set_option maxRecDepth 100000 in
theorem Tryz.keyGateS : Tryz.prog.keyType 56 = true := by kernel_rfl
set_option maxRecDepth 100000 in
theorem Tryz.cellsGateS : Tryz.prog.cellsOf 56 = 2 := by kernel_rfl
set_option maxRecDepth 100000 in
theorem Tryz.cellsIntS : Tryz.prog.cellsOf 3 = 1 := by kernel_rfl
theorem key_pair {P : Program} {t ti : TypeId} {a b} (hu : P.underlying t = some (.struct #[a, b])) (hk : P.keyType t = true) (hc : P.cellsOf t = 2) (hci : P.cellsOf ti = 1) (hi : P.underlying ti = some (.int .i64))
    (ha : a.type = ti ∧ a.offset = 0 ∧ (a.name != "_") = true) (hb : b.type = ti ∧ b.offset = 1 ∧ (b.name != "_") = true) {n : Nat} (hs : n < P.types.size) {x y : Int} (wx : (Lit.int .i64 x).wf = true) (wy : (Lit.int .i64 y).wf = true) :
    ∃ l, keyOf P t (.agg #[.int .i64 x, .int .i64 y]) = some l := by
  obtain ⟨m, hm⟩ : ∃ m, P.types.size = m + 1 := ⟨P.types.size - 1, by omega⟩
  obtain ⟨a1, a2, a3⟩ := ha
  obtain ⟨b1, b2, b3⟩ := hb
  simp at a3 b3
  simp [keyOf, hu, hk, Value.formed, hc, hm, Program.keyLits, Value.cells, hci, hi, wx, wy, a1, a2, a3, b1, b2, b3]
set_option maxRecDepth 100000 in
theorem gate_key {g : Nat × Nat} (h1 : g.1 < 1000) (h2 : g.2 < 1000) : ∃ l, keyOf Tryz.prog 56 (gval g) = some l :=
  key_pair Tryz.underlying56 Tryz.keyGateS Tryz.cellsGateS Tryz.cellsIntS Tryz.underlying3 ⟨rfl, rfl, rfl⟩ ⟨rfl, rfl, rfl⟩ Tryz.rowGateS (WalkArith.wf_i64 (by omega)) (WalkArith.wf_i64 (by omega))

/-- The map holds, for each gate that is kept, its signal. -/
def SigMap (D : DataW Nat) (first : Nat) (kept : List (Nat × Nat)) : Prop :=
  ∀ (g : Nat × Nat) (l : Lit), keyOf Tryz.prog 56 (gval g) = some l → has D l = decide (g ∈ kept) ∧ (g ∈ kept → D.atKey l (.lit (.int .i64 0)) = .lit (.int .i64 ((2 * (first + kept.idxOf g) : Nat) : Int)))
theorem sigMap_nil (first : Nat) : SigMap (.map []) first [] := fun g l _ => ⟨by simp [has_eq], fun h => by simp at h⟩
theorem SigMap.put {D : DataW Nat} {first : Nat} {kept : List (Nat × Nat)} (h : SigMap D first kept) (hD : IsMap D) {g : Nat × Nat} {l : Lit} (hk : keyOf Tryz.prog 56 (gval g) = some l) (hg : g ∉ kept) :
    SigMap (D.put l (.lit (.int .i64 ((2 * (first + kept.length) : Nat) : Int)))) first (kept ++ [g]) := by
  intro g' l' hk'
  by_cases e : g' = g
  · subst e
    rw [hk] at hk'
    cases hk'
    refine ⟨by rw [has_put_same hD (gateLaw.key hk)]; simp, fun _ => ?_⟩
    rw [atKey_put_same hD (gateLaw.key hk), List.idxOf_append, if_neg hg]
    simp
  · have hne : l' ≠ l := fun e2 => e (by subst e2; exact gval_inj (gateLaw.inj hk' hk))
    obtain ⟨h1, h2⟩ := h g' l' hk'
    refine ⟨by rw [has_put_other hne, h1]; simp [e], fun hm => ?_⟩
    have hm' : g' ∈ kept := by
      rcases List.mem_append.1 hm with h | h
      · exact h
      · simp at h; exact absurd h e
    rw [atKey_put_other hne, h2 hm', List.idxOf_append, if_pos hm']

theorem ndl_step (first : Nat) (t : List Nat × List (Nat × Nat)) (g : Nat × Nat) :
    slStep first t g = if (ndl (putG t.1 g).1 (putG t.1 g).2).2 then (t.1 ++ [(ndl (putG t.1 g).1 (putG t.1 g).2).1], t.2)
      else if putG t.1 g ∈ t.2 then (t.1 ++ [2 * (first + t.2.idxOf (putG t.1 g))], t.2) else (t.1 ++ [2 * (first + t.2.length)], t.2 ++ [putG t.1 g]) := by
  have hle : (putG t.1 g).1 ≤ (putG t.1 g).2 := by unfold putG; dsimp only; omega
  unfold slStep ndl
  dsimp only
  generalize putG t.1 g = h at hle ⊢
  by_cases h0 : h.1 = 0
  · simp [h0]
  by_cases h1 : h.1 = 1
  · simp [h1]
  by_cases h2 : h.1 = h.2
  · simp only [if_neg h0, if_neg h1, if_pos h2, if_true]
  have hx := xor_bit h.2 1 (by omega)
  by_cases h3 : h.1 = h.2 ^^^ 1
  · have h4 : h.1 / 2 = h.2 / 2 := by omega
    simp only [if_neg h0, if_neg h1, if_neg h2, if_pos h3, if_pos h4, if_true]
  · have h4 : ¬ h.1 / 2 = h.2 / 2 := by omega
    simp only [if_neg h0, if_neg h1, if_neg h2, if_neg h3, if_neg h4]
    simp

end Go.Proofs.YtgpaajdfkekjiaaGreatDoor
