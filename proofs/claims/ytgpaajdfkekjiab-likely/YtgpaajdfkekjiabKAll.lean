/-
  What circuit of package latchkeep answers, of any raw circuit; lists that are owned, read.
-/
import Derived.Test.YtgpaajdfkekjiabKCirc
import Derived.Test.YtgpaajdfkekjiabKCircB
import Derived.Test.YtgpaajdfkekjiabKCircC
import Derived.Test.YtgpaajdfkekjiabKCircD
namespace Go.Proofs.Ytgpaajdfkekjiab
open Go.RowKit

/-- The circuit that is made out of a raw one. -/
def cL (N : Nat) (rl rg : List (Int × Int)) : List (Int × Int) := kL rl (2 * (1 + (N : Int) + (min rl.length 4 : Nat) + (min rg.length 30 : Nat))) (min rl.length 4)
def cG (N : Nat) (rl rg : List (Int × Int)) : List (Int × Int) := kG rg (1 + N + min rl.length 4) (min rg.length 30)
def cO (N : Nat) (rl rg : List (Int × Int)) (ro : List Int) (o : Nat) : List Int := kO ro (2 * (1 + (N : Int) + (min rl.length 4 : Nat) + (min rg.length 30 : Nat))) o
theorem cL_len (N : Nat) (rl rg : List (Int × Int)) : (cL N rl rg).length = min rl.length 4 := kL_len _ _ _
theorem cG_len (N : Nat) (rl rg : List (Int × Int)) : (cG N rl rg).length = min rg.length 30 := kG_len _ _ _
theorem cO_len (N : Nat) (rl rg : List (Int × Int)) (ro : List Int) (o : Nat) : (cO N rl rg ro o).length = o := kO_len _ _ _
theorem c_right (N : Nat) (rl rg : List (Int × Int)) (ro : List Int) (o : Nat) (hN : N ≤ 4) (ho : o ≤ 4) : rightB N (cL N rl rg) (cG N rl rg) (cO N rl rg ro o) = true :=
  k_right N rl rg ro _ _ _ hN (by omega) (by omega) ho

theorem circuit_any (r0 : Int) (la ga oa : Option Addr) (lc gc oc : Nat) (rl rg : List (Int × Int)) (ro : List Int) (N o : Nat) (w : World) (ha : N ≤ 4) (ho : o ≤ 4) (hml : ro.length ≤ maxLen)
    (hL : PairsAt w la rl) (hG : PairsAt w ga rg) (hO : IntsAt w oa ro)
    (fL : ∀ i, i < rl.length → FitsK (rl.getD i (0, 0)).1 ∧ FitsK (rl.getD i (0, 0)).2) (fG : ∀ i, i < rg.length → FitsK (rg.getD i (0, 0)).1 ∧ FitsK (rg.getD i (0, 0)).2) (fO : ∀ i, i < ro.length → FitsK (ro.getD i 0)) :
    Calls Try.prog 6 #[.agg #[.int .i64 r0, .slice la rl.length lc, .slice ga rg.length gc, .slice oa ro.length oc], .int .i64 N, .int .i64 o] w (CircRes w N (cL N rl rg) (cG N rl rg) (cO N rl rg ro o)) := by
  unfold cL cG cO
  rcases Nat.lt_or_ge 4 rl.length with h1 | h1 <;> rcases Nat.lt_or_ge 30 rg.length with h2 | h2
  · rw [Nat.min_eq_right (by omega : 4 ≤ rl.length), Nat.min_eq_right (by omega : 30 ≤ rg.length)]
    exact circuit_walkD r0 la ga oa lc gc oc rl rg ro N o w ha ho h1 h2 hml hL hG hO fL fG fO
  · rw [Nat.min_eq_right (by omega : 4 ≤ rl.length), Nat.min_eq_left h2]
    exact circuit_walkB r0 la ga oa lc gc oc rl rg ro N o w ha ho h1 h2 hml hL hG hO fL fG fO
  · rw [Nat.min_eq_left h1, Nat.min_eq_right (by omega : 30 ≤ rg.length)]
    exact circuit_walkC r0 la ga oa lc gc oc rl rg ro N o w ha ho h1 h2 hml hL hG hO fL fG fO
  · rw [Nat.min_eq_left h1, Nat.min_eq_left h2]
    exact circuit_walkA r0 la ga oa lc gc oc rl rg ro N o w ha ho h1 h2 hml hL hG hO fL fG fO

theorem flat_get : ∀ (ps : List (Int × Int)) (i : Nat), i < ps.length → (flat ps)[i * 2]? = some (.int .i64 (ps.getD i (0, 0)).1) ∧ (flat ps)[i * 2 + 1]? = some (.int .i64 (ps.getD i (0, 0)).2)
  | [], i, hi => by simp at hi
  | p :: ps, 0, _ => ⟨rfl, rfl⟩
  | p :: ps, i + 1, hi => by
    have := flat_get ps i (by simpa using hi)
    have e1 : (i + 1) * 2 = i * 2 + 2 := by omega
    have e2 : flat (p :: ps) = [.int .i64 p.1, .int .i64 p.2] ++ flat ps := rfl
    rw [e1, e2, List.getElem?_append_right (by simp), List.getElem?_append_right (by simp)]
    simpa using this
/-- A list of pairs that is owned, read. -/
theorem own_pairs {w : World} {base e n : Nat} {v : Value} {ps : List (Int × Int)} (h : w.ownsRow base e 2 v n (flat ps)) : ∃ a c, v = .slice a ps.length c ∧ n = ps.length ∧ PairsAt w a ps := by
  have hl : ps.length * 2 = n * 2 := by rw [← flat_len]; exact h.1
  have hn : n = ps.length := by omega
  subst hn
  rcases h.2 with ⟨hv, h0⟩ | ⟨g, cap, cur, hv, _⟩
  · exact ⟨none, 0, by rw [hv, h0], rfl, .inl (List.length_eq_zero_iff.1 h0)⟩
  · subst hv
    refine ⟨some ⟨g, 0, none⟩, cap, rfl, rfl, .inr ⟨g, 0, rfl, (h.lt g rfl).2, fun i hi => ?_⟩⟩
    rw [Nat.zero_add, h.cellAt _ (by omega), h.cellAt _ (by omega)]
    exact flat_get ps i hi
theorem own_intlist {w : World} {base e n : Nat} {v : Value} {xs : List Int} (h : w.ownsRow base e 1 v n (ivs xs)) : ∃ a c, v = .slice a xs.length c ∧ n = xs.length ∧ IntsAt w a xs := by
  have hl : xs.length = n * 1 := by have := h.1; simpa [ivs] using this
  have hn : n = xs.length := by omega
  subst hn
  rcases h.2 with ⟨hv, h0⟩ | ⟨g, cap, cur, hv, _⟩
  · exact ⟨none, 0, by rw [hv, h0], rfl, .inl (List.length_eq_zero_iff.1 h0)⟩
  · subst hv
    refine ⟨some ⟨g, 0, none⟩, cap, rfl, rfl, .inr ⟨g, 0, rfl, (h.lt g rfl).2, fun i hi => ?_⟩⟩
    rw [Nat.zero_add, h.cellAt _ (by omega)]
    simp [ivs, hi]

/-- A circuit that was made and stands in a box of its own. -/
def MadeC (w wx : World) (p : Value) (N : Nat) (ls gs : List (Int × Int)) (os : List Int) : Prop :=
  ∃ b lv gv ov, p = .pointer (some ⟨b, 0, none⟩) ∧ w.heap.size ≤ b ∧ wx.heap[b]? = some (.cells #[.int .i64 N, lv, gv, ov] 26 (0, 0)) ∧
    wx.ownsRow w.heap.size 41 2 lv ls.length (flat ls) ∧ wx.ownsRow w.heap.size 43 2 gv gs.length (flat gs) ∧ wx.ownsRow w.heap.size 3 1 ov os.length (ivs os) ∧
    (∀ q, lv.ownBlock = some q → gv.ownBlock ≠ some q) ∧ (∀ q, lv.ownBlock = some q → ov.ownBlock ≠ some q) ∧ (∀ q, gv.ownBlock = some q → ov.ownBlock ≠ some q) ∧
    (∀ q, lv.ownBlock = some q → q ≠ b) ∧ (∀ q, gv.ownBlock = some q → q ≠ b) ∧ (∀ q, ov.ownBlock = some q → q ≠ b) ∧ Below w.heap.size w wx

section
variable {w V w1 : World} {N : Nat} {ls gs : List (Int × Int)} {os : List Int} {lv gv ov : Value}
/-- The box was made behind the circuit. -/
theorem made_after (hb : Below w.heap.size w V) (oL : w1.ownsRow V.heap.size 41 2 lv ls.length (flat ls)) (oG : w1.ownsRow V.heap.size 43 2 gv gs.length (flat gs)) (oO : w1.ownsRow V.heap.size 3 1 ov os.length (ivs os))
    (d1 : ∀ q, lv.ownBlock = some q → gv.ownBlock ≠ some q) (d2 : ∀ q, lv.ownBlock = some q → ov.ownBlock ≠ some q) (d3 : ∀ q, gv.ownBlock = some q → ov.ownBlock ≠ some q) (b1 : Below V.heap.size V w1) :
    MadeC w (w1.alloc (.cells #[.int .i64 N, lv, gv, ov] 26)) (.pointer (some ⟨w1.heap.size, 0, none⟩)) N ls gs os := by
  have h1 := hb.size
  have h2 := b1.size
  exact ⟨w1.heap.size, lv, gv, ov, rfl, by omega, heap_alloc_new _ _, (oL.alloc _).lower h1, (oG.alloc _).lower h1, (oO.alloc _).lower h1, d1, d2, d3,
    fun q hq => by have := (oL.lt q hq).2; omega, fun q hq => by have := (oG.lt q hq).2; omega, fun q hq => by have := (oO.lt q hq).2; omega, (hb.trans (b1.mono h1)).alloc (by omega) _⟩
/-- The box was made ahead of it. -/
theorem made_ahead {u0 u1 u2 u3 : Value} {b : Nat} (hb0 : w.heap.size ≤ b) (hbU : b < V.heap.size) (hV : Below w.heap.size w V) (hbox : V.heap[b]? = some (.cells #[u0, u1, u2, u3] 26 (0, 0)))
    (oL : w1.ownsRow V.heap.size 41 2 lv ls.length (flat ls)) (oG : w1.ownsRow V.heap.size 43 2 gv gs.length (flat gs)) (oO : w1.ownsRow V.heap.size 3 1 ov os.length (ivs os))
    (d1 : ∀ q, lv.ownBlock = some q → gv.ownBlock ≠ some q) (d2 : ∀ q, lv.ownBlock = some q → ov.ownBlock ≠ some q) (d3 : ∀ q, gv.ownBlock = some q → ov.ownBlock ≠ some q) (b1 : Below V.heap.size V w1) :
    MadeC w (box4 w1 b (.int .i64 N) lv gv ov) (.pointer (some ⟨b, 0, none⟩)) N ls gs os := by
  have h1 := hV.size
  have h2 := b1.size
  exact ⟨b, lv, gv, ov, rfl, hb0, box4_blk ((b1.block b hbU).trans hbox) _ _ _ _, box4_own oL hbU h1 _ _ _ _, box4_own oG hbU h1 _ _ _ _, box4_own oO hbU h1 _ _ _ _, d1, d2, d3,
    fun q hq => by have := (oL.lt q hq).1; omega, fun q hq => by have := (oG.lt q hq).1; omega, fun q hq => by have := (oO.lt q hq).1; omega, box4_below (hV.trans (b1.mono h1)) hb0 _ _ _ _⟩
theorem MadeC.drew {wx : World} {p : Value} (h : MadeC w wx p N ls gs os) : MadeC w wx.drew p N ls gs os := by
  obtain ⟨b, lv, gv, ov, e, hb, bx, oL, oG, oO, d1, d2, d3, x1, x2, x3, bel⟩ := h
  exact ⟨b, lv, gv, ov, e, hb, bx, oL, oG, oO, d1, d2, d3, x1, x2, x3, bel.drew⟩
/-- What is to be read of it. -/
theorem MadeC.read {wx : World} {p : Value} (h : MadeC w wx p N ls gs os) : ∃ b la lc ga gc oa oc, p = .pointer (some ⟨b, 0, none⟩) ∧ b < wx.heap.size ∧ wx.heap[b]? = some (.cells #[.int .i64 N, .slice la ls.length lc, .slice ga gs.length gc, .slice oa os.length oc] 26 (0, 0)) ∧
    PairsAt wx la ls ∧ PairsAt wx ga gs ∧ IntsAt wx oa os ∧ Below w.heap.size w wx := by
  obtain ⟨b, lv, gv, ov, rfl, hb, bx, oL, oG, oO, d1, d2, d3, x1, x2, x3, bel⟩ := h
  obtain ⟨la, lc, rfl, _, hL⟩ := own_pairs oL
  obtain ⟨ga, gc, rfl, _, hG⟩ := own_pairs oG
  obtain ⟨oa, oc, rfl, _, hO⟩ := own_intlist oO
  exact ⟨b, la, lc, ga, gc, oa, oc, rfl, (Array.getElem?_eq_some_iff.1 bx).1, bx, hL, hG, hO, bel⟩
end

end Go.Proofs.Ytgpaajdfkekjiab
