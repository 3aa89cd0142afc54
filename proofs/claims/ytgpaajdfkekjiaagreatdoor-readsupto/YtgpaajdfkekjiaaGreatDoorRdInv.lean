/-
  What text.Read has in memory while it reads: the answer's box, its circuit, the head's numbers, the lists that grow.
-/
import Derived.Test.YtgpaajdfkekjiaaGreatDoorRdGate
import Derived.Test.YtgpaajdfkekjiaaGreatDoorBox
import Derived.Test.YtgpaajdfkekjiaaGreatDoorBookNew
namespace Go.Proofs.YtgpaajdfkekjiaaGreatDoor
open Go.RowKit

/-- A: the answer's box, A + 1: the circuit, A + 2: the reader, hb: the head's numbers. -/
structure CInv (w wr : World) (A hb : Nat) (h : Hd) (lv gv ov : Value) (ls gs : List (Int × Int)) (os : List Int) : Prop where
  a : A = w.heap.size
  hb2 : A + 2 < hb
  hbl : hb < wr.heap.size
  bel : Below w.heap.size w wr
  boxA : wr.heap[A]? = some (.cells #[.int .i64 0, .slice none 0 0, .slice none 0 0, .slice none 0 0] 34 (0, 0))
  boxC : wr.heap[A + 1]? = some (.cells #[.int .i64 h.n, lv, gv, ov] 34 (0, 0))
  boxH : wr.heap[hb]? = some (.cells #[.int .i64 ((h.n : Int) + h.l + h.g), .int .i64 h.n, .int .i64 h.l, .int .i64 h.o, .int .i64 h.g] 91 (0, 0))
  ownL : wr.ownsRow (hb + 1) 54 2 lv ls.length (flat ls)
  ownG : wr.ownsRow (hb + 1) 56 2 gv gs.length (flat gs)
  ownO : wr.ownsRow (hb + 1) 3 1 ov os.length (ivs os)
  lg : ∀ q, lv.ownBlock = some q → gv.ownBlock ≠ some q
  lo : ∀ q, lv.ownBlock = some q → ov.ownBlock ≠ some q
  go' : ∀ q, gv.ownBlock = some q → ov.ownBlock ≠ some q

section
variable {w wr wr' : World} {A hb : Nat} {h : Hd} {lv gv ov : Value} {ls gs : List (Int × Int)} {os : List Int}
theorem CInv.span (I : CInv w wr A hb h lv gv ov ls gs os) (sp : Span (A + 2) (A + 3) wr wr') : CInv w wr' A hb h lv gv ov ls gs os := by
  have h1 := I.hb2
  have h2 := I.hbl
  have h3 := I.a
  refine ⟨I.a, I.hb2, Nat.lt_of_lt_of_le I.hbl sp.size, I.bel.trans (sp.below (by omega) (by omega)), ?_, ?_, ?_, own_blocks I.ownL (fun q hq => ?_), own_blocks I.ownG (fun q hq => ?_), own_blocks I.ownO (fun q hq => ?_), I.lg, I.lo, I.go'⟩
  · rw [sp.block A (by omega) (by omega)]; exact I.boxA
  · rw [sp.block (A + 1) (by omega) (by omega)]; exact I.boxC
  · rw [sp.block hb (by omega) (by omega)]; exact I.boxH
  · have := I.ownL.lt q hq; exact sp.block q this.2 (by omega)
  · have := I.ownG.lt q hq; exact sp.block q this.2 (by omega)
  · have := I.ownO.lt q hq; exact sp.block q this.2 (by omega)
theorem CInv.drewN (I : CInv w wr A hb h lv gv ov ls gs os) (n : Nat) : CInv w (wr.drewN n) A hb h lv gv ov ls gs os :=
  ⟨I.a, I.hb2, I.hbl, below_drewN I.bel n, I.boxA, I.boxC, I.boxH, I.ownL, I.ownG, I.ownO, I.lg, I.lo, I.go'⟩
theorem CInv.alloc (I : CInv w wr A hb h lv gv ov ls gs os) (o : Obj) : CInv w (wr.alloc o) A hb h lv gv ov ls gs os :=
  I.span (Span.of_below ((Below.refl _ _).alloc (Nat.le_refl _) o))

theorem set_box (I : CInv w wr A hb h lv gv ov ls gs os) {v : Value} {g' : Nat} (G : Grew wr wr' v g') (hv : ∀ q, v.ownBlock = some q → hb + 1 ≤ q) (i : Nat) (x : Value) :
    A = w.heap.size ∧ A + 2 < hb ∧ hb < (wr'.setCell ⟨A + 1, i, none⟩ x).heap.size ∧ Below w.heap.size w (wr'.setCell ⟨A + 1, i, none⟩ x) ∧
    (wr'.setCell ⟨A + 1, i, none⟩ x).heap[A]? = some (.cells #[.int .i64 0, .slice none 0 0, .slice none 0 0, .slice none 0 0] 34 (0, 0)) ∧
    (wr'.setCell ⟨A + 1, i, none⟩ x).heap[A + 1]? = some (.cells ((#[.int .i64 h.n, lv, gv, ov] : Array Value).setIfInBounds i x) 34 (0, 0)) ∧
    (wr'.setCell ⟨A + 1, i, none⟩ x).heap[hb]? = some (.cells #[.int .i64 ((h.n : Int) + h.l + h.g), .int .i64 h.n, .int .i64 h.l, .int .i64 h.o, .int .i64 h.g] 91 (0, 0)) := by
  have h1 := I.hb2
  have h2 := I.hbl
  have h3 := I.a
  have far : ∀ k, k ≤ hb → wr'.heap[k]? = wr.heap[k]? := fun k hk => G.blk k (by omega) (fun e => by have := hv k e; omega)
  have hs : (wr'.setCell ⟨A + 1, i, none⟩ x).heap.size = wr'.heap.size := Deep.nblk_setCell _ _ _
  have hg := G.grow.size
  refine ⟨I.a, I.hb2, by omega, ?_, ?_, ?_, ?_⟩
  · have b1 : Below w.heap.size w wr' := I.bel.trans ⟨G.grow.os, G.grow.tape, G.grow.output, G.grow.size, fun k hk => far k (by omega)⟩
    exact b1.setCell (show w.heap.size ≤ A + 1 by omega) _
  · rw [Deep.blk_setCell_other _ _ _ _ (show A ≠ A + 1 by omega), far A (by omega)]; exact I.boxA
  · exact blk_set ((far (A + 1) (by omega)).trans I.boxC) _ _
  · rw [Deep.blk_setCell_other _ _ _ _ (show hb ≠ A + 1 by omega), far hb (by omega)]; exact I.boxH
theorem own_set {base e size : Nat} {v : Value} {n : Nat} {xs : List Value} (hA : A + 1 < base) (h : wr'.ownsRow base e size v n xs) (i : Nat) (x : Value) : (wr'.setCell ⟨A + 1, i, none⟩ x).ownsRow base e size v n xs :=
  own_blocks h (fun q hq => Deep.blk_setCell_other _ _ _ _ (show q ≠ A + 1 by have := h.lt q hq; omega))
theorem CInv.addL (I : CInv w wr A hb h lv gv ov ls gs os) {g' cap' : Nat} {a b : Int} (own' : wr'.ownsRow (hb + 1) 54 2 (.slice (some ⟨g', 0, none⟩) (ls.length + 1) cap') (ls.length + 1) (flat ls ++ [.int .i64 a, .int .i64 b])) (G : Grew wr wr' lv g') :
    CInv w (wr'.setCell ⟨A + 1, 1, none⟩ (.slice (some ⟨g', 0, none⟩) (ls.length + 1) cap')) A hb h (.slice (some ⟨g', 0, none⟩) (ls.length + 1) cap') gv ov (ls ++ [(a, b)]) gs os := by
  obtain ⟨x1, x2, x3, x4, x5, x6, x7⟩ := set_box I G (fun q hq => (I.ownL.lt q hq).1) 1 (.slice (some ⟨g', 0, none⟩) (ls.length + 1) cap')
  have h1 := I.hb2
  refine ⟨x1, x2, x3, x4, x5, x6, x7, ?_, own_set (by omega) (own_far I.ownG G (fun q e e' => I.lg q e' e)) _ _, own_set (by omega) (own_far I.ownO G (fun q e e' => I.lo q e' e)) _ _, ?_, ?_, I.go'⟩
  · rw [flat_snoc, List.length_append]; exact own_set (by omega) own' _ _
  · intro q hq
    simp only [Value.ownBlock, Option.some.injEq] at hq
    subst hq
    exact apart I.ownG G (fun q e e' => I.lg q e' e)
  · intro q hq
    simp only [Value.ownBlock, Option.some.injEq] at hq
    subst hq
    exact apart I.ownO G (fun q e e' => I.lo q e' e)
theorem CInv.addG (I : CInv w wr A hb h lv gv ov ls gs os) {g' cap' : Nat} {a b : Int} (own' : wr'.ownsRow (hb + 1) 56 2 (.slice (some ⟨g', 0, none⟩) (gs.length + 1) cap') (gs.length + 1) (flat gs ++ [.int .i64 a, .int .i64 b])) (G : Grew wr wr' gv g') :
    CInv w (wr'.setCell ⟨A + 1, 2, none⟩ (.slice (some ⟨g', 0, none⟩) (gs.length + 1) cap')) A hb h lv (.slice (some ⟨g', 0, none⟩) (gs.length + 1) cap') ov ls (gs ++ [(a, b)]) os := by
  obtain ⟨x1, x2, x3, x4, x5, x6, x7⟩ := set_box I G (fun q hq => (I.ownG.lt q hq).1) 2 (.slice (some ⟨g', 0, none⟩) (gs.length + 1) cap')
  have h1 := I.hb2
  refine ⟨x1, x2, x3, x4, x5, x6, x7, own_set (by omega) (own_far I.ownL G I.lg) _ _, ?_, own_set (by omega) (own_far I.ownO G (fun q e e' => I.go' q e' e)) _ _, ?_, I.lo, ?_⟩
  · rw [flat_snoc, List.length_append]; exact own_set (by omega) own' _ _
  · intro q hq e
    simp only [Value.ownBlock, Option.some.injEq] at e
    subst e
    exact apart I.ownL G I.lg hq
  · intro q hq
    simp only [Value.ownBlock, Option.some.injEq] at hq
    subst hq
    exact apart I.ownO G (fun q e e' => I.go' q e' e)
theorem CInv.addO (I : CInv w wr A hb h lv gv ov ls gs os) {g' cap' : Nat} {a : Int} (own' : wr'.ownsRow (hb + 1) 3 1 (.slice (some ⟨g', 0, none⟩) (os.length + 1) cap') (os.length + 1) (ivs os ++ [.int .i64 a])) (G : Grew wr wr' ov g') :
    CInv w (wr'.setCell ⟨A + 1, 3, none⟩ (.slice (some ⟨g', 0, none⟩) (os.length + 1) cap')) A hb h lv gv (.slice (some ⟨g', 0, none⟩) (os.length + 1) cap') ls gs (os ++ [a]) := by
  obtain ⟨x1, x2, x3, x4, x5, x6, x7⟩ := set_box I G (fun q hq => (I.ownO.lt q hq).1) 3 (.slice (some ⟨g', 0, none⟩) (os.length + 1) cap')
  have h1 := I.hb2
  refine ⟨x1, x2, x3, x4, x5, x6, x7, own_set (by omega) (own_far I.ownL G I.lo) _ _, own_set (by omega) (own_far I.ownG G I.go') _ _, ?_, I.lg, ?_, ?_⟩
  · rw [ivs_snoc, List.length_append]; exact own_set (by omega) own' _ _
  · intro q hq e
    simp only [Value.ownBlock, Option.some.injEq] at e
    subst e
    exact apart I.ownL G I.lo hq
  · intro q hq e
    simp only [Value.ownBlock, Option.some.injEq] at e
    subst e
    exact apart I.ownG G I.go' hq
end
end Go.Proofs.YtgpaajdfkekjiaaGreatDoor
