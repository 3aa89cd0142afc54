/-
  Boxes: structs that stand in a block of their own, and results that are read out of one.
-/
import Derived.Test.YtgpaajdfkekjiabBase
import Derived.ScopeJumps
namespace Go.Proofs.Ytgpaajdfkekjiab
open Go.RowKit

def flat (ps : List (Int × Int)) : List Value := ps.flatMap fun p => [.int .i64 p.1, .int .i64 p.2]
theorem flat_len (ps : List (Int × Int)) : (flat ps).length = ps.length * 2 := by
  induction ps with
  | nil => rfl
  | cons p ps ih => simp [flat] at ih ⊢; omega
theorem flat_snoc (ps : List (Int × Int)) (a b : Int) : flat (ps ++ [(a, b)]) = flat ps ++ [.int .i64 a, .int .i64 b] := by simp [flat]
def ivs (xs : List Int) : List Value := xs.map fun x => .int .i64 x
theorem ivs_snoc (xs : List Int) (a : Int) : ivs (xs ++ [a]) = ivs xs ++ [.int .i64 a] := by simp [ivs]

theorem own_blocks {w w' : World} {base e size : Nat} {v : Value} {n : Nat} {xs : List Value} (h : w.ownsRow base e size v n xs) (hb : ∀ q, v.ownBlock = some q → w'.heap[q]? = w.heap[q]?) : w'.ownsRow base e size v n xs := by
  refine ⟨h.1, ?_⟩
  rcases h.2 with h' | ⟨g, cap, cur, hv, hbg, hr, hrest⟩
  · exact .inl h'
  · exact .inr ⟨g, cap, cur, hv, hbg, by rw [hb g (by rw [hv]; rfl)]; exact hr, hrest⟩

theorem blk_set {w : World} {B : Nat} {cs : Array Value} {t : TypeId} {fr : Nat × Nat} (h : w.heap[B]? = some (.cells cs t fr)) (i : Nat) (v : Value) : (w.setCell ⟨B, i, none⟩ v).heap[B]? = some (.cells (cs.setIfInBounds i v) t fr) := by
  simp [World.setCell, Array.getElem?_modify, h]

theorem jump_ret (l : Nat) (J : Act → World → Prop) (Q : Exit → Act → World → Prop) (a : Act) (w : World) : Exit.jump l J Q .ret a w = Q .ret a w := rfl
theorem jump_goto (l : Nat) (J : Act → World → Prop) (Q : Exit → Act → World → Prop) (a : Act) (w : World) (h : J a w) : Exit.jump l J Q (.goto l) a w := ⟨rfl, h⟩

theorem own_slice {w : World} {base e size : Nat} {v : Value} {n : Nat} {xs : List Value} (h : w.ownsRow base e size v n xs) : ∃ a l c, v = .slice a l c := by
  rcases h.2 with ⟨h', _⟩ | ⟨g, cap, cur, hv, _⟩
  · exact ⟨_, _, _, h'⟩
  · exact ⟨_, _, _, hv⟩
def box4 (w : World) (b : Nat) (v0 v1 v2 v3 : Value) : World := (((w.setCell ⟨b, 0, none⟩ v0).setCell ⟨b, 1, none⟩ v1).setCell ⟨b, 2, none⟩ v2).setCell ⟨b, 3, none⟩ v3
theorem box4_blk {w : World} {b : Nat} {u0 u1 u2 u3 : Value} (h : w.heap[b]? = some (.cells #[u0, u1, u2, u3] 26 (0, 0))) (v0 v1 v2 v3 : Value) : (box4 w b v0 v1 v2 v3).heap[b]? = some (.cells #[v0, v1, v2, v3] 26 (0, 0)) := by
  unfold box4
  exact blk_set (blk_set (blk_set (blk_set h 0 v0) 1 v1) 2 v2) 3 v3
theorem box4_own {w : World} {base base' e size b : Nat} {v : Value} {n : Nat} {xs : List Value} (h : w.ownsRow base e size v n xs) (hb : b < base) (hl : base' ≤ base) (v0 v1 v2 v3 : Value) : (box4 w b v0 v1 v2 v3).ownsRow base' e size v n xs := by
  refine (own_blocks h (fun q hq => ?_)).lower hl
  have hne : q ≠ b := by have := (h.lt q hq).1; omega
  unfold box4
  rw [Deep.blk_setCell_other _ _ _ _ hne, Deep.blk_setCell_other _ _ _ _ hne, Deep.blk_setCell_other _ _ _ _ hne, Deep.blk_setCell_other _ _ _ _ hne]
theorem box4_below {w w' : World} {b : Nat} (h : Below w.heap.size w w') (hb : w.heap.size ≤ b) (v0 v1 v2 v3 : Value) : Below w.heap.size w (box4 w' b v0 v1 v2 v3) := by
  unfold box4
  exact (((h.setCell hb v0).setCell hb v1).setCell hb v2).setCell hb v3

section
variable {wr wr' : World}
/-- Behind an append to one of the three lists: all other blocks are as they were. -/
structure Grew (wr wr' : World) (v : Value) (g' : Nat) : Prop where
  grow : wr.grownBy wr' v.ownBlock
  hat : v.ownBlock = some g' ∨ g' = wr.heap.size
theorem Grew.blk {v : Value} {g' : Nat} (G : Grew wr wr' v g') (k : Nat) (hk : k < wr.heap.size) (hv : v.ownBlock ≠ some k) : wr'.heap[k]? = wr.heap[k]? := G.grow.block k hk (fun e => hv e.symm)

theorem own_far {base e size : Nat} {v u : Value} {n g' : Nat} {xs : List Value} (h : wr.ownsRow base e size v n xs) (G : Grew wr wr' u g') (hd : ∀ q, v.ownBlock = some q → u.ownBlock ≠ some q) : wr'.ownsRow base e size v n xs :=
  own_blocks h (fun q hq => G.blk q (h.lt q hq).2 (hd q hq))
/-- The list that grew lies apart from another. -/
theorem apart {base e size : Nat} {v u : Value} {n g' : Nat} {xs : List Value} (h : wr.ownsRow base e size v n xs) (G : Grew wr wr' u g') (hd : ∀ q, v.ownBlock = some q → u.ownBlock ≠ some q) : v.ownBlock ≠ some g' := fun e => by
  rcases G.hat with e' | e'
  · exact hd g' e e'
  · have := (h.lt g' e).2; omega

end

end Go.Proofs.Ytgpaajdfkekjiab
