/-
  The book's one at any kind of call: what its kinds share. Written by wip/mk_one.py.
-/
import Derived.Test.YtgpaajdfkekjiaaGreatDoorBkCirc
namespace Go.Proofs.YtgpaajdfkekjiaaGreatDoor
open Go.RowKit

/-- What one leaves behind: the book goes on, nothing else that was there is written. -/
def OneRes (R : Nat → Nat) (w : World) (P N : Nat) (w' : World) : Prop :=
  ∃ R' v' es', Book2 R' w' P v' es' (N + 1) ∧ Keeps (fun k => R k < 6) w w' ∧ ∀ k, R' k < 6 → R k < 6 ∨ w.heap.size ≤ k

theorem own_intsA {w : World} {base n cap : Nat} {a : Option Addr} {u : List Nat} (h : w.ownsRow base 3 1 (.slice a n cap) n (ivals u)) (hn : n = u.length) : IntsAt w a (ints u) := by
  rcases h.2 with ⟨h1, h2⟩ | ⟨g, cp, cur, hv, _⟩
  · have : u = [] := List.eq_nil_of_length_eq_zero (by omega)
    subst this
    exact .inl rfl
  · simp only [Value.slice.injEq, true_and] at hv
    obtain ⟨rfl, rfl⟩ := hv
    exact own_ints h
theorem keeps_news {R : Nat → Nat} {A : Nat → Prop} {w w6 w7 : World} (hb : Below w.heap.size w w6) (K : Keeps (fun k => R k < 6 ∨ A k) w6 w7) (hA : ∀ k, A k → w.heap.size ≤ k) : Keeps (fun k => R k < 6) w w7 :=
  ⟨K.os.trans hb.os, K.tape.trans hb.tape, K.output.trans hb.output, Nat.le_trans hb.size K.size, fun k hk ho => (K.block k (by have := hb.size; omega) (fun h => by
    rcases h with h | h
    · exact ho h
    · have := hA k h; omega)).trans (hb.block k hk)⟩
theorem keeps_span {S : Nat → Prop} {w a b : World} {lo hi : Nat} (h1 : Keeps S w a) (h2 : Keeps (fun k => lo ≤ k ∧ k < hi) a b) (h3 : w.heap.size ≤ lo) : Keeps S w b :=
  ⟨h2.os.trans h1.os, h2.tape.trans h1.tape, h2.output.trans h1.output, Nat.le_trans h1.size h2.size, fun k hk ho => (h2.block k (by have := h1.size; omega) (by omega)).trans (h1.block k hk ho)⟩
theorem PairsAt.allocK {w : World} {a : Option Addr} {xs : List (Int × Int)} (h : PairsAt w a xs) (o : Obj) : PairsAt (w.alloc o) a xs := h.below ((Below.refl _ _).alloc (Nat.le_refl _) _)
theorem Book2.span {R : Nat → Nat} {w w' : World} {P N lo hi : Nat} {v : Nat → Value} {es : Nat → List Entry} (h : Book2 R w P v es N) (K : Keeps (fun k => lo ≤ k ∧ k < hi) w w') (hR : ∀ k, R k < 6 → ¬ (lo ≤ k ∧ k < hi)) : Book2 R w' P v es N := h.keeps K.size (fun k hk h6 => K.block k hk (hR k h6))

end Go.Proofs.YtgpaajdfkekjiaaGreatDoor
