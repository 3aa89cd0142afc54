/-
  Plain things for used of package slim: a list of bools that are marked one by one.
-/
import Derived.Test.YtgpaajdfkekjiaaGreatDoorSlmM
namespace Go.Proofs.YtgpaajdfkekjiaaGreatDoor
open Go.RowKit

def bvs (f : Nat → Bool) (m : Nat) : List Value := (List.range m).map fun v => .bool (f v)
theorem bvs_len (f : Nat → Bool) (m : Nat) : (bvs f m).length = m := by simp [bvs]
theorem bvs_get {f : Nat → Bool} {m i : Nat} (h : i < m) : (bvs f m)[i]? = some (.bool (f i)) := by simp [bvs, h]
theorem bvs_set (f : Nat → Bool) (m i : Nat) : (bvs f m).set i (.bool true) = bvs (fun v => f v || decide (i = v)) m := by
  apply List.ext_getElem
  · simp [bvs]
  · intro j h1 h2
    have hj : j < m := by simpa [bvs] using h2
    rw [List.getElem_set]
    by_cases e : i = j
    · simp [e, bvs]
    · simp [e, bvs]
theorem bvs_congr {f g : Nat → Bool} {m : Nat} (h : ∀ v, f v = g v) : bvs f m = bvs g m := by
  have : f = g := funext h
  rw [this]
theorem bvs_false (m : Nat) : List.replicate m (Value.bool false) = bvs (fun _ => false) m := by
  apply List.ext_getElem
  · simp [bvs]
  · intro j h1 h2
    simp [bvs]
/-- The variables of some signals. -/
def markS (l : List Nat) (v : Nat) : Bool := decide (∃ s ∈ l, s / 2 = v)
theorem markS_nil (v : Nat) : markS [] v = false := by simp [markS]
theorem markS_snoc (l : List Nat) (s v : Nat) : markS (l ++ [s]) v = (markS l v || decide (s / 2 = v)) := by
  unfold markS
  rw [← Bool.decide_or]
  apply decide_eq_decide.2
  constructor
  · rintro ⟨t, ht, e⟩
    rcases List.mem_append.1 ht with h | h
    · exact .inl ⟨t, h, e⟩
    · simp at h; subst h; exact .inr e
  · rintro (⟨t, ht, e⟩ | e)
    · exact ⟨t, List.mem_append.2 (.inl ht), e⟩
    · exact ⟨s, by simp, e⟩
theorem markS_comm (a b : List Nat) (v : Nat) : markS (a ++ b) v = markS (b ++ a) v := by
  unfold markS
  apply decide_eq_decide.2
  constructor <;> (rintro ⟨t, ht, e⟩; exact ⟨t, by simp at ht ⊢; rcases ht with h | h <;> simp [h], e⟩)
theorem need_zero (first : Nat) (roots : List Nat) (kept : List (Nat × Nat)) (v : Nat) : need first roots kept 0 v = markS roots v := rfl

end Go.Proofs.YtgpaajdfkekjiaaGreatDoor
