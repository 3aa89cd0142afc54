/-
  The empty book.
-/
import Derived.Test.YtgpaajdfkekjiaaGreatDoorBkOne
namespace Go.Proofs.YtgpaajdfkekjiaaGreatDoor
open Go.RowKit

/-- An empty book. -/
def emptyR (P k : Nat) : Nat := if k = P then 0 else 6
theorem emptyR_lt {P k : Nat} (h : emptyR P k < 6) : k = P := by unfold emptyR at h; split at h; assumption; omega
theorem book_start {w : World} {P : Nat} (hlt : P < w.heap.size) (hc : ∀ c, c < 4 → w.cell? ⟨P, c, none⟩ = some (.slice none 0 0)) (hf : ∀ i, w.frozen? ⟨P, i, none⟩ = false) : Book2 (emptyR P) w P (fun _ => .slice none 0 0) (fun _ => []) 0 :=
  ⟨if_pos rfl, hlt, fun k hk => by rw [emptyR_lt hk]; exact hlt, hf, fun c hc4 => ⟨hc c hc4, World.ownsRow_nil _ _ _ _, fun q hq => by simp [Value.ownBlock] at hq, fun k hk => absurd hk (Nat.not_lt_zero k)⟩, fun c _ => ⟨0, rfl, Nat.le_refl _⟩⟩
theorem some_block {b c o : Nat} (h : (some ⟨b, 0, none⟩ : Option Addr) = some ⟨c, o, none⟩) : b = c := by simp only [Option.some.injEq, Addr.mk.injEq, and_true] at h; exact h.1

end Go.Proofs.YtgpaajdfkekjiaaGreatDoor
