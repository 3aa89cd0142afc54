/-
  Small facts on lists of ints in memory.
-/
import Derived.Test.YtgpaajdfkekjiabRight2
import Derived.Deep.AppendLies
import Derived.Deep.RegionHeld3
import Derived.Deep.DrawnRows
import Derived.Laws.MakeOwn
import Derived.Deep.OwnRows
namespace Go.Proofs.Ytgpaajdfkekjiab
open Go.RowKit

def ivals (vs : List Nat) : List Value := vs.map fun x => .int .i64 ((x : Nat) : Int)
theorem ivals_len (vs : List Nat) : (ivals vs).length = vs.length := by simp [ivals]
theorem ivals_snoc (vs : List Nat) (x : Nat) : ivals (vs ++ [x]) = ivals vs ++ [.int .i64 ((x : Nat) : Int)] := by simp [ivals]

theorem own_cells {w : World} {base g len cap : Nat} {vs : List Nat} (h : w.ownsRow base 3 1 (.slice (some ⟨g, 0, none⟩) len cap) len (ivals vs)) :
    ∀ j, j < len → w.cell? ⟨g, 0 + j, none⟩ = some (.int .i64 ((vs.getD j 0 : Nat) : Int)) := by
  intro j hj
  have hl : vs.length = len := by have := h.1; rw [ivals_len] at this; omega
  rw [Nat.zero_add, h.cellAt j (by omega)]
  have : j < vs.length := by omega
  simp [ivals, this]

theorem _root_.Go.World.ownsRow.lower {w : World} {base base' e size : Nat} {v : Value} {n : Nat} {xs : List Value} (h : w.ownsRow base e size v n xs) (hb : base' ≤ base) : w.ownsRow base' e size v n xs := by
  refine ⟨h.1, ?_⟩
  rcases h.2 with h' | ⟨g, cap, cur, hv, hbg, hr⟩
  · exact .inl h'
  · exact .inr ⟨g, cap, cur, hv, Nat.le_trans hb hbg, hr⟩

theorem Try.infoInt : (Try.prog.info? 3).map (fun i => (i.zero, i.size, i.bytes)) = some (some (.int .i64 0), 1, 8) := by kernel_rfl

theorem made_toArray (z : Value) (n : Nat) : madeCells #[z] n = (List.replicate n z).toArray := by
  apply Array.toList_inj.1; rw [toList_madeCells_one]

/-- What is owned stays owned where no old block turns. -/
theorem own_below {w w' : World} {base e size g len cap : Nat} {xs : List Value} (h : w.ownsRow base e size (.slice (some ⟨g, 0, none⟩) len cap) len xs) (hb : Below w.heap.size w w') :
    w'.ownsRow base e size (.slice (some ⟨g, 0, none⟩) len cap) len xs := by
  have hg := (h.lt g rfl).2
  refine ⟨h.1, ?_⟩
  rcases h.2 with ⟨h', _⟩ | ⟨g', cap', cur, h', hbg, hr, hrest⟩
  · simp at h'
  · simp only [Value.slice.injEq, Option.some.injEq, Addr.mk.injEq, and_true, true_and] at h'
    obtain ⟨rfl, rfl⟩ := h'
    exact .inr ⟨g, cap, cur, rfl, hbg, by rw [hb.block g hg]; exact hr, hrest⟩

theorem IntsAt.get {w : World} {a : Option Addr} {xs : List Int} (h : IntsAt w a xs) (hx : 0 < xs.length) :
    ∃ b off, a = some ⟨b, off, none⟩ ∧ b < w.heap.size ∧ ∀ i, i < xs.length → w.cell? ⟨b, off + i, none⟩ = some (.int .i64 (xs.getD i 0)) := by
  rcases h with rfl | h
  · simp at hx
  · exact h
theorem PairsAt.get {w : World} {a : Option Addr} {ps : List (Int × Int)} (h : PairsAt w a ps) (hx : 0 < ps.length) :
    ∃ b off, a = some ⟨b, off, none⟩ ∧ b < w.heap.size ∧ ∀ i, i < ps.length →
    w.cell? ⟨b, off + i * 2, none⟩ = some (.int .i64 (ps.getD i (0, 0)).1) ∧ w.cell? ⟨b, off + i * 2 + 1, none⟩ = some (.int .i64 (ps.getD i (0, 0)).2) := by
  rcases h with rfl | h
  · simp at hx
  · exact h

end Go.Proofs.Ytgpaajdfkekjiab
