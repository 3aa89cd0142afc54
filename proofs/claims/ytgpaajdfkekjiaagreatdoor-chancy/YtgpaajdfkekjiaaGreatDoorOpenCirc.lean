/-
  A circuit and a list of ints that are handed in, opened: what their readings say of the cells.
-/
import Derived.Test.YtgpaajdfkekjiaaGreatDoorOutcome
import Derived.ProofKit
import Derived.OpenShut
import Derived.Deep.Slices
import Derived.Lib.SmallJoins
import Derived.Lib.LaidTab
namespace Go.Proofs.YtgpaajdfkekjiaaGreatDoor
open Go.RowKit Go.ChangeShapes Go.WideShapes Go.ChangeAt

theorem addr_add (b off i : Nat) : (⟨b, off, none⟩ : Addr).add i = ⟨b, off + i, none⟩ := by unfold Addr.add; split <;> simp_all

theorem fits_of {x : Int} (h : (Lit.int .i64 x).wf = true) : Fits x := bounds_i64 h

/-- A list of pairs, opened. -/
theorem open_pairs {H : Type} {enc : TypeId × Value → H} {W : World} {T E m : Nat} {f0 f1 : Field} {v : Value} {y : DataW H × List MemPlace} (hT : Tryz.prog.underlying T = some (.slice E)) (hE : Tryz.prog.underlying E = some (.struct #[f0, f1]))
    (h0 : f0.type = 3 ∧ f0.offset = 0) (h1 : f1.type = 3 ∧ f1.offset = 1) (c2 : Tryz.prog.cellsOf E = 2) (c1 : Tryz.prog.cellsOf 3 = 1)
    (h : DataW.trod enc Tryz.prog W 0 (fun _ => true) true m T [v] = some y) :
    ∃ a ps cap, v = .slice a (List.length ps) cap ∧ PairsAt W a ps ∧ (∀ i, i < ps.length → Fits (ps.getD i (0, 0)).1 ∧ Fits (ps.getD i (0, 0)).2) ∧
      ((y.1 = .nil ∧ ps = []) ∨ ∃ elems spare, y.1 = .slice elems spare ∧ elems.length = ps.length) := by
  rcases Deep.open_slice hT h with ⟨hcs, rfl⟩ | ⟨a, len, cap, mm, n, D, Pl, hcs, _, hl, hm, hmm, rfl, hel⟩
  · simp only [List.cons.injEq, and_true] at hcs
    exact ⟨none, [], 0, hcs, .inl rfl, fun i hi => absurd hi (Nat.not_lt_zero i), .inl ⟨rfl, rfl⟩⟩
  · simp only [List.cons.injEq, and_true] at hcs
    simp only [if_true] at hmm
    subst hmm
    have hcell : ∀ i, i < len → ∃ x : Int × Int, (W.cell? (a.add (i * 2)) = some (.int .i64 x.1) ∧ W.cell? ((a.add (i * 2)).add 1) = some (.int .i64 x.2)) ∧ Fits x.1 ∧ Fits x.2 := by
      intro i hi
      obtain ⟨cs', hc, ht⟩ := hel i (by omega)
      rw [c2] at hc
      obtain ⟨_, hl2, hcc⟩ := World.cells?_some hc
      obtain ⟨y0, y1, n', _, _, t0, t1⟩ := trod_struct2 hE ht
      rw [h0.1, h0.2, c1] at t0
      rw [h1.1, h1.2, c1] at t1
      match cs', hl2 with
      | [u0, u1], _ =>
        obtain ⟨x0, e0, _, w0⟩ := DataW.trod_int Tryz.underlying3 t0
        obtain ⟨x1, e1, _, w1⟩ := DataW.trod_int Tryz.underlying3 t1
        simp only [List.drop_zero, List.take_succ_cons, List.take_zero, List.cons.injEq, and_true, List.drop_succ_cons] at e0 e1
        subst e0 e1
        have k0 := hcc 0 (by omega)
        have k1 := hcc 1 (by omega)
        refine ⟨(x0, x1), ⟨?_, ?_⟩, fits_of w0, fits_of w1⟩
        · simpa [Addr.add] using k0
        · simpa using k1
    obtain ⟨f, hf⟩ := Deep.choose_lt hcell
    have hlen : ((List.range len).map f).length = len := by simp
    have hget : ∀ i, i < len → ((List.range len).map f).getD i (0, 0) = f i := fun i hi => by simp [hi]
    refine ⟨some a, (List.range len).map f, _, by rw [hlen]; exact hcs, ?_, ?_, .inr ⟨_, _, rfl, by simp⟩⟩
    · by_cases h00 : len = 0
      · left; subst h00; rfl
      · obtain ⟨b, off, spot⟩ := a
        have hc0 := (hf 0 (by omega)).1.1
        have hspot : spot = none := by simpa [Addr.add] using World.cell?_spot hc0
        subst hspot
        refine .inr ⟨b, off, rfl, by have := block_lt_of_cell hc0; simpa [Addr.add] using this, fun i hi => ?_⟩
        rw [hlen] at hi
        have := (hf i hi).1
        rw [addr_add, addr_add] at this
        rw [hget i hi]
        exact this
    · intro i hi
      rw [hlen] at hi
      rw [hget i hi]
      exact (hf i hi).2

/-- A list of ints, opened. -/
theorem open_intlist {H : Type} {enc : TypeId × Value → H} {W : World} {m : Nat} {v : Value} {y : DataW H × List MemPlace} (c1 : Tryz.prog.cellsOf 3 = 1)
    (h : DataW.trod enc Tryz.prog W 0 (fun _ => true) true m 32 [v] = some y) :
    ∃ a xs cap, v = .slice a (List.length xs) cap ∧ IntsAt W a xs ∧ (∀ i, i < xs.length → Fits (xs.getD i 0)) ∧
      ((y.1 = .nil ∧ xs = []) ∨ ∃ elems spare, y.1 = .slice elems spare ∧ elems.length = xs.length) := by
  rcases Deep.open_slice Tryz.underlying32 h with ⟨hcs, rfl⟩ | ⟨a, len, cap, mm, n, D, Pl, hcs, _, hl, hm, hmm, rfl, hel⟩
  · simp only [List.cons.injEq, and_true] at hcs
    exact ⟨none, [], 0, hcs, .inl rfl, fun i hi => absurd hi (Nat.not_lt_zero i), .inl ⟨rfl, rfl⟩⟩
  · simp only [List.cons.injEq, and_true] at hcs
    simp only [if_true] at hmm
    subst hmm
    have hcell : ∀ i, i < len → ∃ x : Int, W.cell? (a.add i) = some (.int .i64 x) ∧ Fits x := by
      intro i hi
      obtain ⟨cs', hc, ht⟩ := hel i (by omega)
      rw [c1, Nat.mul_one] at hc
      obtain ⟨_, hl2, hcc⟩ := World.cells?_some hc
      match cs', hl2 with
      | [u0], _ =>
        obtain ⟨x0, e0, _, w0⟩ := DataW.trod_int Tryz.underlying3 ht
        simp only [List.cons.injEq, and_true] at e0
        subst e0
        have k0 := hcc 0 (by omega)
        exact ⟨x0, by simpa [Addr.add] using k0, fits_of w0⟩
    obtain ⟨f, hf⟩ := Deep.choose_lt hcell
    have hlen : ((List.range len).map f).length = len := by simp
    have hget : ∀ i, i < len → ((List.range len).map f).getD i 0 = f i := fun i hi => by simp [hi]
    refine ⟨some a, (List.range len).map f, _, by rw [hlen]; exact hcs, ?_, ?_, .inr ⟨_, _, rfl, by simp⟩⟩
    · by_cases h00 : len = 0
      · left; subst h00; rfl
      · obtain ⟨b, off, spot⟩ := a
        have hc0 := (hf 0 (by omega)).1
        have hspot : spot = none := by simpa [Addr.add] using World.cell?_spot hc0
        subst hspot
        refine .inr ⟨b, off, rfl, by have := block_lt_of_cell hc0; simpa [Addr.add] using this, fun i hi => ?_⟩
        rw [hlen] at hi
        have := (hf i hi).1
        rw [addr_add] at this
        rw [hget i hi]
        exact this
    · intro i hi
      rw [hlen] at hi
      rw [hget i hi]
      exact (hf i hi).2

end Go.Proofs.YtgpaajdfkekjiaaGreatDoor
