/-
  What withoutNeedless of package slim keeps while it goes through the gates.
-/
import Derived.Test.YtgpaajdfkekjiaaGreatDoorSlmM
import Derived.Test.YtgpaajdfkekjiaaGreatDoorSlmC
namespace Go.Proofs.YtgpaajdfkekjiaaGreatDoor
open Go.RowKit Go.Maps

theorem grown_of_below {w w' : World} (h : Below w.heap.size w w') : w.grownBy w' none := ⟨h.os, h.tape, h.output, h.size, fun k hk _ => h.block k hk⟩
theorem ownr_below {w w' : World} {base e size : Nat} {v : Value} {n : Nat} {xs : List Value} (h : w.ownsRow base e size v n xs) (b : Below w.heap.size w w') : w'.ownsRow base e size v n xs :=
  own_blocks h (fun q hq => b.block q (h.lt q hq).2)

theorem own_slice_len {w : World} {base e size : Nat} {v : Value} {n : Nat} {xs : List Value} (h : w.ownsRow base e size v n xs) : ∃ a c, v = .slice a n c := by
  rcases h.2 with ⟨h', h0⟩ | ⟨g, cap, cur, hv, _⟩
  · exact ⟨none, 0, by rw [h', h0]⟩
  · exact ⟨_, _, hv⟩

structure NInv (wr : World) (B M : Nat) (nv kv : Value) (nm : List Nat) (kept : List (Nat × Nat)) (D : DataW Nat) (n : Nat) : Prop where
  bs : B ≤ wr.heap.size
  ownN : wr.ownsRow B 3 1 nv nm.length (ivals nm)
  ownK : wr.ownsRow B 56 2 kv kept.length (flat (z2 kept))
  nk : ∀ q, nv.ownBlock = some q → kv.ownBlock ≠ some q
  map : wr.ownsMap Tryz.prog 56 (plainElem Tryz.prog 3) M n D
  nM : nv.ownBlock ≠ some M
  kM : kv.ownBlock ≠ some M
section
variable {wr wr' : World} {B M : Nat} {nv kv : Value} {nm : List Nat} {kept : List (Nat × Nat)} {D : DataW Nat} {n : Nat}
theorem NInv.below (I : NInv wr B M nv kv nm kept D n) (h : Below wr.heap.size wr wr') : NInv wr' B M nv kv nm kept D n :=
  ⟨Nat.le_trans I.bs h.size, ownr_below I.ownN h, ownr_below I.ownK h, I.nk, I.map.kept (grown_of_below h) (by simp), I.nM, I.kM⟩
theorem NInv.alloc (I : NInv wr B M nv kv nm kept D n) (o : Obj) : NInv (wr.alloc o) B M nv kv nm kept D n := I.below ((Below.refl _ _).alloc (Nat.le_refl _) _)
theorem NInv.addN (I : NInv wr B M nv kv nm kept D n) {g' cap' x : Nat} (own' : wr'.ownsRow B 3 1 (.slice (some ⟨g', 0, none⟩) (nm.length + 1) cap') (nm.length + 1) (ivals nm ++ [.int .i64 (x : Int)])) (G : Grew wr wr' nv g') :
    NInv wr' B M (.slice (some ⟨g', 0, none⟩) (nm.length + 1) cap') kv (nm ++ [x]) kept D n := by
  have hM : g' ≠ M := fun e => by
    rcases G.hat with e' | e'
    · exact I.nM (e ▸ e')
    · have := I.map.lt; omega
  refine ⟨Nat.le_trans I.bs G.grow.size, ?_, own_far I.ownK G (fun q e e' => I.nk q e' e), fun q hq => ?_, I.map.kept G.grow (fun e => I.nM e.symm), fun e => hM (by simpa [Value.ownBlock] using e), I.kM⟩
  · rw [ivals_snoc, List.length_append]; exact own'
  · simp only [Value.ownBlock, Option.some.injEq] at hq
    subst hq
    exact apart I.ownK G (fun q e e' => I.nk q e' e)
theorem NInv.addK (I : NInv wr B M nv kv nm kept D n) {g' cap' : Nat} {x y : Nat} (own' : wr'.ownsRow B 56 2 (.slice (some ⟨g', 0, none⟩) (kept.length + 1) cap') (kept.length + 1) (flat (z2 kept) ++ [.int .i64 (x : Int), .int .i64 (y : Int)])) (G : Grew wr wr' kv g') :
    NInv wr' B M nv (.slice (some ⟨g', 0, none⟩) (kept.length + 1) cap') nm (kept ++ [(x, y)]) D n := by
  have hM : g' ≠ M := fun e => by
    rcases G.hat with e' | e'
    · exact I.kM (e ▸ e')
    · have := I.map.lt; omega
  refine ⟨Nat.le_trans I.bs G.grow.size, own_far I.ownN G I.nk, ?_, fun q hq e => ?_, I.map.kept G.grow (fun e => I.kM e.symm), I.nM, fun e => hM (by simpa [Value.ownBlock] using e)⟩
  · have e : z2 (kept ++ [(x, y)]) = z2 kept ++ [((x : Int), (y : Int))] := by simp [z2]
    rw [e, flat_snoc, List.length_append]; exact own'
  · simp only [Value.ownBlock, Option.some.injEq] at e
    subst e
    exact apart I.ownN G I.nk hq
theorem NInv.put (I : NInv wr B M nv kv nm kept D n) {D' : DataW Nat} {n' : Nat} (m' : wr'.ownsMap Tryz.prog 56 (plainElem Tryz.prog 3) M n' D') (g : wr.grownBy wr' (some M)) : NInv wr' B M nv kv nm kept D' n' :=
  ⟨Nat.le_trans I.bs g.size, own_blocks I.ownN (fun q hq => g.block q (I.ownN.lt q hq).2 (fun e => I.nM (hq.trans e))), own_blocks I.ownK (fun q hq => g.block q (I.ownK.lt q hq).2 (fun e => I.kM (hq.trans e))), I.nk, m', I.nM, I.kM⟩
theorem NInv.mono (I : NInv wr B M nv kv nm kept D n) {n' : Nat} (h : n ≤ n') : NInv wr B M nv kv nm kept D n' := ⟨I.bs, I.ownN, I.ownK, I.nk, I.map.mono h, I.nM, I.kM⟩
/-- The names' cells. -/
theorem NInv.names (I : NInv wr B M nv kv nm kept D n) (h0 : nm ≠ []) : ∃ g cap, nv = .slice (some ⟨g, 0, none⟩) nm.length cap ∧ B ≤ g ∧ g < wr.heap.size ∧ ∀ j, j < nm.length → wr.cell? ⟨g, 0 + j, none⟩ = some (.int .i64 ((nm.getD j 0 : Nat) : Int)) := by
  have o := I.ownN
  rcases I.ownN.2 with ⟨_, h⟩ | ⟨g, cap, cur, rfl, _⟩
  · exact absurd (List.length_eq_zero_iff.1 h) h0
  · refine ⟨g, cap, rfl, (o.lt g rfl).1, (o.lt g rfl).2, fun j hj => ?_⟩
    rw [Nat.zero_add, o.cellAt j (by simpa [ivals] using hj)]
    simp [ivals, hj]
end

section
variable {n : Nat} {ls gs : List (Int × Int)} {os : List Int}
/-- The names are small. -/
theorem sl1_small (h : RightN n ls gs os) {k : Nat} (hk : k ≤ gs.length) : (∀ x ∈ (sl1 (n + ls.length + 1) (natP gs) k).1, x < 1000) ∧ (∀ s, s / 2 < n + ls.length + 1 + k → putS (sl1 (n + ls.length + 1) (natP gs) k).1 s < 1000) := by
  have inv := sl1_inv (first := n + ls.length + 1) (by omega) h.gatesOk k (by rw [natP_len]; exact hk)
  have hl := sl1_len (n + ls.length + 1) (natP gs) k
  have hle := sl1_kept_le (n + ls.length + 1) (natP gs) k
  have h1 := h.n4
  have h2 := h.l4
  have h3 := h.g30
  refine ⟨fun x hx => ?_, fun s hs => ?_⟩
  · obtain ⟨i, hi, rfl⟩ := List.getElem_of_mem hx
    have := inv.names i hi
    rw [List.getD_eq_getElem?_getD, List.getElem?_eq_getElem hi] at this
    simp only [Option.getD_some] at this
    omega
  · have := inv.names (s / 2) (by omega)
    rw [← putS_half] at this
    omega
end

end Go.Proofs.YtgpaajdfkekjiaaGreatDoor
