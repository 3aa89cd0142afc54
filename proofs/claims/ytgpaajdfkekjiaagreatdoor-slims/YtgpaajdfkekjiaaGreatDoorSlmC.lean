/-
  naming's 'ofCircuit' of package slim. Written by wip/mk_slmc.py.
-/
import Derived.Test.YtgpaajdfkekjiaaGreatDoorSlmB
import Derived.Test.YtgpaajdfkekjiaaGreatDoorSlmK
import Derived.Test.YtgpaajdfkekjiaaGreatDoorHeldK
namespace Go.Proofs.YtgpaajdfkekjiaaGreatDoor
open Go.RowKit

/-- The latches and outputs, put anew. -/
def nmL (l : List Nat) (ls : List (Int × Int)) (k : Nat) : List (Int × Int) := (List.range k).map fun j => ((putS l (ls.getD j (0, 0)).1.toNat : Int), (ls.getD j (0, 0)).2)
def nmO (l : List Nat) (os : List Int) (k : Nat) : List Int := (List.range k).map fun j => (putS l (os.getD j 0).toNat : Int)
theorem nmL_len (l : List Nat) (ls : List (Int × Int)) (k : Nat) : (nmL l ls k).length = k := by simp [nmL]
theorem nmO_len (l : List Nat) (os : List Int) (k : Nat) : (nmO l os k).length = k := by simp [nmO]
theorem nmL_succ (l : List Nat) (ls : List (Int × Int)) (k : Nat) : nmL l ls (k + 1) = nmL l ls k ++ [((putS l (ls.getD k (0, 0)).1.toNat : Int), (ls.getD k (0, 0)).2)] := by simp [nmL, List.range_succ]
theorem nmO_succ (l : List Nat) (os : List Int) (k : Nat) : nmO l os (k + 1) = nmO l os k ++ [(putS l (os.getD k 0).toNat : Int)] := by simp [nmO, List.range_succ]
theorem nmL_all (l : List Nat) (ls : List (Int × Int)) : nmL l ls ls.length = ls.map fun p => ((putS l p.1.toNat : Int), p.2) := by
  apply List.ext_getElem
  · simp [nmL]
  · intro i h1 h2
    have : i < ls.length := by simpa using h2
    simp [nmL, this]
theorem nmO_all (l : List Nat) (os : List Int) : nmO l os os.length = os.map fun s => (putS l s.toNat : Int) := by
  apply List.ext_getElem
  · simp [nmO]
  · intro i h1 h2
    have : i < os.length := by simpa using h2
    simp [nmO, this]

/-- The circuit stands in block C, its latches and outputs lie from block B on, apart; its gates are handed in. -/
structure OInv (wr : World) (C B : Nat) (a gv : Value) (lv ov : Value) (ls : List (Int × Int)) (os : List Int) : Prop where
  cb : C < B
  bs : B ≤ wr.heap.size
  boxC : wr.heap[C]? = some (.cells #[a, lv, gv, ov] 34 (0, 0))
  ownL : wr.ownsRow B 54 2 lv ls.length (flat ls)
  ownO : wr.ownsRow B 3 1 ov os.length (ivs os)
  lo : ∀ q, lv.ownBlock = some q → ov.ownBlock ≠ some q
section
variable {wr wr' : World} {C B : Nat} {a lv gv ov : Value} {ls : List (Int × Int)} {os : List Int}
theorem OInv.alloc (I : OInv wr C B a gv lv ov ls os) (o : Obj) : OInv (wr.alloc o) C B a gv lv ov ls os :=
  ⟨I.cb, by simp; have := I.bs; omega, alloc_old I.boxC, I.ownL.alloc o, I.ownO.alloc o, I.lo⟩
theorem OInv.drew (I : OInv wr C B a gv lv ov ls os) : OInv wr.drew C B a gv lv ov ls os := ⟨I.cb, I.bs, I.boxC, I.ownL, I.ownO, I.lo⟩
theorem OInv.addL (I : OInv wr C B a gv lv ov ls os) {g' cap' : Nat} {x y : Int} (own' : wr'.ownsRow B 54 2 (.slice (some ⟨g', 0, none⟩) (ls.length + 1) cap') (ls.length + 1) (flat ls ++ [.int .i64 x, .int .i64 y])) (G : Grew wr wr' lv g') :
    OInv (wr'.setCell ⟨C, 1, none⟩ (.slice (some ⟨g', 0, none⟩) (ls.length + 1) cap')) C B a gv (.slice (some ⟨g', 0, none⟩) (ls.length + 1) cap') ov (ls ++ [(x, y)]) os := by
  have h1 := I.cb
  have h2 := I.bs
  have hs := G.grow.size
  refine ⟨I.cb, by rw [Deep.nblk_setCell]; omega, blk_set ((G.blk C (by omega) (fun e => by have := (I.ownL.lt _ e).1; omega)).trans I.boxC) _ _, ?_, setC_own h1 (own_far I.ownO G (fun q e e' => I.lo q e' e)) _ _, ?_⟩
  · rw [flat_snoc, List.length_append]; exact setC_own h1 own' _ _
  · intro q hq
    simp only [Value.ownBlock, Option.some.injEq] at hq
    subst hq
    exact apart I.ownO G (fun q e e' => I.lo q e' e)
theorem OInv.addO (I : OInv wr C B a gv lv ov ls os) {g' cap' : Nat} {x : Int} (own' : wr'.ownsRow B 3 1 (.slice (some ⟨g', 0, none⟩) (os.length + 1) cap') (os.length + 1) (ivs os ++ [.int .i64 x])) (G : Grew wr wr' ov g') :
    OInv (wr'.setCell ⟨C, 3, none⟩ (.slice (some ⟨g', 0, none⟩) (os.length + 1) cap')) C B a gv lv (.slice (some ⟨g', 0, none⟩) (os.length + 1) cap') ls (os ++ [x]) := by
  have h1 := I.cb
  have h2 := I.bs
  have hs := G.grow.size
  refine ⟨I.cb, by rw [Deep.nblk_setCell]; omega, blk_set ((G.blk C (by omega) (fun e => by have := (I.ownO.lt _ e).1; omega)).trans I.boxC) _ _, setC_own h1 (own_far I.ownL G I.lo) _ _, ?_, ?_⟩
  · rw [ivs_snoc, List.length_append]; exact setC_own h1 own' _ _
  · intro q hq e
    simp only [Value.ownBlock, Option.some.injEq] at e
    subst e
    exact apart I.ownL G I.lo hq
end

set_option maxHeartbeats 1000000 in
theorem ofCirc_close {tmps : Array Value} {Q : Ending → World → Prop} {w : World} {b : Nat} {v0 v1 v2 v3 : Value} (h : w.heap[b]? = some (.cells #[v0, v1, v2, v3] 34 (0, 0)))
    (h6 : tmps[6]?.getD undef = .pointer (some ⟨b, 0, none⟩)) (hQ : Q (.returned (.agg #[v0, v1, v2, v3])) w) :
    bodyPost Tryz.prog Tryz.f101 Q Exit.ret ⟨tmps, []⟩ w := by
  have c0 : w.cell? ⟨b, 0, none⟩ = some v0 := by rw [cell_of_row _ _ _ _ _ _ h]; rfl
  have c1 : w.cell? ⟨b, 1, none⟩ = some v1 := by rw [cell_of_row _ _ _ _ _ _ h]; rfl
  have c2 : w.cell? ⟨b, 2, none⟩ = some v2 := by rw [cell_of_row _ _ _ _ _ _ h]; rfl
  have c3 : w.cell? ⟨b, 3, none⟩ = some v3 := by rw [cell_of_row _ _ _ _ _ _ h]; rfl
  exact bodyPost_ret (by simp [results, Tryz.results101, go_sem, h6, c0, c1, c2, c3]) rfl hQ

/-- What ofCircuit answers. -/
def OfcRes (w : World) (v0 gv : Value) (ls : List (Int × Int)) (os : List Int) (e : Ending) (w' : World) : Prop :=
  ∃ lv ov, e = .returned (.agg #[v0, lv, gv, ov]) ∧ w'.ownsRow w.heap.size 54 2 lv ls.length (flat ls) ∧ w'.ownsRow w.heap.size 3 1 ov os.length (ivs os) ∧ (∀ q, lv.ownBlock = some q → ov.ownBlock ≠ some q) ∧ Below w.heap.size w w'

set_option maxHeartbeats 4000000 in
set_option maxRecDepth 100000 in
theorem ofCircuit_any (N : Int) (la oa ga g0 : Option Addr) (lc oc gn gc gm gd : Nat) (ls : List (Int × Int)) (os : List Int) (b off len cap : Nat) (l : List Nat) (w : World) (hl4 : ls.length ≤ 4) (ho4 : os.length ≤ 4)
    (hL : PairsAt w la ls) (hO : IntsAt w oa os) (hlen : len ≤ 1000) (hv : len = l.length) (h01 : ∀ x ∈ l, x < 1000) (hb : b < w.heap.size)
    (hc : ∀ j, j < len → w.cell? ⟨b, off + j, none⟩ = some (.int .i64 ((l.getD j 0 : Nat) : Int)))
    (fL : ∀ i, i < ls.length → 0 ≤ (ls.getD i (0, 0)).1 ∧ (ls.getD i (0, 0)).1.toNat / 2 < len) (fO : ∀ i, i < os.length → 0 ≤ os.getD i 0 ∧ (os.getD i 0).toNat / 2 < len) :
    Calls Tryz.prog 101 #[.slice (some ⟨b, off, none⟩) len cap, .agg #[.int .i64 N, .slice la ls.length lc, .slice g0 gm gd, .slice oa os.length oc], .slice ga gn gc] w
      (OfcRes w (.int .i64 N) (.slice ga gn gc) (nmL l ls ls.length) (nmO l os os.length)) := by
  obtain ⟨W3, hW3⟩ : ∃ W3, W3 = ((w.alloc (.cells #[.int .i64 N, .slice la ls.length lc, .slice g0 gm gd, .slice oa os.length oc] 34)).alloc (.cells #[.int .i64 0, .slice none 0 0, .slice none 0 0, .slice none 0 0] 34)).alloc (.cells #[.int .i64 N, .slice none 0 0, .slice ga gn gc, .slice none 0 0] 34) := ⟨_, rfl⟩
  have s3 : W3.heap.size = w.heap.size + 3 := by rw [hW3]; simp
  have B3 : Below w.heap.size w W3 := by rw [hW3]; exact (((Below.refl _ _).alloc (Nat.le_refl _) _).alloc (by simp) _).alloc (by simp; omega) _
  have bR : W3.heap[w.heap.size]? = some (.cells #[.int .i64 N, .slice la ls.length lc, .slice g0 gm gd, .slice oa os.length oc] 34 (0, 0)) := by rw [hW3]; exact alloc_old (alloc_old (alloc_blk _ _ _ rfl))
  have bA : W3.heap[w.heap.size + 1]? = some (.cells #[.int .i64 0, .slice none 0 0, .slice none 0 0, .slice none 0 0] 34 (0, 0)) := by rw [hW3]; exact alloc_old (alloc_blk _ _ _ (by simp))
  have I3 : OInv W3 (w.heap.size + 2) (w.heap.size + 3) (.int .i64 N) (.slice ga gn gc) (.slice none 0 0) (.slice none 0 0) [] [] := ⟨by omega, by omega, by rw [hW3]; exact alloc_blk _ _ _ (by simp), World.ownsRow_nil _ _ _ _, World.ownsRow_nil _ _ _ _, (fun q e => by cases e)⟩
  obtain ⟨iL, hiL, zL0, zL1, zL2⟩ := info_parts Tryz.infoLS
  obtain ⟨iO, hiO, zO0, zO1, zO2⟩ := info_parts Tryz.infoInt
  have HC := hideS hc
  have H01 := hideS h01
  have HV := hideS hv
  clear hc h01 hv
  go_enter Tryz.func101, Tryz.ntmps101
  go_wp2_with fail
  rw [← hW3]
  clear hW3
  go_loopw [19] (fun i wr => ∃ (k : Nat) (lv : Value), k ≤ ls.length ∧ i = .int .i64 k ∧ OInv wr (w.heap.size + 2) (w.heap.size + 3) (.int .i64 N) (.slice ga gn gc) lv (.slice none 0 0) (nmL l ls k) [] ∧ wr.heap[w.heap.size]? = some (.cells #[.int .i64 N, .slice la ls.length lc, .slice g0 gm gd, .slice oa os.length oc] 34 (0, 0)) ∧ wr.heap[w.heap.size + 1]? = some (.cells #[.int .i64 0, .slice none 0 0, .slice none 0 0, .slice none 0 0] 34 (0, 0)) ∧ Below w.heap.size w wr)
    (fun i _ => ls.length - (intOf i).toNat)
  case atStart => exact ⟨0, _, Nat.zero_le _, rfl, I3, bR, bA, B3⟩
  case round =>
    clear I3 bR bA B3 s3
    obtain ⟨k, lv, hk, rfl, I, bR, bA, bel⟩ := hrel
    by_cases hk2 : k < ls.length
    · obtain ⟨bl, ol, rfl, hlt, hcL⟩ := hL.get (by omega)
      have hx1' := (bel.cell (p := ⟨bl, ol + k * 2, none⟩) hlt).trans (hcL k hk2).1
      have hx2 := (bel.cell (p := ⟨bl, ol + k * 2 + 1, none⟩) hlt).trans (hcL k hk2).2
      obtain ⟨f1, f2⟩ := fL k hk2
      obtain ⟨x1, hX1⟩ := Int.eq_ofNat_of_zero_le f1
      obtain ⟨x2, hX2⟩ : ∃ x, x = (ls.getD k (0, 0)).2 := ⟨_, rfl⟩
      rw [hX1, Int.toNat_natCast] at f2
      rw [hX1] at hx1'
      obtain ⟨p1, hp1⟩ : ∃ p, p = putS l x1 := ⟨_, rfl⟩
      have HK : Hid (nmL l ls (k + 1) = nmL l ls k ++ [((p1 : Int), x2)]) := by show _ = _; rw [nmL_succ, hX1, ← hX2, hp1, Int.toNat_natCast]
      rw [← hX2] at hx2
      have hx1 : wr.cell? ⟨bl, ol + k * 2, none⟩ = some (.int .i64 (x1 : Int)) := hx1'
      have oX : ∀ W, Below w.heap.size w W → Calls Tryz.prog 118 #[.slice (some ⟨b, off, none⟩) len cap, .int .i64 (x1 : Int)] W fun e w' => e = .returned (.int .i64 (p1 : Int)) ∧ w' = W := fun W hW => by
        rw [hp1]
        exact of_any x1 b off len cap l W f2 hlen HV.out H01.out (fun j hj => (hW.cell (p := ⟨b, _, none⟩) hb).trans (HC.out j hj))
      have yb : bl < wr.heap.size := Nat.lt_of_lt_of_le hlt bel.size
      obtain ⟨W4, hW4⟩ : ∃ W4, W4 = wr.alloc (.cells #[.int .i64 (x1 : Int), .int .i64 x2] 54) := ⟨_, rfl⟩
      have b4 : Below w.heap.size w W4 := by rw [hW4]; exact bel.alloc bel.size _
      have s4 : W4.heap.size = wr.heap.size + 1 := by rw [hW4]; simp
      have bx4 : W4.heap[wr.heap.size]? = some (.cells #[.int .i64 (x1 : Int), .int .i64 x2] 54 (0, 0)) := by rw [hW4]; exact heap_alloc_new _ _
      have I4 : OInv W4 (w.heap.size + 2) (w.heap.size + 3) (.int .i64 N) (.slice ga gn gc) lv (.slice none 0 0) (nmL l ls k) [] := by rw [hW4]; exact I.alloc _
      have bR4 : W4.heap[w.heap.size]? = some (.cells #[.int .i64 N, .slice (some ⟨bl, ol, none⟩) ls.length lc, .slice g0 gm gd, .slice oa os.length oc] 34 (0, 0)) := by rw [hW4]; exact alloc_old bR
      have bA4 : W4.heap[w.heap.size + 1]? = some (.cells #[.int .i64 0, .slice none 0 0, .slice none 0 0, .slice none 0 0] 34 (0, 0)) := by rw [hW4]; exact alloc_old bA
      have cC : W4.cell? ⟨w.heap.size + 1 + 1, 1, none⟩ = some lv := by rw [cell_of_row _ _ _ _ _ _ I4.boxC]; rfl
      have fC : W4.frozen? ⟨w.heap.size + 1 + 1, 1, none⟩ = false := frozen_of_row _ _ _ _ _ I4.boxC
      have q0 : W4.cell? ⟨wr.heap.size, 0, none⟩ = some (.int .i64 (x1 : Int)) := by rw [cell_of_row _ _ _ _ _ _ bx4]; rfl
      have q1 : W4.cell? ⟨wr.heap.size, 1, none⟩ = some (.int .i64 x2) := by rw [cell_of_row _ _ _ _ _ _ bx4]; rfl
      have hsz := I.bs
      have y2 : w.heap.size + 1 + 1 < W4.heap.size := by omega
      have y4 : wr.heap.size < W4.heap.size := by omega
      have hob : ∀ q, lv.ownBlock = some q → w.heap.size + 3 ≤ q := fun q hq => (I.ownL.lt q hq).1
      have hob2 : lv.ownBlock ≠ some wr.heap.size := fun e => by have := (I.ownL.lt _ e).2; omega
      have hs7 : ∀ j, j < w.heap.size + 3 → j < W4.heap.size := fun j hj => by omega
      have hs9 : ∀ (o : Obj) (j : Nat), j < W4.heap.size → j < ((W4.alloc o).drew).heap.size := fun o j hj => by show j < (W4.heap.push o).size; simp; omega
      have hs8 : ∀ j, j < w.heap.size + 3 → lv.ownBlock ≠ some j := fun j hj e => by have := hob j e; omega
      have hk0 : (0 : Int) ≤ (k : Int) := by omega
      have own := I4.ownL
      have hkl : (k : Int) < (ls.length : Int) := by omega
      rw [nmL_len] at own
      have FL := hideS fL
      have hsW : w.heap.size + 3 ≤ W4.heap.size := by omega
      clear hX1 hX2 hp1 hcL f1 f2 hx1' fL s4
      go_upto_region 5 with fail
      rw [← hW4]
      clear hW4
      refine wp_region_noPanic ?_
      refine wp_region_last (by kernel_rfl) (by kernel_rfl) ?_
      simp only [List.pop_toArray, List.dropLast_cons_cons, List.dropLast_singleton, List.size_toArray, List.length_cons, List.length_nil, Nat.zero_add, Nat.reduceAdd]
      refine wpAny_of_held (S := fun w' => w'.cell? ⟨w.heap.size + 1 + 1, 1, none⟩ = some lv ∧ w'.cell? ⟨wr.heap.size, 0, none⟩ = some (.int .i64 (x1 : Int)) ∧ w'.cell? ⟨wr.heap.size, 1, none⟩ = some (.int .i64 x2)) _ _ _ _ ?_
      have hHeld : (fun w' : World => w'.cell? ⟨w.heap.size + 1 + 1, 1, none⟩ = some lv ∧ w'.cell? ⟨wr.heap.size, 0, none⟩ = some (.int .i64 (x1 : Int)) ∧ w'.cell? ⟨wr.heap.size, 1, none⟩ = some (.int .i64 x2)) W4.drew := ⟨cC, q0, q1⟩
      refine wpAnyH_take (i := 0) (v := ?_) (by simp only [List.getElem?_toArray, List.getElem?_cons_zero]; rfl) (by kernel_rfl) (by kernel_rfl) (by kernel_rfl) (fun _ _ _ h => h) (Or.inl ⟨by rfl, ?_⟩) hHeld ?_
      rotate_left 1
      · (intro w0 hSw; (try dsimp only at hSw); go_simp; try (with_reducible rfl))
      simp only [Act.put, List.setIfInBounds_toArray, List.set_cons_zero, List.set_cons_succ]
      refine wpAnyH_take (i := 1) (v := ?_) (by simp only [List.getElem?_toArray, List.getElem?_cons_succ, List.getElem?_cons_zero]; rfl) (by kernel_rfl) (by kernel_rfl) (by kernel_rfl) (fun _ _ _ h => h) (Or.inl ⟨by rfl, ?_⟩) hHeld ?_
      rotate_left 1
      · (intro w0 hSw; (try dsimp only at hSw); go_simp; try (with_reducible rfl))
      simp only [Act.put, List.setIfInBounds_toArray, List.set_cons_zero, List.set_cons_succ]
      refine wpAnyH_take (i := 2) (v := ?_) (by simp only [List.getElem?_toArray, List.getElem?_cons_succ, List.getElem?_cons_zero]; rfl) (by kernel_rfl) (by kernel_rfl) (by kernel_rfl) (fun _ _ _ h => h) (Or.inl ⟨by rfl, ?_⟩) hHeld ?_
      rotate_left 1
      · (intro w0 hSw; (try dsimp only at hSw); go_simp; try (with_reducible rfl))
      simp only [Act.put, List.setIfInBounds_toArray, List.set_cons_zero, List.set_cons_succ]
      refine wpAnyH_take (i := 3) (v := ?_) (by simp only [List.getElem?_toArray, List.getElem?_cons_succ, List.getElem?_cons_zero]; rfl) (by kernel_rfl) (by kernel_rfl) (by kernel_rfl) (fun _ _ _ h => h) (Or.inl ⟨by rfl, ?_⟩) hHeld ?_
      rotate_left 1
      · (intro w0 hSw; (try dsimp only at hSw); go_simp; try (with_reducible rfl))
      simp only [Act.put, List.setIfInBounds_toArray, List.set_cons_zero, List.set_cons_succ]
      refine wpAnyH_take (i := 4) (v := ?_) (by simp only [List.getElem?_toArray, List.getElem?_cons_succ, List.getElem?_cons_zero]; rfl) (by kernel_rfl) (by kernel_rfl) (by kernel_rfl) (fun _ _ _ h => h) (Or.inl ⟨by rfl, ?_⟩) hHeld ?_
      rotate_left 1
      · (intro w0 hSw; (try dsimp only at hSw); go_simp; try (with_reducible rfl))
      simp only [Act.put, List.setIfInBounds_toArray, List.set_cons_zero, List.set_cons_succ]
      refine wpAnyH_take (i := 6) (v := ?_) (by simp only [List.getElem?_toArray, List.getElem?_cons_succ, List.getElem?_cons_zero]; rfl) (by kernel_rfl) (by kernel_rfl) (by kernel_rfl) (fun _ _ _ h => h) (Or.inl ⟨by rfl, ?_⟩) hHeld ?_
      rotate_left 1
      · (intro w0 hSw; (try dsimp only at hSw); go_simp; try (with_reducible rfl))
      simp only [Act.put, List.setIfInBounds_toArray, List.set_cons_zero, List.set_cons_succ]
      refine wpAnyH_take (i := 7) (v := ?_) (by simp only [List.getElem?_toArray, List.getElem?_cons_succ, List.getElem?_cons_zero]; rfl) (by kernel_rfl) (by kernel_rfl) (by kernel_rfl) (fun _ _ _ h => h) (Or.inl ⟨by rfl, ?_⟩) hHeld ?_
      rotate_left 1
      · (intro w0 hSw; (try dsimp only at hSw); go_simp; try (with_reducible rfl))
      simp only [Act.put, List.setIfInBounds_toArray, List.set_cons_zero, List.set_cons_succ]
      refine wpAnyH_ready (rs := [5]) (by kernel_rfl) (by simp) (AllReadyH.cons (by simp only [List.getElem?_toArray, List.getElem?_cons_succ, List.getElem?_cons_zero]; rfl) (fun K hK => ?_) AllReadyH.nil)
      go_simp
      refine (oX _ (b4.trans (Below.refl _ _).drew)).mono ?_
      rintro e w' ⟨rfl, e9⟩
      obtain rfl := e9.symm
      dsimp only
      refine hK.out _ _ ?_ (fun hHeld => ?_)
      · exact hHeld
      clear hK K
      try simp only [Act.put, List.setIfInBounds_toArray, List.set_cons_zero, List.set_cons_succ]
      refine wpAnyH_take (i := 8) (v := ?_) (by simp only [List.getElem?_toArray, List.getElem?_cons_succ, List.getElem?_cons_zero]; rfl) (by kernel_rfl) (by kernel_rfl) (by kernel_rfl) (fun _ _ _ h => h) (Or.inl ⟨by rfl, ?_⟩) hHeld ?_
      rotate_left 1
      · (intro w0 hSw; (try dsimp only at hSw); go_simp; try (with_reducible rfl))
      simp only [Act.put, List.setIfInBounds_toArray, List.set_cons_zero, List.set_cons_succ]
      refine wpAnyH_ready (rs := [9]) (by kernel_rfl) (by simp) (AllReadyH.cons (by simp only [List.getElem?_toArray, List.getElem?_cons_succ, List.getElem?_cons_zero]; rfl) (fun K hK => ?_) AllReadyH.nil)
      go_simp
      refine hK.out _ _ ?_ (fun hHeld => ?_)
      · simp [go_sem, World.cell?_alloc_past, y2, y4, cC, q0, q1]
      clear hK K
      try simp only [Act.put, List.setIfInBounds_toArray, List.set_cons_zero, List.set_cons_succ]
      refine wpAnyH_ready (rs := [10]) (by kernel_rfl) (by simp) (AllReadyH.cons (by simp only [List.getElem?_toArray, List.getElem?_cons_succ, List.getElem?_cons_zero]; rfl) (fun K hK => ?_) AllReadyH.nil)
      refine step_append_lies _ (by rfl) (.tmp 24) (.tmp 32) 30 (by rfl) (w.heap.size + 3) 54 iL (.agg #[.int .i64 0, .int .i64 0]) 2 16 Tryz.underlying30 hiL zL0 zL1 zL2 rfl (by omega) lv k (flat (nmL l ls k)) (by rfl) ((own.alloc _).drew) ⟨W4.heap.size, 0, none⟩ 1 1 [.int .i64 (p1 : Int), .int .i64 x2] (by rfl) rfl (news2S _ _ _ _) (by simp [Value.oneCell']) (by omega) (by unfold maxLen; omega) (by omega) (by simp; omega) _ rfl ?_
      intro g' cap' w1 hown1 hgrow hat hlt1
      have G8 : Grew _ w1 lv g' := ⟨hgrow, hat⟩
      have hblk : ∀ j, j < w.heap.size + 3 → w1.heap[j]? = W4.heap[j]? := fun j hj => (G8.blk j (hs9 _ j (hs7 j hj)) (fun e => hs8 j hj e)).trans (Deep.blk_alloc_lt _ _ _ (hs7 j hj))
      have hblk4 : w1.heap[wr.heap.size]? = W4.heap[wr.heap.size]? := (G8.blk _ (hs9 _ _ y4) hob2).trans (Deep.blk_alloc_lt _ _ _ y4)
      have cC1 : w1.cell? ⟨w.heap.size + 1 + 1, 1, none⟩ = some lv := (World.cell?_of_block (w := W4) (hblk (w.heap.size + 1 + 1) (by omega))).trans cC
      have fC1 : w1.frozen? ⟨w.heap.size + 1 + 1, 1, none⟩ = false := (World.frozen?_of_block (w := W4) (hblk (w.heap.size + 1 + 1) (by omega))).trans fC
      refine hK.out _ _ ?_ (fun hHeld => ?_)
      · exact ⟨cC1, (World.cell?_of_block (w := W4) hblk4).trans q0, (World.cell?_of_block (w := W4) hblk4).trans q1⟩
      clear hK K
      try simp only [Act.put, List.setIfInBounds_toArray, List.set_cons_zero, List.set_cons_succ]
      refine wpAnyH_take (i := 11) (v := ?_) (by simp only [List.getElem?_toArray, List.getElem?_cons_succ, List.getElem?_cons_zero]; rfl) (by kernel_rfl) (by kernel_rfl) (by kernel_rfl) (fun _ _ _ h => h) (Or.inl ⟨by rfl, ?_⟩) hHeld ?_
      rotate_left 1
      · (intro w0 hSw; (try dsimp only at hSw); go_simp; try (with_reducible rfl))
      simp only [Act.put, List.setIfInBounds_toArray, List.set_cons_zero, List.set_cons_succ]
      refine wpAnyH_done (by kernel_rfl) ?_ _
      refine lastQ_step (by simp only [List.size_toArray, List.length_cons, List.length_nil, Nat.zero_add, Nat.reduceAdd, Nat.reduceSub, List.getElem?_toArray, List.getElem?_cons_succ, List.getElem?_cons_zero]; rfl) (fun K hK => ?_)
      go_simp
      refine hK _ _ (NoPanic.normal ?_)
      clear hK K hHeld
      have I9 := (I4.alloc (.cells #[.int .i64 (p1 : Int), .int .i64 x2] 54)).drew
      have own1 : w1.ownsRow (w.heap.size + 3) 54 2 (.slice (some ⟨g', 0, none⟩) ((nmL l ls k).length + 1) cap') ((nmL l ls k).length + 1) (flat (nmL l ls k) ++ [.int .i64 (p1 : Int), .int .i64 x2]) := by rw [nmL_len]; exact hown1
      have x8 := I9.addL own1 G8
      rw [nmL_len, ← HK.out] at x8
      have bel1 : Below w.heap.size w w1 := b4.trans ⟨hgrow.os, hgrow.tape, hgrow.output, Nat.le_trans (by show W4.heap.size ≤ (W4.heap.push _).size; simp) hgrow.size, fun j hj => hblk j (by omega)⟩
      have X8 := hideS x8
      clear x8
      go_wp2
      go_roundw
      case rel => exact ⟨k + 1, _, by omega, by go_num, X8.out, by rw [Deep.blk_setCell_other _ _ _ _ (show w.heap.size ≠ w.heap.size + 1 + 1 by omega), hblk _ (by omega)]; exact bR4, by rw [Deep.blk_setCell_other _ _ _ _ (show w.heap.size + 1 ≠ w.heap.size + 1 + 1 by omega), hblk _ (by omega)]; exact bA4, bel1.setCell (show w.heap.size ≤ w.heap.size + 1 + 1 by omega) _⟩
      case measure => simp [intOf]; omega
    · have hkN : k = ls.length := by omega
      rw [hkN] at I
      rw [hkN]
      clear hkN hk2 hk
      have cR : wr.cell? ⟨w.heap.size, 3, none⟩ = some (.slice oa os.length oc) := by rw [cell_of_row _ _ _ _ _ _ bR]; rfl
      go_wp2_with fail
      clear cR
      go_loopw [39] (fun i wr => ∃ (k : Nat) (ov : Value), k ≤ os.length ∧ i = .int .i64 k ∧ OInv wr (w.heap.size + 2) (w.heap.size + 3) (.int .i64 N) (.slice ga gn gc) lv ov (nmL l ls ls.length) (nmO l os k) ∧ wr.heap[w.heap.size + 1]? = some (.cells #[.int .i64 0, .slice none 0 0, .slice none 0 0, .slice none 0 0] 34 (0, 0)) ∧ Below w.heap.size w wr)
        (fun i _ => os.length - (intOf i).toNat)
      case atStart => exact ⟨0, _, Nat.zero_le _, rfl, I, bA, bel⟩
      case round =>
        clear I bR bA bel
        obtain ⟨k, ov, hk, rfl, I, bA, bel⟩ := hrel
        by_cases hk2 : k < os.length
        · obtain ⟨bl, ol, rfl, hlt, hcO⟩ := hO.get (by omega)
          have hx1' := (bel.cell (p := ⟨bl, ol + k, none⟩) hlt).trans (hcO k hk2)
          obtain ⟨f1, f2⟩ := fO k hk2
          obtain ⟨x1, hX1⟩ := Int.eq_ofNat_of_zero_le f1
          rw [hX1, Int.toNat_natCast] at f2
          rw [hX1] at hx1'
          obtain ⟨p1, hp1⟩ : ∃ p, p = putS l x1 := ⟨_, rfl⟩
          have HK : Hid (nmO l os (k + 1) = nmO l os k ++ [(p1 : Int)]) := by show _ = _; rw [nmO_succ, hX1, hp1, Int.toNat_natCast]
          have hx1 : wr.cell? ⟨bl, ol + k, none⟩ = some (.int .i64 (x1 : Int)) := hx1'
          have oX : ∀ W, Below w.heap.size w W → Calls Tryz.prog 118 #[.slice (some ⟨b, off, none⟩) len cap, .int .i64 (x1 : Int)] W fun e w' => e = .returned (.int .i64 (p1 : Int)) ∧ w' = W := fun W hW => by
            rw [hp1]
            exact of_any x1 b off len cap l W f2 hlen HV.out H01.out (fun j hj => (hW.cell (p := ⟨b, _, none⟩) hb).trans (HC.out j hj))
          have yb : bl < wr.heap.size := Nat.lt_of_lt_of_le hlt bel.size
          have cC : wr.cell? ⟨w.heap.size + 1 + 1, 3, none⟩ = some ov := by rw [cell_of_row _ _ _ _ _ _ I.boxC]; rfl
          have fC : wr.frozen? ⟨w.heap.size + 1 + 1, 3, none⟩ = false := frozen_of_row _ _ _ _ _ I.boxC
          have hsz := I.bs
          have y2 : w.heap.size + 1 + 1 < wr.heap.size := by omega
          have hob : ∀ q, ov.ownBlock = some q → w.heap.size + 3 ≤ q := fun q hq => (I.ownO.lt q hq).1
          have hs7 : ∀ j, j < w.heap.size + 3 → j < wr.heap.size := fun j hj => by omega
          have hs9 : ∀ (o : Obj) (j : Nat), j < w.heap.size + 3 → j < ((wr.alloc o).drew).heap.size := fun o j hj => by show j < (wr.heap.push o).size; simp; omega
          have hs8 : ∀ j, j < w.heap.size + 3 → ov.ownBlock ≠ some j := fun j hj e => by have := hob j e; omega
          have hk0 : (0 : Int) ≤ (k : Int) := by omega
          have own := I.ownO
          have hkl : (k : Int) < (os.length : Int) := by omega
          rw [nmO_len] at own
          clear hX1 hp1 hcO f1 f2 hx1'
          go_upto_region 10 with fail
          refine wp_region_noPanic ?_
          refine wp_region_last (by kernel_rfl) (by kernel_rfl) ?_
          simp only [List.pop_toArray, List.dropLast_cons_cons, List.dropLast_singleton, List.size_toArray, List.length_cons, List.length_nil, Nat.zero_add, Nat.reduceAdd]
          refine wpAny_of_held (S := fun w' => w'.cell? ⟨w.heap.size + 1 + 1, 3, none⟩ = some ov) _ _ _ _ ?_
          have hHeld : (fun w' : World => w'.cell? ⟨w.heap.size + 1 + 1, 3, none⟩ = some ov) wr.drew := cC
          refine wpAnyH_take (i := 0) (v := ?_) (by simp only [List.getElem?_toArray, List.getElem?_cons_zero]; rfl) (by kernel_rfl) (by kernel_rfl) (by kernel_rfl) (fun _ _ _ h => h) (Or.inl ⟨by rfl, ?_⟩) hHeld ?_
          rotate_left 1
          · (intro w0 hSw; (try dsimp only at hSw); go_simp; try (with_reducible rfl))
          simp only [Act.put, List.setIfInBounds_toArray, List.set_cons_zero, List.set_cons_succ]
          refine wpAnyH_take (i := 1) (v := ?_) (by simp only [List.getElem?_toArray, List.getElem?_cons_succ, List.getElem?_cons_zero]; rfl) (by kernel_rfl) (by kernel_rfl) (by kernel_rfl) (fun _ _ _ h => h) (Or.inl ⟨by rfl, ?_⟩) hHeld ?_
          rotate_left 1
          · (intro w0 hSw; (try dsimp only at hSw); go_simp; try (with_reducible rfl))
          simp only [Act.put, List.setIfInBounds_toArray, List.set_cons_zero, List.set_cons_succ]
          refine wpAnyH_take (i := 2) (v := ?_) (by simp only [List.getElem?_toArray, List.getElem?_cons_succ, List.getElem?_cons_zero]; rfl) (by kernel_rfl) (by kernel_rfl) (by kernel_rfl) (fun _ _ _ h => h) (Or.inl ⟨by rfl, ?_⟩) hHeld ?_
          rotate_left 1
          · (intro w0 hSw; (try dsimp only at hSw); go_simp; try (with_reducible rfl))
          simp only [Act.put, List.setIfInBounds_toArray, List.set_cons_zero, List.set_cons_succ]
          refine wpAnyH_take (i := 3) (v := ?_) (by simp only [List.getElem?_toArray, List.getElem?_cons_succ, List.getElem?_cons_zero]; rfl) (by kernel_rfl) (by kernel_rfl) (by kernel_rfl) (fun _ _ _ h => h) (Or.inl ⟨by rfl, ?_⟩) hHeld ?_
          rotate_left 1
          · (intro w0 hSw; (try dsimp only at hSw); go_simp; try (with_reducible rfl))
          simp only [Act.put, List.setIfInBounds_toArray, List.set_cons_zero, List.set_cons_succ]
          refine wpAnyH_ready (rs := [4]) (by kernel_rfl) (by simp) (AllReadyH.cons (by simp only [List.getElem?_toArray, List.getElem?_cons_succ, List.getElem?_cons_zero]; rfl) (fun K hK => ?_) AllReadyH.nil)
          go_simp
          refine (oX _ (bel.trans (Below.refl _ _).drew)).mono ?_
          rintro e w' ⟨rfl, e9⟩
          obtain rfl := e9.symm
          dsimp only
          refine hK.out _ _ ?_ (fun hHeld => ?_)
          · exact hHeld
          clear hK K
          try simp only [Act.put, List.setIfInBounds_toArray, List.set_cons_zero, List.set_cons_succ]
          refine wpAnyH_ready (rs := [5]) (by kernel_rfl) (by simp) (AllReadyH.cons (by simp only [List.getElem?_toArray, List.getElem?_cons_succ, List.getElem?_cons_zero]; rfl) (fun K hK => ?_) AllReadyH.nil)
          go_simp
          refine hK.out _ _ ?_ (fun hHeld => ?_)
          · simp [go_sem, World.cell?_alloc_past, y2, cC]
          clear hK K
          try simp only [Act.put, List.setIfInBounds_toArray, List.set_cons_zero, List.set_cons_succ]
          refine wpAnyH_ready (rs := [6]) (by kernel_rfl) (by simp) (AllReadyH.cons (by simp only [List.getElem?_toArray, List.getElem?_cons_succ, List.getElem?_cons_zero]; rfl) (fun K hK => ?_) AllReadyH.nil)
          refine step_append_lies _ (by rfl) (.tmp 44) (.tmp 48) 32 (by rfl) (w.heap.size + 3) 3 iO (.int .i64 0) 1 8 Tryz.underlying32 hiO zO0 zO1 zO2 rfl (by omega) ov k (ivs (nmO l os k)) (by rfl) ((own.alloc _).drew) ⟨wr.heap.size, 0, none⟩ 1 1 [.int .i64 (p1 : Int)] (by rfl) rfl (news1S _ _ _) (by simp [Value.oneCell']) (by omega) (by unfold maxLen; omega) (by omega) (by simp; omega) _ rfl ?_
          intro g' cap' w1 hown1 hgrow hat hlt1
          have G8 : Grew _ w1 ov g' := ⟨hgrow, hat⟩
          have hblk : ∀ j, j < w.heap.size + 3 → w1.heap[j]? = wr.heap[j]? := fun j hj => (G8.blk j (hs9 _ j hj) (fun e => hs8 j hj e)).trans (Deep.blk_alloc_lt _ _ _ (hs7 j hj))
          have cC1 : w1.cell? ⟨w.heap.size + 1 + 1, 3, none⟩ = some ov := (World.cell?_of_block (w := wr) (hblk (w.heap.size + 1 + 1) (by omega))).trans cC
          have fC1 : w1.frozen? ⟨w.heap.size + 1 + 1, 3, none⟩ = false := (World.frozen?_of_block (w := wr) (hblk (w.heap.size + 1 + 1) (by omega))).trans fC
          refine hK.out _ _ ?_ (fun hHeld => ?_)
          · exact cC1
          clear hK K
          try simp only [Act.put, List.setIfInBounds_toArray, List.set_cons_zero, List.set_cons_succ]
          refine wpAnyH_take (i := 7) (v := ?_) (by simp only [List.getElem?_toArray, List.getElem?_cons_succ, List.getElem?_cons_zero]; rfl) (by kernel_rfl) (by kernel_rfl) (by kernel_rfl) (fun _ _ _ h => h) (Or.inl ⟨by rfl, ?_⟩) hHeld ?_
          rotate_left 1
          · (intro w0 hSw; (try dsimp only at hSw); go_simp; try (with_reducible rfl))
          simp only [Act.put, List.setIfInBounds_toArray, List.set_cons_zero, List.set_cons_succ]
          refine wpAnyH_done (by kernel_rfl) ?_ _
          refine lastQ_step (by simp only [List.size_toArray, List.length_cons, List.length_nil, Nat.zero_add, Nat.reduceAdd, Nat.reduceSub, List.getElem?_toArray, List.getElem?_cons_succ, List.getElem?_cons_zero]; rfl) (fun K hK => ?_)
          go_simp
          refine hK _ _ (NoPanic.normal ?_)
          clear hK K hHeld
          have I9 := (I.alloc (.cells #[.int .i64 (p1 : Int)] 3)).drew
          have own1 : w1.ownsRow (w.heap.size + 3) 3 1 (.slice (some ⟨g', 0, none⟩) ((nmO l os k).length + 1) cap') ((nmO l os k).length + 1) (ivs (nmO l os k) ++ [.int .i64 (p1 : Int)]) := by rw [nmO_len]; exact hown1
          have x8 := I9.addO own1 G8
          rw [nmO_len, ← HK.out] at x8
          have bel1 : Below w.heap.size w w1 := bel.trans ⟨hgrow.os, hgrow.tape, hgrow.output, Nat.le_trans (by show wr.heap.size ≤ (wr.heap.push _).size; simp) hgrow.size, fun j hj => hblk j (by omega)⟩
          have X8 := hideS x8
          clear x8
          go_wp2
          go_roundw
          case rel => exact ⟨k + 1, _, by omega, by go_num, X8.out, by rw [Deep.blk_setCell_other _ _ _ _ (show w.heap.size + 1 ≠ w.heap.size + 1 + 1 by omega), hblk _ (by omega)]; exact bA, bel1.setCell (show w.heap.size ≤ w.heap.size + 1 + 1 by omega) _⟩
          case measure => simp [intOf]; omega
        · have hkN : k = os.length := by omega
          rw [hkN] at I
          rw [hkN]
          clear hkN hk2 hk
          have q0 : wr.cell? ⟨w.heap.size + 1 + 1, 0, none⟩ = some (.int .i64 N) := by rw [cell_of_row _ _ _ _ _ _ I.boxC]; rfl
          have q1 : wr.cell? ⟨w.heap.size + 1 + 1, 1, none⟩ = some lv := by rw [cell_of_row _ _ _ _ _ _ I.boxC]; rfl
          have q2 : wr.cell? ⟨w.heap.size + 1 + 1, 2, none⟩ = some (.slice ga gn gc) := by rw [cell_of_row _ _ _ _ _ _ I.boxC]; rfl
          have q3 : wr.cell? ⟨w.heap.size + 1 + 1, 3, none⟩ = some ov := by rw [cell_of_row _ _ _ _ _ _ I.boxC]; rfl
          have u0 : wr.cell? ⟨w.heap.size + 1, 0, none⟩ = some (.int .i64 0) := by rw [cell_of_row _ _ _ _ _ _ bA]; rfl
          have u1 : wr.cell? ⟨w.heap.size + 1, 1, none⟩ = some (.slice none 0 0) := by rw [cell_of_row _ _ _ _ _ _ bA]; rfl
          have u2 : wr.cell? ⟨w.heap.size + 1, 2, none⟩ = some (.slice none 0 0) := by rw [cell_of_row _ _ _ _ _ _ bA]; rfl
          have u3 : wr.cell? ⟨w.heap.size + 1, 3, none⟩ = some (.slice none 0 0) := by rw [cell_of_row _ _ _ _ _ _ bA]; rfl
          have v0 : wr.frozen? ⟨w.heap.size + 1, 0, none⟩ = false := frozen_of_row _ _ _ _ _ bA
          have v1 : wr.frozen? ⟨w.heap.size + 1, 1, none⟩ = false := frozen_of_row _ _ _ _ _ bA
          have v2 : wr.frozen? ⟨w.heap.size + 1, 2, none⟩ = false := frozen_of_row _ _ _ _ _ bA
          have v3 : wr.frozen? ⟨w.heap.size + 1, 3, none⟩ = false := frozen_of_row _ _ _ _ _ bA
          obtain ⟨la', ln', lc', rfl⟩ := own_slice I.ownL
          obtain ⟨oa', on', oc', rfl⟩ := own_slice I.ownO
          go_wp2
          refine ofCirc_close (b := w.heap.size + 1) (box4_blk bA _ _ _ _) (by rfl) ?_
          have hsz := I.bs
          exact ⟨_, _, rfl, box4_own (b := w.heap.size + 1) I.ownL (by omega) (by omega) _ _ _ _, box4_own (b := w.heap.size + 1) I.ownO (by omega) (by omega) _ _ _ _, I.lo, box4_below bel (by omega) _ _ _ _⟩

end Go.Proofs.YtgpaajdfkekjiaaGreatDoor
