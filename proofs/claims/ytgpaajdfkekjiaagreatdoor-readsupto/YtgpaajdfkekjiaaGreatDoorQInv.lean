/-
  A circuit that is built list by list, in a box: what an append to one of its lists leaves of the rest.
-/
import Derived.Test.YtgpaajdfkekjiaaGreatDoorBox
import Derived.Test.YtgpaajdfkekjiaaGreatDoorMem
namespace Go.Proofs.YtgpaajdfkekjiaaGreatDoor
open Go.RowKit

theorem Tryz.infoLq : (Tryz.prog.info? 54).map (fun i => (i.zero, i.size, i.bytes)) = some (some (.agg #[.int .i64 0, .int .i64 0]), 2, 16) := by kernel_rfl
theorem Tryz.infoGq : (Tryz.prog.info? 56).map (fun i => (i.zero, i.size, i.bytes)) = some (some (.agg #[.int .i64 0, .int .i64 0]), 2, 16) := by kernel_rfl
theorem news2Q (w : World) (u v : Value) (t : TypeId) : ∀ j x, [u, v][j]? = some x → (w.alloc (.cells #[u, v] t)).drew.cell? ((⟨w.heap.size, 0, none⟩ : Addr).add j) = some x :=
  fun j x hx => World.news_of_block (w := (w.alloc (.cells #[u, v] t)).drew) (heap_alloc_new w _) j x hx
theorem news1Q (w : World) (v : Value) (t : TypeId) : ∀ j x, [v][j]? = some x → (w.alloc (.cells #[v] t)).drew.cell? ((⟨w.heap.size, 0, none⟩ : Addr).add j) = some x :=
  fun j x hx => World.news_of_block (w := (w.alloc (.cells #[v] t)).drew) (heap_alloc_new w _) j x hx

/-- The circuit stands in block C; its lists lie from block B on, apart. -/
structure QInv (wr : World) (C B : Nat) (a : Value) (lv gv ov : Value) (ls gs : List (Int × Int)) (os : List Int) : Prop where
  cb : C < B
  bs : B ≤ wr.heap.size
  boxC : wr.heap[C]? = some (.cells #[a, lv, gv, ov] 34 (0, 0))
  ownL : wr.ownsRow B 54 2 lv ls.length (flat ls)
  ownG : wr.ownsRow B 56 2 gv gs.length (flat gs)
  ownO : wr.ownsRow B 3 1 ov os.length (ivs os)
  lg : ∀ q, lv.ownBlock = some q → gv.ownBlock ≠ some q
  lo : ∀ q, lv.ownBlock = some q → ov.ownBlock ≠ some q
  go' : ∀ q, gv.ownBlock = some q → ov.ownBlock ≠ some q

section
variable {wr wr' : World} {C B : Nat} {a lv gv ov : Value} {ls gs : List (Int × Int)} {os : List Int}
theorem own_setQ {base e size : Nat} {v : Value} {n : Nat} {xs : List Value} (hA : C < base) (h : wr'.ownsRow base e size v n xs) (i : Nat) (x : Value) : (wr'.setCell ⟨C, i, none⟩ x).ownsRow base e size v n xs :=
  own_blocks h (fun q hq => Deep.blk_setCell_other _ _ _ _ (show q ≠ C by have := h.lt q hq; omega))
theorem QInv.alloc (I : QInv wr C B a lv gv ov ls gs os) (o : Obj) : QInv (wr.alloc o) C B a lv gv ov ls gs os :=
  ⟨I.cb, by simp; have := I.bs; omega, alloc_old I.boxC, I.ownL.alloc o, I.ownG.alloc o, I.ownO.alloc o, I.lg, I.lo, I.go'⟩
theorem QInv.drew (I : QInv wr C B a lv gv ov ls gs os) : QInv wr.drew C B a lv gv ov ls gs os := ⟨I.cb, I.bs, I.boxC, I.ownL, I.ownG, I.ownO, I.lg, I.lo, I.go'⟩

theorem keep_farQ {v : Value} {g' : Nat} (G : Grew wr wr' v g') (hb : B ≤ wr.heap.size) (hv : ∀ q, v.ownBlock = some q → B ≤ q) (i : Nat) (x : Value) : ∀ k, k < B → k ≠ C → (wr'.setCell ⟨C, i, none⟩ x).heap[k]? = wr.heap[k]? := fun k hk hc =>
  (Deep.blk_setCell_other _ _ _ _ hc).trans (G.blk k (by omega) (fun e => by have := hv k e; omega))

theorem QInv.addL (I : QInv wr C B a lv gv ov ls gs os) {g' cap' : Nat} {x y : Int} (own' : wr'.ownsRow B 54 2 (.slice (some ⟨g', 0, none⟩) (ls.length + 1) cap') (ls.length + 1) (flat ls ++ [.int .i64 x, .int .i64 y])) (G : Grew wr wr' lv g') :
    QInv (wr'.setCell ⟨C, 1, none⟩ (.slice (some ⟨g', 0, none⟩) (ls.length + 1) cap')) C B a (.slice (some ⟨g', 0, none⟩) (ls.length + 1) cap') gv ov (ls ++ [(x, y)]) gs os := by
  have h1 := I.cb
  have h2 := I.bs
  have hs := G.grow.size
  refine ⟨I.cb, by rw [Deep.nblk_setCell]; omega, blk_set ((G.blk C (by omega) (fun e => by have := (I.ownL.lt _ e).1; omega)).trans I.boxC) _ _, ?_, own_setQ h1 (own_far I.ownG G (fun q e e' => I.lg q e' e)) _ _, own_setQ h1 (own_far I.ownO G (fun q e e' => I.lo q e' e)) _ _, ?_, ?_, I.go'⟩
  · rw [flat_snoc, List.length_append]; exact own_setQ h1 own' _ _
  · intro q hq
    simp only [Value.ownBlock, Option.some.injEq] at hq
    subst hq
    exact apart I.ownG G (fun q e e' => I.lg q e' e)
  · intro q hq
    simp only [Value.ownBlock, Option.some.injEq] at hq
    subst hq
    exact apart I.ownO G (fun q e e' => I.lo q e' e)
theorem QInv.addG (I : QInv wr C B a lv gv ov ls gs os) {g' cap' : Nat} {x y : Int} (own' : wr'.ownsRow B 56 2 (.slice (some ⟨g', 0, none⟩) (gs.length + 1) cap') (gs.length + 1) (flat gs ++ [.int .i64 x, .int .i64 y])) (G : Grew wr wr' gv g') :
    QInv (wr'.setCell ⟨C, 2, none⟩ (.slice (some ⟨g', 0, none⟩) (gs.length + 1) cap')) C B a lv (.slice (some ⟨g', 0, none⟩) (gs.length + 1) cap') ov ls (gs ++ [(x, y)]) os := by
  have h1 := I.cb
  have h2 := I.bs
  have hs := G.grow.size
  refine ⟨I.cb, by rw [Deep.nblk_setCell]; omega, blk_set ((G.blk C (by omega) (fun e => by have := (I.ownG.lt _ e).1; omega)).trans I.boxC) _ _, own_setQ h1 (own_far I.ownL G I.lg) _ _, ?_, own_setQ h1 (own_far I.ownO G (fun q e e' => I.go' q e' e)) _ _, ?_, I.lo, ?_⟩
  · rw [flat_snoc, List.length_append]; exact own_setQ h1 own' _ _
  · intro q hq e
    simp only [Value.ownBlock, Option.some.injEq] at e
    subst e
    exact apart I.ownL G I.lg hq
  · intro q hq
    simp only [Value.ownBlock, Option.some.injEq] at hq
    subst hq
    exact apart I.ownO G (fun q e e' => I.go' q e' e)
theorem QInv.addO (I : QInv wr C B a lv gv ov ls gs os) {g' cap' : Nat} {x : Int} (own' : wr'.ownsRow B 3 1 (.slice (some ⟨g', 0, none⟩) (os.length + 1) cap') (os.length + 1) (ivs os ++ [.int .i64 x])) (G : Grew wr wr' ov g') :
    QInv (wr'.setCell ⟨C, 3, none⟩ (.slice (some ⟨g', 0, none⟩) (os.length + 1) cap')) C B a lv gv (.slice (some ⟨g', 0, none⟩) (os.length + 1) cap') ls gs (os ++ [x]) := by
  have h1 := I.cb
  have h2 := I.bs
  have hs := G.grow.size
  refine ⟨I.cb, by rw [Deep.nblk_setCell]; omega, blk_set ((G.blk C (by omega) (fun e => by have := (I.ownO.lt _ e).1; omega)).trans I.boxC) _ _, own_setQ h1 (own_far I.ownL G I.lo) _ _, own_setQ h1 (own_far I.ownG G I.go') _ _, ?_, I.lg, ?_, ?_⟩
  · rw [ivs_snoc, List.length_append]; exact own_setQ h1 own' _ _
  · intro q hq e
    simp only [Value.ownBlock, Option.some.injEq] at e
    subst e
    exact apart I.ownL G I.lo hq
  · intro q hq e
    simp only [Value.ownBlock, Option.some.injEq] at e
    subst e
    exact apart I.ownG G I.go' hq
end

end Go.Proofs.YtgpaajdfkekjiaaGreatDoor
