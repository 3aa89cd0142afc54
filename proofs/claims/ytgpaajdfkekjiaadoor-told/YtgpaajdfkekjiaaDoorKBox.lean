/-
  A circuit that is built list by list, in a box: what an append to one of its lists leaves of the rest.
  Small things for circuit of package latchkeep: its results, what it answers.
-/
import Derived.Test.YtgpaajdfkekjiaaDoorBox
import Derived.Test.YtgpaajdfkekjiaaDoorPick
import Derived.Test.YtgpaajdfkekjiaaDoorMem
import Derived.Test.YtgpaajdfkekjiaaDoorLast
import Derived.Deep.RegionWith
import Derived.Handy
namespace Go.Proofs.YtgpaajdfkekjiaaDoor
open Go.RowKit

/-- The circuit stands in block C; its lists lie from block B on, apart. -/
structure LInv (wr : World) (C B : Nat) (a : Value) (lv gv ov : Value) (ls gs : List (Int × Int)) (os : List Int) : Prop where
  cb : C < B
  bs : B ≤ wr.heap.size
  boxC : wr.heap[C]? = some (.cells #[a, lv, gv, ov] 26 (0, 0))
  ownL : wr.ownsRow B 51 2 lv ls.length (flat ls)
  ownG : wr.ownsRow B 53 2 gv gs.length (flat gs)
  ownO : wr.ownsRow B 3 1 ov os.length (ivs os)
  lg : ∀ q, lv.ownBlock = some q → gv.ownBlock ≠ some q
  lo : ∀ q, lv.ownBlock = some q → ov.ownBlock ≠ some q
  go' : ∀ q, gv.ownBlock = some q → ov.ownBlock ≠ some q

section
variable {wr wr' : World} {C B : Nat} {a lv gv ov : Value} {ls gs : List (Int × Int)} {os : List Int}
theorem own_setC {base e size : Nat} {v : Value} {n : Nat} {xs : List Value} (hA : C < base) (h : wr'.ownsRow base e size v n xs) (i : Nat) (x : Value) : (wr'.setCell ⟨C, i, none⟩ x).ownsRow base e size v n xs :=
  own_blocks h (fun q hq => Deep.blk_setCell_other _ _ _ _ (show q ≠ C by have := h.lt q hq; omega))
theorem LInv.alloc (I : LInv wr C B a lv gv ov ls gs os) (o : Obj) : LInv (wr.alloc o) C B a lv gv ov ls gs os :=
  ⟨I.cb, by simp; have := I.bs; omega, alloc_old I.boxC, I.ownL.alloc o, I.ownG.alloc o, I.ownO.alloc o, I.lg, I.lo, I.go'⟩
theorem LInv.drew (I : LInv wr C B a lv gv ov ls gs os) : LInv wr.drew C B a lv gv ov ls gs os := ⟨I.cb, I.bs, I.boxC, I.ownL, I.ownG, I.ownO, I.lg, I.lo, I.go'⟩

theorem keep_far {v : Value} {g' : Nat} (G : Grew wr wr' v g') (hb : B ≤ wr.heap.size) (hv : ∀ q, v.ownBlock = some q → B ≤ q) (i : Nat) (x : Value) : ∀ k, k < B → k ≠ C → (wr'.setCell ⟨C, i, none⟩ x).heap[k]? = wr.heap[k]? := fun k hk hc =>
  (Deep.blk_setCell_other _ _ _ _ hc).trans (G.blk k (by omega) (fun e => by have := hv k e; omega))

theorem LInv.addL (I : LInv wr C B a lv gv ov ls gs os) {g' cap' : Nat} {x y : Int} (own' : wr'.ownsRow B 51 2 (.slice (some ⟨g', 0, none⟩) (ls.length + 1) cap') (ls.length + 1) (flat ls ++ [.int .i64 x, .int .i64 y])) (G : Grew wr wr' lv g') :
    LInv (wr'.setCell ⟨C, 1, none⟩ (.slice (some ⟨g', 0, none⟩) (ls.length + 1) cap')) C B a (.slice (some ⟨g', 0, none⟩) (ls.length + 1) cap') gv ov (ls ++ [(x, y)]) gs os := by
  have h1 := I.cb
  have h2 := I.bs
  have hs := G.grow.size
  refine ⟨I.cb, by rw [Deep.nblk_setCell]; omega, blk_set ((G.blk C (by omega) (fun e => by have := (I.ownL.lt _ e).1; omega)).trans I.boxC) _ _, ?_, own_setC h1 (own_far I.ownG G (fun q e e' => I.lg q e' e)) _ _, own_setC h1 (own_far I.ownO G (fun q e e' => I.lo q e' e)) _ _, ?_, ?_, I.go'⟩
  · rw [flat_snoc, List.length_append]; exact own_setC h1 own' _ _
  · intro q hq
    simp only [Value.ownBlock, Option.some.injEq] at hq
    subst hq
    exact apart I.ownG G (fun q e e' => I.lg q e' e)
  · intro q hq
    simp only [Value.ownBlock, Option.some.injEq] at hq
    subst hq
    exact apart I.ownO G (fun q e e' => I.lo q e' e)
theorem LInv.addG (I : LInv wr C B a lv gv ov ls gs os) {g' cap' : Nat} {x y : Int} (own' : wr'.ownsRow B 53 2 (.slice (some ⟨g', 0, none⟩) (gs.length + 1) cap') (gs.length + 1) (flat gs ++ [.int .i64 x, .int .i64 y])) (G : Grew wr wr' gv g') :
    LInv (wr'.setCell ⟨C, 2, none⟩ (.slice (some ⟨g', 0, none⟩) (gs.length + 1) cap')) C B a lv (.slice (some ⟨g', 0, none⟩) (gs.length + 1) cap') ov ls (gs ++ [(x, y)]) os := by
  have h1 := I.cb
  have h2 := I.bs
  have hs := G.grow.size
  refine ⟨I.cb, by rw [Deep.nblk_setCell]; omega, blk_set ((G.blk C (by omega) (fun e => by have := (I.ownG.lt _ e).1; omega)).trans I.boxC) _ _, own_setC h1 (own_far I.ownL G I.lg) _ _, ?_, own_setC h1 (own_far I.ownO G (fun q e e' => I.go' q e' e)) _ _, ?_, I.lo, ?_⟩
  · rw [flat_snoc, List.length_append]; exact own_setC h1 own' _ _
  · intro q hq e
    simp only [Value.ownBlock, Option.some.injEq] at e
    subst e
    exact apart I.ownL G I.lg hq
  · intro q hq
    simp only [Value.ownBlock, Option.some.injEq] at hq
    subst hq
    exact apart I.ownO G (fun q e e' => I.go' q e' e)
theorem LInv.addO (I : LInv wr C B a lv gv ov ls gs os) {g' cap' : Nat} {x : Int} (own' : wr'.ownsRow B 3 1 (.slice (some ⟨g', 0, none⟩) (os.length + 1) cap') (os.length + 1) (ivs os ++ [.int .i64 x])) (G : Grew wr wr' ov g') :
    LInv (wr'.setCell ⟨C, 3, none⟩ (.slice (some ⟨g', 0, none⟩) (os.length + 1) cap')) C B a lv gv (.slice (some ⟨g', 0, none⟩) (os.length + 1) cap') ls gs (os ++ [x]) := by
  have h1 := I.cb
  have h2 := I.bs
  have hs := G.grow.size
  refine ⟨I.cb, by rw [Deep.nblk_setCell]; omega, blk_set ((G.blk C (by omega) (fun e => by have := (I.ownO.lt _ e).1; omega)).trans I.boxC) _ _, own_setC h1 (own_far I.ownL G I.lo) _ _, own_setC h1 (own_far I.ownG G I.go') _ _, ?_, I.lg, ?_, ?_⟩
  · rw [ivs_snoc, List.length_append]; exact own_setC h1 own' _ _
  · intro q hq e
    simp only [Value.ownBlock, Option.some.injEq] at e
    subst e
    exact apart I.ownL G I.lo hq
  · intro q hq e
    simp only [Value.ownBlock, Option.some.injEq] at e
    subst e
    exact apart I.ownG G I.go' hq
end

/-- The lists that circuit of package latchkeep makes out of raw ones. -/
def kL (raw : List (Int × Int)) (all : Int) (k : Nat) : List (Int × Int) := (List.range k).map fun j => (pickI (raw.getD j (0, 0)).1 all, pickI (raw.getD j (0, 0)).2 2)
def kG (raw : List (Int × Int)) (m : Nat) (k : Nat) : List (Int × Int) := (List.range k).map fun j => (pickI (raw.getD j (0, 0)).1 (2 * ((m : Int) + j)), pickI (raw.getD j (0, 0)).2 (2 * ((m : Int) + j)))
def kO (raw : List Int) (all : Int) (k : Nat) : List Int := (List.range k).map fun j => pickI (raw.getD j 0) all
theorem kL_len (raw : List (Int × Int)) (all : Int) (k : Nat) : (kL raw all k).length = k := by simp [kL]
theorem kG_len (raw : List (Int × Int)) (m k : Nat) : (kG raw m k).length = k := by simp [kG]
theorem kO_len (raw : List Int) (all : Int) (k : Nat) : (kO raw all k).length = k := by simp [kO]
theorem kL_succ (raw : List (Int × Int)) (all : Int) (k : Nat) : kL raw all (k + 1) = kL raw all k ++ [(pickI (raw.getD k (0, 0)).1 all, pickI (raw.getD k (0, 0)).2 2)] := by simp [kL, List.range_succ]
theorem kG_succ (raw : List (Int × Int)) (m k : Nat) : kG raw m (k + 1) = kG raw m k ++ [(pickI (raw.getD k (0, 0)).1 (2 * ((m : Int) + k)), pickI (raw.getD k (0, 0)).2 (2 * ((m : Int) + k)))] := by simp [kG, List.range_succ]
theorem kO_succ (raw : List Int) (all : Int) (k : Nat) : kO raw all (k + 1) = kO raw all k ++ [pickI (raw.getD k 0) all] := by simp [kO, List.range_succ]

/-- They make a right circuit. -/
theorem k_right (N : Nat) (rl rg : List (Int × Int)) (ro : List Int) (l g o : Nat) (hN : N ≤ 4) (hl : l ≤ 4) (hg : g ≤ 30) (ho : o ≤ 4) :
    rightB N (kL rl (2 * (1 + (N : Int) + l + g)) l) (kG rg (1 + N + l) g) (kO ro (2 * (1 + (N : Int) + l + g)) o) = true := by
  simp only [rightB, sizesB, latchesB, gatesB, outsB, Bool.and_eq_true, decide_eq_true_eq, kL_len, kG_len, kO_len]
  refine ⟨⟨⟨⟨⟨⟨inB_mk (by omega) (by omega), inB_mk (by omega) (by omega)⟩, inB_mk (by omega) (by omega)⟩, inB_mk (by omega) (by omega)⟩, fun i hi => ?_⟩, fun i hi => ?_⟩, fun i hi => ?_⟩
  · have e : (kL rl (2 * (1 + (N : Int) + l + g)) l).getD i (0, 0) = (pickI (rl.getD i (0, 0)).1 (2 * (1 + (N : Int) + l + g)), pickI (rl.getD i (0, 0)).2 2) := by simp [kL, hi]
    rw [e]
    have a := pickI_bd (rl.getD i (0, 0)).1 (2 * (1 + (N : Int) + l + g)) (by omega)
    have b := pickI_bd (rl.getD i (0, 0)).2 2 (by omega)
    simp only [latchOk, Bool.and_eq_true]
    exact ⟨inB_mk (by omega) (by omega), inB_mk (by omega) (by omega)⟩
  · have e : (kG rg (1 + N + l) g).getD i (0, 0) = (pickI (rg.getD i (0, 0)).1 (2 * (((1 + N + l : Nat) : Int) + i)), pickI (rg.getD i (0, 0)).2 (2 * (((1 + N + l : Nat) : Int) + i))) := by simp [kG, hi]
    rw [e]
    have a := pickI_bd (rg.getD i (0, 0)).1 (2 * (((1 + N + l : Nat) : Int) + i)) (by omega)
    have b := pickI_bd (rg.getD i (0, 0)).2 (2 * (((1 + N + l : Nat) : Int) + i)) (by omega)
    simp only [gateOk, Bool.and_eq_true]
    exact ⟨inB_mk (by omega) (by omega), inB_mk (by omega) (by omega)⟩
  · have e : (kO ro (2 * (1 + (N : Int) + l + g)) o).getD i 0 = pickI (ro.getD i 0) (2 * (1 + (N : Int) + l + g)) := by simp [kO, hi]
    rw [e]
    have a := pickI_bd (ro.getD i 0) (2 * (1 + (N : Int) + l + g)) (by omega)
    exact inB_mk (by omega) (by omega)

end Go.Proofs.YtgpaajdfkekjiaaDoor

namespace Go.Proofs.YtgpaajdfkekjiaaDoor
open Go.RowKit

theorem hideK {p : Prop} (h : p) : Hid p := h

theorem Tryd.infoLK : (Tryd.prog.info? 51).map (fun i => (i.zero, i.size, i.bytes)) = some (some (.agg #[.int .i64 0, .int .i64 0]), 2, 16) := by kernel_rfl
theorem Tryd.infoGK : (Tryd.prog.info? 53).map (fun i => (i.zero, i.size, i.bytes)) = some (some (.agg #[.int .i64 0, .int .i64 0]), 2, 16) := by kernel_rfl
def FitsK (x : Int) : Prop := -9223372036854775808 ≤ x ∧ x ≤ 9223372036854775807
theorem pick_to {c n p : Int} (w : World) (hc : -9223372036854775808 ≤ c) (hc2 : c ≤ 9223372036854775807) (hn : 1 ≤ n) (hn2 : n ≤ 1000000) (h : pickI c n = p) :
    Calls Tryd.prog 8 #[.int .i64 c, .int .i64 n] w fun e w' => e = .returned (.int .i64 p) ∧ w' = w := by
  subst h; exact pick_any c n w hc hc2 hn hn2
theorem news2 (w : World) (u v : Value) (t : TypeId) : ∀ j x, [u, v][j]? = some x → (w.alloc (.cells #[u, v] t)).drew.cell? ((⟨w.heap.size, 0, none⟩ : Addr).add j) = some x :=
  fun j x hx => World.news_of_block (w := (w.alloc (.cells #[u, v] t)).drew) (heap_alloc_new w _) j x hx
theorem news1K (w : World) (v : Value) (t : TypeId) : ∀ j x, [v][j]? = some x → (w.alloc (.cells #[v] t)).drew.cell? ((⟨w.heap.size, 0, none⟩ : Addr).add j) = some x :=
  fun j x hx => World.news_of_block (w := (w.alloc (.cells #[v] t)).drew) (heap_alloc_new w _) j x hx
/-- What circuit answers. -/
def CircRes (w : World) (N : Nat) (ls gs : List (Int × Int)) (os : List Int) (e : Ending) (w' : World) : Prop :=
  ∃ lv gv ov, e = .returned (.agg #[.int .i64 N, lv, gv, ov]) ∧ w'.ownsRow w.heap.size 51 2 lv ls.length (flat ls) ∧ w'.ownsRow w.heap.size 53 2 gv gs.length (flat gs) ∧ w'.ownsRow w.heap.size 3 1 ov os.length (ivs os) ∧
    (∀ q, lv.ownBlock = some q → gv.ownBlock ≠ some q) ∧ (∀ q, lv.ownBlock = some q → ov.ownBlock ≠ some q) ∧ (∀ q, gv.ownBlock = some q → ov.ownBlock ≠ some q) ∧ Below w.heap.size w w'

set_option maxHeartbeats 1000000 in
theorem circ_results {w : World} {b : Nat} {tmps : Array Value} {v0 v1 v2 v3 : Value} (h : w.heap[b]? = some (.cells #[v0, v1, v2, v3] 26 (0, 0)))
    (h6 : tmps[6]?.getD undef = .pointer (some ⟨b, 0, none⟩)) :
    (results Tryd.f7 tmps).run Tryd.prog w = .ok (.agg #[v0, v1, v2, v3]) w := by
  have c0 : w.cell? ⟨b, 0, none⟩ = some v0 := by rw [cell_of_row _ _ _ _ _ _ h]; rfl
  have c1 : w.cell? ⟨b, 1, none⟩ = some v1 := by rw [cell_of_row _ _ _ _ _ _ h]; rfl
  have c2 : w.cell? ⟨b, 2, none⟩ = some v2 := by rw [cell_of_row _ _ _ _ _ _ h]; rfl
  have c3 : w.cell? ⟨b, 3, none⟩ = some v3 := by rw [cell_of_row _ _ _ _ _ _ h]; rfl
  simp [results, Tryd.results7, go_sem, h6, c0, c1, c2, c3]
theorem circ_close {tmps : Array Value} {Q : Ending → World → Prop} {w : World} {b : Nat} {v0 v1 v2 v3 : Value} (h : w.heap[b]? = some (.cells #[v0, v1, v2, v3] 26 (0, 0)))
    (h6 : tmps[6]?.getD undef = .pointer (some ⟨b, 0, none⟩)) (hQ : Q (.returned (.agg #[v0, v1, v2, v3])) w) :
    bodyPost Tryd.prog Tryd.f7 Q Exit.ret ⟨tmps, []⟩ w := bodyPost_ret (circ_results h h6) rfl hQ

end Go.Proofs.YtgpaajdfkekjiaaDoor
