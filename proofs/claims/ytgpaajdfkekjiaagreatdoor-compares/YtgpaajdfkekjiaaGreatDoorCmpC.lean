/-
  Push and Pop of package compare's ways.
-/
import Derived.Test.YtgpaajdfkekjiaaGreatDoorCmpB
import Derived.Test.YtgpaajdfkekjiaaGreatDoorLast
import Derived.Deep.RegionWith
namespace Go.Proofs.YtgpaajdfkekjiaaGreatDoor
open Go.RowKit

theorem Tryz.infoWay : (Tryz.prog.info? 148).map (fun i => (i.zero, i.size, i.bytes)) = some (some (.agg #[.slice none 0 0, .int .i64 0, .int .i64 0, .int .i64 0]), 4, 48) := by kernel_rfl
theorem Tryz.asWay (v : Value) (w : World) : (Instr.typeAssert (.iface 148 v) 20 148 false).run Tryz.prog w = .ok v w := by kernel_rfl
/-- A way as a value. -/
def wayV (M : Duo) (e : List Nat × Value) : Value := .agg #[e.2, .int .i64 ((M.run e.1).1 : Nat), .int .i64 ((M.run e.1).2 : Nat), .int .i64 (M.difL e.1 : Nat)]
theorem news4 (w : World) (a b c d : Value) (t : TypeId) : ∀ j x, [a, b, c, d][j]? = some x → (w.alloc (.cells #[a, b, c, d] t)).drew.cell? ((⟨w.heap.size, 0, none⟩ : Addr).add j) = some x :=
  fun j x hx => World.news_of_block (w := (w.alloc (.cells #[a, b, c, d] t)).drew) (heap_alloc_new w _) j x hx

/-- One way more. -/
theorem WaysAt.more {M : Duo} {B P : Nat} {w w1 W : World} {hv : Value} {es : List (List Nat × Value)} (h : WaysAt M B w P hv es) (hW : Below w.heap.size w W) (e : List Nat × Value) (he : InAt w (inX B P hv) e.2 e.1) {g' cap' : Nat}
    (own1 : w1.ownsRow B 148 4 (.slice (some ⟨g', 0, none⟩) (es.length + 1) cap') (es.length + 1) (rowW M es ++ wayL M e)) (G : Grew W w1 hv g') :
    WaysAt M B (w1.setCell ⟨P, 0, none⟩ (.slice (some ⟨g', 0, none⟩) (es.length + 1) cap')) P (.slice (some ⟨g', 0, none⟩) (es.length + 1) cap') (es ++ [e]) ∧ Keeps (heapBlocks P hv) w (w1.setCell ⟨P, 0, none⟩ (.slice (some ⟨g', 0, none⟩) (es.length + 1) cap')) := by
  have hPW : P < W.heap.size := Nat.lt_of_lt_of_le h.lt hW.size
  have hg : g' ≠ P := by
    rcases G.hat with e1 | e1
    · exact fun e2 => h.ap (by rw [e1, e2])
    · omega
  have hs1 := G.grow.size
  have hbP : w1.heap[P]? = w.heap[P]? := (G.blk P hPW h.ap).trans (hW.block P h.lt)
  have cP : w1.cell? ⟨P, 0, none⟩ = some hv := (World.cell?_of_block (w := w) hbP).trans h.cell
  have fP : w1.frozen? ⟨P, 0, none⟩ = false := (World.frozen?_of_block (w := w) hbP).trans h.frz
  obtain ⟨w2, hw2⟩ : ∃ w2, w2 = w1.setCell ⟨P, 0, none⟩ (.slice (some ⟨g', 0, none⟩) (es.length + 1) cap') := ⟨_, rfl⟩
  have sz2 : w2.heap.size = w1.heap.size := by rw [hw2, Deep.nblk_setCell]
  have ob : ∀ k, k ≠ P → w2.heap[k]? = w1.heap[k]? := fun k hk => by rw [hw2]; exact Deep.blk_setCell_other _ _ _ _ hk
  have K : Keeps (heapBlocks P hv) w w2 := by
    refine ⟨?_, ?_, ?_, by rw [sz2]; exact Nat.le_trans hW.size hs1, fun k hk hn => ?_⟩
    · rw [hw2]; exact G.grow.os.trans hW.os
    · rw [hw2]; exact G.grow.tape.trans hW.tape
    · rw [hw2]; exact G.grow.output.trans hW.output
    · rw [ob k (fun e => hn (.inl e)), G.blk k (Nat.lt_of_lt_of_le hk hW.size) (fun e => hn (.inr e)), hW.block k hk]
  have cell2 : w2.cell? ⟨P, 0, none⟩ = some (.slice (some ⟨g', 0, none⟩) (es.length + 1) cap') := by rw [hw2]; exact World.cell?_setCell_same _ _ _ cP
  have frz2 : w2.frozen? ⟨P, 0, none⟩ = false := by rw [hw2, World.frozen?_setCell]; exact fP
  have own2 : w2.ownsRow B 148 4 (.slice (some ⟨g', 0, none⟩) (es.length + 1) cap') (es.length + 1) (rowW M es ++ wayL M e) := own_blocks own1 (fun q hq => ob q (by simp only [Value.ownBlock, Option.some.injEq] at hq; omega))
  rw [← hw2]
  clear hw2
  have up : ∀ x : List Nat × Value, InAt w (inX B P hv) x.2 x.1 → InAt w2 (inX B P (.slice (some ⟨g', 0, none⟩) (es.length + 1) cap')) x.2 x.1 := fun x hx => by
    obtain ⟨a, c, hv', hi, hl, hn, hb, ho⟩ := hx.keeps K (fun _ h => .inl h)
    refine ⟨a, c, hv', hi, hl, hn, (fun b eb => ⟨fun hh => ?_, (hb b eb).2⟩), ho⟩
    rcases hh with (hh | hh) | hh
    · exact (hb b eb).1 (.inl (.inl hh))
    · simp only [Value.ownBlock, Option.some.injEq] at hh
      rcases G.hat with e1 | e1
      · exact (hb b eb).1 (.inl (.inr (by rw [e1, hh])))
      · obtain ⟨a', _, hv2, _, _, _, hb0, _⟩ := hx
        rw [hv'] at hv2
        simp only [Value.slice.injEq] at hv2
        have := (hb0 b (by rw [← hv2.1]; exact eb)).2
        have := hW.size
        omega
    · exact (hb b eb).1 (.inr hh)
  refine ⟨⟨h.lo, by rw [sz2]; omega, cell2, frz2, ?_, ?_, fun x hx => ?_⟩, K⟩
  · rw [rowW_snoc, List.length_append]; exact own2
  · simp only [Value.ownBlock, ne_eq, Option.some.injEq]; exact hg
  · rcases List.mem_append.1 hx with hx | hx
    · exact up x (h.ins x hx)
    · simp at hx; subst hx; exact up x he

set_option maxHeartbeats 2000000 in
set_option maxRecDepth 100000 in
theorem push_any (M : Duo) (B P : Nat) (hv : Value) (es : List (List Nat × Value)) (e : List Nat × Value) (w : World) (h : WaysAt M B w P hv es) (he : InAt w (inX B P hv) e.2 e.1) (hn : es.length ≤ 10000) (hB : B ≤ w.heap.size) :
    Calls Tryz.prog 177 #[.pointer (some ⟨P, 0, none⟩), .iface 148 (wayV M e)] w fun r w' => r = .returned (.tuple #[]) ∧ ∃ hv', (WaysAt M B w' P hv' (es ++ [e]) ∧ ∀ q, hv'.ownBlock = some q → hv.ownBlock = some q ∨ w.heap.size ≤ q) ∧ Keeps (heapBlocks P hv) w w' := by
  obtain ⟨iW, hiW, zW0, zW1, zW2⟩ := info_parts Tryz.infoWay
  obtain ⟨ve, hve⟩ : ∃ v, v = e.2 := ⟨_, rfl⟩
  obtain ⟨ae, hae⟩ : ∃ x : Nat, x = (M.run e.1).1 := ⟨_, rfl⟩
  obtain ⟨be, hbe⟩ : ∃ x : Nat, x = (M.run e.1).2 := ⟨_, rfl⟩
  obtain ⟨de, hde⟩ : ∃ x : Nat, x = M.difL e.1 := ⟨_, rfl⟩
  obtain ⟨av, lv, cv, rfl⟩ : ∃ a n c, ve = .slice a n c := by obtain ⟨a, c, e2, _⟩ := he; exact ⟨a, _, c, hve.trans e2⟩
  have eV : wayV M e = .agg #[.slice av lv cv, .int .i64 ae, .int .i64 be, .int .i64 de] := by unfold wayV; rw [← hve, ← hae, ← hbe, ← hde]
  have eL : wayL M e = [.slice av lv cv, .int .i64 ae, .int .i64 be, .int .i64 de] := by unfold wayL; rw [← hve, ← hae, ← hbe, ← hde]
  rw [eV]
  have HL := hideW eL
  clear eL eV hve hae hbe hde
  have cP := h.cell
  have fP := h.frz
  have hP := h.lt
  have own := h.own
  have hAs := Tryz.asWay (.agg #[.slice av lv cv, .int .i64 ae, .int .i64 be, .int .i64 de])
  go_enter Tryz.func177, Tryz.ntmps177
  go_wp2_with fail
  refine wp_region_noPanic ?_
  refine wp_region_last (by kernel_rfl) (by kernel_rfl) ?_
  simp only [List.pop_toArray, List.dropLast_cons_cons, List.dropLast_singleton, List.size_toArray, List.length_cons, List.length_nil, Nat.zero_add, Nat.reduceAdd]
  refine wpAny_of_held (S := fun w' => w'.cell? ⟨P, 0, none⟩ = some hv) _ _ _ _ ?_
  have hHeld : (fun w' : World => w'.cell? ⟨P, 0, none⟩ = some hv) w.drew := cP
  refine wpAnyH_take (i := 0) (v := ?_) (by simp only [List.getElem?_toArray, List.getElem?_cons_zero]; rfl) (by kernel_rfl) (by kernel_rfl) (by kernel_rfl) (fun _ _ _ h => h) (Or.inl ⟨by rfl, ?_⟩) hHeld ?_
  rotate_left 1
  · (intro w0 hSw; (try dsimp only at hSw); go_simp; try (with_reducible rfl))
  simp only [Act.put, List.setIfInBounds_toArray, List.set_cons_zero, List.set_cons_succ]
  refine wpAnyH_take (i := 1) (v := ?_) (by simp only [List.getElem?_toArray, List.getElem?_cons_succ, List.getElem?_cons_zero]; rfl) (by kernel_rfl) (by kernel_rfl) (by kernel_rfl) (fun _ _ _ h => h) (Or.inl ⟨by rfl, ?_⟩) hHeld ?_
  rotate_left 1
  · (intro w0 hSw; (try dsimp only at hSw); go_simp; try (with_reducible rfl))
  simp only [Act.put, List.setIfInBounds_toArray, List.set_cons_zero, List.set_cons_succ]
  refine wpAnyH_take (i := 2) (v := ?_) (by simp only [List.getElem?_toArray, List.getElem?_cons_succ, List.getElem?_cons_zero]; rfl) (by kernel_rfl) (by kernel_rfl) (by kernel_rfl) (fun _ _ _ h => h) (Or.inl ⟨by rfl, ?_⟩) hHeld ?_
  rotate_left 1
  · (intro w0 hSw; (try dsimp only at hSw); go_simp; try (with_reducible rfl))
  simp only [Act.put, List.setIfInBounds_toArray, List.set_cons_zero, List.set_cons_succ]
  refine wpAnyH_take (i := 3) (v := ?_) (by simp only [List.getElem?_toArray, List.getElem?_cons_succ, List.getElem?_cons_zero]; rfl) (by kernel_rfl) (by kernel_rfl) (by kernel_rfl) (fun _ _ _ h => h) (Or.inl ⟨by rfl, ?_⟩) hHeld ?_
  rotate_left 1
  · (intro w0 hSw; (try dsimp only at hSw); go_simp; try (with_reducible rfl))
  simp only [Act.put, List.setIfInBounds_toArray, List.set_cons_zero, List.set_cons_succ]
  refine wpAnyH_take (i := 4) (v := ?_) (by simp only [List.getElem?_toArray, List.getElem?_cons_succ, List.getElem?_cons_zero]; rfl) (by kernel_rfl) (by kernel_rfl) (by kernel_rfl) (fun _ _ _ h => h) (Or.inl ⟨by rfl, ?_⟩) hHeld ?_
  rotate_left 1
  · (intro w0 hSw; (try dsimp only at hSw); go_simp; try (with_reducible rfl))
  simp only [Act.put, List.setIfInBounds_toArray, List.set_cons_zero, List.set_cons_succ]
  refine wpAnyH_take (i := 5) (v := ?_) (by simp only [List.getElem?_toArray, List.getElem?_cons_succ, List.getElem?_cons_zero]; rfl) (by kernel_rfl) (by kernel_rfl) (by kernel_rfl) (fun _ _ _ h => h) (Or.inl ⟨by rfl, ?_⟩) hHeld ?_
  rotate_left 1
  · (intro w0 hSw; (try dsimp only at hSw); go_simp; try (with_reducible rfl))
  simp only [Act.put, List.setIfInBounds_toArray, List.set_cons_zero, List.set_cons_succ]
  refine wpAnyH_ready (rs := [6]) (by kernel_rfl) (by simp) (AllReadyH.cons (by simp only [List.getElem?_toArray, List.getElem?_cons_succ, List.getElem?_cons_zero]; rfl) (fun K hK => ?_) AllReadyH.nil)
  go_simp
  refine hK.out _ _ ?_ (fun hHeld => ?_)
  · simp [go_sem, World.cell?_alloc_past, hP, cP]
  clear hK K
  try simp only [Act.put, List.setIfInBounds_toArray, List.set_cons_zero, List.set_cons_succ]
  refine wpAnyH_ready (rs := [7]) (by kernel_rfl) (by simp) (AllReadyH.cons (by simp only [List.getElem?_toArray, List.getElem?_cons_succ, List.getElem?_cons_zero]; rfl) (fun K hK => ?_) AllReadyH.nil)
  refine step_append_lies _ (by rfl) (.tmp 7) (.tmp 10) 150 (by rfl) B 148 iW (.agg #[.slice none 0 0, .int .i64 0, .int .i64 0, .int .i64 0]) 4 48 Tryz.underlying150 hiW zW0 zW1 zW2 rfl (by omega) hv es.length (rowW M es) (by rfl) ((own.alloc _).drew) ⟨w.heap.size, 0, none⟩ 1 1 [.slice av lv cv, .int .i64 ae, .int .i64 be, .int .i64 de] (by rfl) rfl (news4 _ _ _ _ _ _) (by simp [Value.oneCell']) (by omega) (by unfold maxLen; omega) (by omega) (by simp; omega) _ rfl ?_
  intro g' cap' w1 hown1 hgrow hat hlt1
  have G8 : Grew _ w1 hv g' := ⟨hgrow, hat⟩
  have bW : Below w.heap.size w (w.alloc (.cells #[.slice av lv cv, .int .i64 ae, .int .i64 be, .int .i64 de] 148)).drew := ((Below.refl _ _).alloc (Nat.le_refl _) _).drew
  have hbP : w1.heap[P]? = w.heap[P]? := (G8.blk P (Nat.lt_of_lt_of_le hP bW.size) h.ap).trans (bW.block P hP)
  have cP1 : w1.cell? ⟨P, 0, none⟩ = some hv := (World.cell?_of_block (w := w) hbP).trans cP
  have fP1 : w1.frozen? ⟨P, 0, none⟩ = false := (World.frozen?_of_block (w := w) hbP).trans fP
  rw [← HL.out] at hown1
  have fin := hideW (h.more bW e he hown1 G8)
  have hnew := hideW (show ∀ q, (Value.slice (some ⟨g', 0, none⟩) (es.length + 1) cap').ownBlock = some q → hv.ownBlock = some q ∨ w.heap.size ≤ q from fun q hq => by
    simp only [Value.ownBlock, Option.some.injEq] at hq
    rcases hat with e1 | e1
    · exact .inl (by rw [e1, hq])
    · have := bW.size
      exact .inr (by rw [← hq, e1]; exact this))
  refine hK.out _ _ ?_ (fun hHeld => ?_)
  · exact cP1
  clear hK K
  try simp only [Act.put, List.setIfInBounds_toArray, List.set_cons_zero, List.set_cons_succ]
  refine wpAnyH_take (i := 8) (v := ?_) (by simp only [List.getElem?_toArray, List.getElem?_cons_succ, List.getElem?_cons_zero]; rfl) (by kernel_rfl) (by kernel_rfl) (by kernel_rfl) (fun _ _ _ h => h) (Or.inl ⟨by rfl, ?_⟩) hHeld ?_
  rotate_left 1
  · (intro w0 hSw; (try dsimp only at hSw); go_simp; try (with_reducible rfl))
  simp only [Act.put, List.setIfInBounds_toArray, List.set_cons_zero, List.set_cons_succ]
  refine wpAnyH_done (by kernel_rfl) ?_ _
  refine lastQ_step (by simp only [List.size_toArray, List.length_cons, List.length_nil, Nat.zero_add, Nat.reduceAdd, Nat.reduceSub, List.getElem?_toArray, List.getElem?_cons_succ, List.getElem?_cons_zero]; rfl) (fun K hK => ?_)
  go_simp
  refine hK _ _ (NoPanic.normal ?_)
  clear hK K hHeld
  go_wp2
  go_end0
  exact ⟨rfl, ⟨_, fin.out.1, hnew.out⟩, fin.out.2⟩

end Go.Proofs.YtgpaajdfkekjiaaGreatDoor
