/-
  What Of of package compare keeps between two turns.
-/
import Derived.Test.YtgpaajdfkekjiaaGreatDoorCmpIJ
namespace Go.Proofs.YtgpaajdfkekjiaaGreatDoor
open Go.RowKit

theorem pow_wrap (n : Nat) (h : n ≤ 4) : wrap64 ((2 : Int) ^ n) = ((2 ^ n : Nat) : Int) := by
  have h5 : n = 0 ∨ n = 1 ∨ n = 2 ∨ n = 3 ∨ n = 4 := by omega
  rcases h5 with h | h | h | h | h <;> subst h <;> simp [wrap64]
theorem pow_wrap2 (n : Nat) (h : n ≤ 4) : IntKind.i64.wrap ((2 : Int) ^ n) = ((2 ^ n : Nat) : Int) := by
  have h5 : n = 0 ∨ n = 1 ∨ n = 2 ∨ n = 3 ∨ n = 4 := by omega
  rcases h5 with h | h | h | h | h <;> subst h <;> decide
/-- The pairs that are known. -/
def KnownAt (w : World) (b : Nat) (L : List (Nat × Nat)) : Prop :=
  ∃ cs, w.heap[b]? = some (.cells cs 145 (0, 0)) ∧ cs.size = 256 ∧ ∀ p q, p < 16 → q < 16 → cs[p * 16 + q]? = some (.bool (decide ((p, q) ∈ L)))
theorem zeroPairs : Tryz.zeroCells145 = Array.replicate 256 (.bool false) := by kernel_rfl
theorem KnownAt.block {w w' : World} {b : Nat} {L : List (Nat × Nat)} (h : KnownAt w b L) (hb : w'.heap[b]? = w.heap[b]?) : KnownAt w' b L := by
  obtain ⟨cs, h1, h2⟩ := h
  exact ⟨cs, hb.trans h1, h2⟩
theorem KnownAt.get {w : World} {b : Nat} {L : List (Nat × Nat)} (h : KnownAt w b L) {p q : Nat} (hp : p < 16) (hq : q < 16) : w.cell? ⟨b, p * 16 + q, none⟩ = some (.bool (decide ((p, q) ∈ L))) := by
  obtain ⟨cs, h1, _, h3⟩ := h
  rw [cell_of_row _ _ _ _ _ _ h1]; exact h3 p q hp hq
theorem KnownAt.frz {w : World} {b : Nat} {L : List (Nat × Nat)} (h : KnownAt w b L) (k : Nat) : w.frozen? ⟨b, k, none⟩ = false := by
  obtain ⟨cs, h1, _⟩ := h
  exact frozen_of_row _ _ _ _ _ h1
theorem KnownAt.add {w : World} {b : Nat} {L : List (Nat × Nat)} (h : KnownAt w b L) {p q : Nat} (hp : p < 16) (hq : q < 16) : KnownAt (w.setCell ⟨b, p * 16 + q, none⟩ (.bool true)) b (L ++ [(p, q)]) := by
  obtain ⟨cs, h1, h2, h3⟩ := h
  refine ⟨_, blk_set h1 _ _, by simpa using h2, fun p' q' hp' hq' => ?_⟩
  rw [Array.getElem?_setIfInBounds]
  by_cases e : p * 16 + q = p' * 16 + q'
  · have e1 : p = p' := by omega
    have e2 : q = q' := by omega
    subst e1 e2
    rw [if_pos rfl, if_pos (by omega)]
    simp
  · rw [if_neg e, h3 p' q' hp' hq']
    have : (p', q') ≠ (p, q) := fun h => e (by rw [Prod.mk.injEq] at h; omega)
    simp [this]

theorem WaysAt.form {M : Duo} {B P : Nat} {w : World} {hv : Value} {es : List (List Nat × Value)} (h : WaysAt M B w P hv es) : ∃ a c, hv = .slice a es.length c := by
  rcases h.own.2 with ⟨h1, h2⟩ | ⟨g, cap, cur, hv', _⟩
  · exact ⟨none, 0, by rw [h1, h2]⟩
  · exact ⟨_, _, hv'⟩
theorem WaysAt.blocks {M : Duo} {B P : Nat} {w : World} {hv : Value} {es : List (List Nat × Value)} (h : WaysAt M B w P hv es) {k : Nat} (hk : heapBlocks P hv k) : B ≤ k ∧ k < w.heap.size := by
  rcases hk with rfl | hk
  · exact ⟨h.lo, h.lt⟩
  · exact h.own.lt k hk

/-- Inputs stay where they are while the heap grows. -/
theorem InAt.push {w w' : World} {B P : Nat} {hv hv' : Value} {v : Value} {u : List Nat} (h : InAt w (inX B P hv) v u) (K : Keeps (heapBlocks P hv) w w') (hn : ∀ q, hv'.ownBlock = some q → hv.ownBlock = some q ∨ w.heap.size ≤ q) : InAt w' (inX B P hv') v u := by
  have h1 := h.keeps K (fun _ h => .inl h)
  obtain ⟨a, c, e, hi, hl, hz, hb, ho⟩ := h1
  refine ⟨a, c, e, hi, hl, hz, (fun b eb => ⟨fun hh => ?_, (hb b eb).2⟩), ho⟩
  rcases hh with (hh | hh) | hh
  · exact (hb b eb).1 (.inl (.inl hh))
  · rcases hn _ hh with h2 | h2
    · exact (hb b eb).1 (.inl (.inr h2))
    · obtain ⟨a', c', e', _, _, _, hb', _⟩ := h
      rw [e] at e'
      simp only [Value.slice.injEq] at e'
      have := (hb' b (by rw [← e'.1]; exact eb)).2
      omega
  · exact (hb b eb).1 (.inr hh)

theorem InAt.notX {w : World} {X : Nat → Prop} {v : Value} {u : List Nat} (h : InAt w X v u) {q : Nat} (hq : v.ownBlock = some q) : ¬ X q := by
  obtain ⟨a, c, e, hi, hl, hz, hb, ho⟩ := h
  rcases ho.2 with ⟨h', _⟩ | ⟨g, cap, cur, h', _⟩
  · rw [h'] at hq; cases hq
  · rw [h'] at hq
    simp only [Value.ownBlock, Option.some.injEq] at hq
    rw [h'] at e
    simp only [Value.slice.injEq] at e
    have := (hb _ e.1.symm).1
    rw [← hq]; exact this
theorem InAt.ltSize {w : World} {X : Nat → Prop} {v : Value} {u : List Nat} (h : InAt w X v u) {q : Nat} (hq : v.ownBlock = some q) : q < w.heap.size := by
  obtain ⟨a, c, e, hi, hl, hz, hb, ho⟩ := h
  exact (ho.lt q hq).2
theorem InAt.owned {w w' : World} {X : Nat → Prop} {v : Value} {u : List Nat} {B : Nat} (h : InAt w X v u) (hX : ∀ k, k < B → X k) (hw : ∀ q, v.ownBlock = some q → w'.heap[q]? = w.heap[q]?) : w'.ownsRow B 3 1 v u.length (ivals u) := by
  have hn : ∀ q, v.ownBlock = some q → B ≤ q := fun q hq => Nat.le_of_not_lt (fun hl => h.notX hq (hX q hl))
  obtain ⟨a, c, e, hi, hl, hz, hb, ho⟩ := h
  refine ⟨ho.1, ?_⟩
  rcases ho.2 with h' | ⟨g, cap, cur, h', _, hr, hrest⟩
  · exact .inl h'
  · exact .inr ⟨g, cap, cur, h', hn g (by rw [h']; rfl), by rw [hw g (by rw [h']; rfl)]; exact hr, hrest⟩

/-- Between two turns: E was gone on from; es is still to be looked at. -/
structure OfInv (M : Duo) (A P : Nat) (bA bB : Array Value) (w wr : World) (hv : Value) (E : List (List Nat)) (es : List (List Nat × Value)) : Prop where
  pq : M.PQ (keysE es) E
  heap : IsHeap (keysE es) es.length
  ways : WaysAt M (A + 4) wr P hv es
  known : KnownAt wr (A + 3) (E.map M.run)
  bxA : wr.heap[A]? = some (.cells bA 34 (0, 0))
  bxB : wr.heap[A + 1]? = some (.cells bB 34 (0, 0))
  bxR : wr.heap[A + 1 + 1]? = some (.cells #[.bool false, .int .i64 0, .slice none 0 0, .int .i64 0] 82 (0, 0))
  bel : Below A w wr
  sz : A + 4 ≤ wr.heap.size

section
variable {M : Duo} {A P : Nat} {bA bB : Array Value} {w wr : World} {hv : Value} {E : List (List Nat)} {es : List (List Nat × Value)}
theorem OfInv.few (h : OfInv M A P bA bB w wr hv E es) (hs : M.Small) : E.length ≤ 256 := h.pq.few hs
theorem OfInv.len (h : OfInv M A P bA bB w wr hv E es) (hs : M.Small) (hK : M.K ≤ 16) : es.length ≤ 4097 := by have := h.pq.room hs hK; rwa [keysE_len] at this
theorem OfInv.good (h : OfInv M A P bA bB w wr hv E es) (hs : M.Small) (hK : M.K ≤ 16) : GoodW es := fun e he => by
  have hm : e.1 ∈ keysE es := List.mem_map.2 ⟨e, he, rfl⟩
  have h1 := h.pq.len e.1 hm
  have h2 := h.few hs
  exact ⟨Duo.dig_of_valid hK (h.pq.valid e.1 hm), by omega⟩
/-- A change in the heap's blocks, and new blocks, leave the boxes. -/
theorem OfInv.boxes (h : OfInv M A P bA bB w wr hv E es) {w' : World} (K : Keeps (heapBlocks P hv) wr w') : KnownAt w' (A + 3) (E.map M.run) ∧ w'.heap[A]? = some (.cells bA 34 (0, 0)) ∧ w'.heap[A + 1]? = some (.cells bB 34 (0, 0)) ∧
    w'.heap[A + 1 + 1]? = some (.cells #[.bool false, .int .i64 0, .slice none 0 0, .int .i64 0] 82 (0, 0)) ∧ Below A w w' ∧ A + 4 ≤ w'.heap.size := by
  have hn : ∀ k, k < A + 4 → ¬ heapBlocks P hv k := fun k hk hb => by have := (h.ways.blocks hb).1; omega
  have hs := h.sz
  have hb : ∀ k, k < A + 4 → w'.heap[k]? = wr.heap[k]? := fun k hk => K.block k (by omega) (hn k hk)
  refine ⟨h.known.block (hb _ (by omega)), (hb _ (by omega)).trans h.bxA, (hb _ (by omega)).trans h.bxB, (hb _ (by omega)).trans h.bxR, ⟨K.os.trans h.bel.os, K.tape.trans h.bel.tape, K.output.trans h.bel.output, Nat.le_trans h.bel.size K.size, fun k hk => (hb k (by omega)).trans (h.bel.block k hk)⟩, Nat.le_trans hs K.size⟩
end

theorem WaysAt.keepsLow {M : Duo} {B P : Nat} {w w' : World} {hv : Value} {es : List (List Nat × Value)} {S : Nat → Prop} (h : WaysAt M B w P hv es) (K : Keeps S w w') (hS : ∀ k, S k → k < B) : WaysAt M B w' P hv es := by
  have hP := K.block P h.lt (fun hs => by have := hS P hs; have := h.lo; omega)
  refine ⟨h.lo, Nat.lt_of_lt_of_le h.lt K.size, (World.cell?_of_block (w := w) hP).trans h.cell, (World.frozen?_of_block (w := w) hP).trans h.frz, own_blocks h.own (fun q hq => K.block q (h.own.lt q hq).2 (fun hs => by have := hS q hs; have := (h.own.lt q hq).1; omega)), h.ap, fun e he => (h.ins e he).keeps K (fun k hk => .inr (hS k hk))⟩

/-- While a pair is gone on from: the inputs ahead of k are done. -/
structure InnInv (M : Duo) (A P b8 : Nat) (bA bB c8 : Array Value) (w wi : World) (hv : Value) (E : List (List Nat)) (es1 : List (List Nat × Value)) (x : List Nat) (vx : Value) (k : Nat) (es2 : List (List Nat × Value)) : Prop where
  perm : (keysE es2).Perm (keysE es1 ++ Duo.kids x k)
  heap : IsHeap (keysE es2) es2.length
  ways : WaysAt M (A + 4) wi P hv es2
  inx : InAt wi (inX (A + 4) P hv) vx x
  nb8 : hv.ownBlock ≠ some b8
  known : KnownAt wi (A + 3) (E.map M.run)
  bxA : wi.heap[A]? = some (.cells bA 34 (0, 0))
  bxB : wi.heap[A + 1]? = some (.cells bB 34 (0, 0))
  bxR : wi.heap[A + 1 + 1]? = some (.cells #[.bool false, .int .i64 0, .slice none 0 0, .int .i64 0] 82 (0, 0))
  bx8 : wi.heap[b8]? = some (.cells c8 148 (0, 0))
  bel : Below A w wi
  s8 : A + 4 ≤ b8
  t8 : b8 < wi.heap.size
  pb : P ≠ b8
theorem InnInv.next {M : Duo} {A P b8 : Nat} {bA bB c8 : Array Value} {w wi wf wp : World} {hv hv' : Value} {E : List (List Nat)} {es1 es2 es' : List (List Nat × Value)} {x : List Nat} {vx v' : Value} {k : Nat} (I : InnInv M A P b8 bA bB c8 w wi hv E es1 x vx k es2)
    (bf : Below wi.heap.size wi wf) (hp : es'.Perm (es2 ++ [(x ++ [k], v')])) (ways' : WaysAt M (A + 4) wp P hv' es') (heap' : IsHeap (keysE es') es'.length) (K : Keeps (heapBlocks P hv) wf wp) (hn : ∀ q, hv'.ownBlock = some q → hv.ownBlock = some q ∨ wf.heap.size ≤ q) :
    InnInv M A P b8 bA bB c8 w wp hv' E es1 x vx (k + 1) es' := by
  have t8 := I.t8
  have s8 := I.s8
  have hsz := bf.size
  have hblk : ∀ j, j < wi.heap.size → ¬ heapBlocks P hv j → wp.heap[j]? = wi.heap[j]? := fun j hj hb => (K.block j (by omega) hb).trans (bf.block j hj)
  have hlow : ∀ j, j < A + 4 → ¬ heapBlocks P hv j := fun j hj hb => by have := (I.ways.blocks hb).1; omega
  have h8 : ¬ heapBlocks P hv b8 := fun hb => by
    rcases hb with hb | hb
    · exact I.pb hb.symm
    · exact I.nb8 hb
  refine ⟨?_, heap', ways', (I.inx.below bf).push K hn, ?_, I.known.block (hblk _ (by omega) (hlow _ (by omega))), (hblk _ (by omega) (hlow _ (by omega))).trans I.bxA, (hblk _ (by omega) (hlow _ (by omega))).trans I.bxB, (hblk _ (by omega) (hlow _ (by omega))).trans I.bxR, (hblk _ t8 h8).trans I.bx8, ?_, s8, by have := K.size; omega, I.pb⟩
  · have h1 : (keysE es').Perm (keysE es2 ++ [x ++ [k]]) := by
      have := hp.map Prod.fst
      rw [List.map_append] at this
      exact this
    refine h1.trans ?_
    rw [Duo.kids_succ, ← List.append_assoc]
    exact I.perm.append_right _
  · intro e
    rcases hn b8 e with h | h
    · exact I.nb8 h
    · omega
  · exact ⟨K.os.trans (bf.os.trans I.bel.os), K.tape.trans (bf.tape.trans I.bel.tape), K.output.trans (bf.output.trans I.bel.output), Nat.le_trans I.bel.size (Nat.le_trans hsz K.size), fun j hj => (hblk j (by omega) (hlow j (by omega))).trans (I.bel.block j hj)⟩

set_option maxHeartbeats 1000000 in
theorem ans_results {w : World} {b : Nat} {tmps : Array Value} {v0 v1 v2 v3 : Value} (h : w.heap[b]? = some (.cells #[v0, v1, v2, v3] 82 (0, 0)))
    (h4 : tmps[4]?.getD undef = .pointer (some ⟨b, 0, none⟩)) :
    (results Tryz.f60 tmps).run Tryz.prog w = .ok (.agg #[v0, v1, v2, v3]) w := by
  have c0 : w.cell? ⟨b, 0, none⟩ = some v0 := by rw [cell_of_row _ _ _ _ _ _ h]; rfl
  have c1 : w.cell? ⟨b, 1, none⟩ = some v1 := by rw [cell_of_row _ _ _ _ _ _ h]; rfl
  have c2 : w.cell? ⟨b, 2, none⟩ = some v2 := by rw [cell_of_row _ _ _ _ _ _ h]; rfl
  have c3 : w.cell? ⟨b, 3, none⟩ = some v3 := by rw [cell_of_row _ _ _ _ _ _ h]; rfl
  simp [results, Tryz.results60, go_sem, h4, c0, c1, c2, c3]
theorem ans_close {tmps : Array Value} {Q : Ending → World → Prop} {w : World} {b : Nat} {v0 v1 v2 v3 : Value} (h : w.heap[b]? = some (.cells #[v0, v1, v2, v3] 82 (0, 0)))
    (h4 : tmps[4]?.getD undef = .pointer (some ⟨b, 0, none⟩)) (hQ : Q (.returned (.agg #[v0, v1, v2, v3])) w) :
    bodyPost Tryz.prog Tryz.f60 Q Exit.ret ⟨tmps, []⟩ w := bodyPost_ret (ans_results h h4) rfl hQ

/-- What Of answers. -/
def OfRes (M : Duo) (w : World) (r : Ending) (w' : World) : Prop :=
  ∃ (same : Bool) (reached : Nat) (trace : List Nat) (d : Nat) (tv : Value), M.Says same reached trace d ∧ r = .returned (.agg #[.bool same, .int .i64 reached, tv, .int .i64 ((if same then 0 else tzN d : Nat) : Int)]) ∧
    w'.ownsRow w.heap.size 3 1 tv trace.length (ivals trace) ∧ trace.length ≤ 256 ∧ Below w.heap.size w w'

end Go.Proofs.YtgpaajdfkekjiaaGreatDoor
