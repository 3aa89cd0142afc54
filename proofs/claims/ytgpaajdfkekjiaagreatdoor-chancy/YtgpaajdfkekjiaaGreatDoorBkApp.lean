/-
  How a list is put into the book: its owner marks it, appends marks to it three times, and the four lists go into the book.
-/
import Derived.Test.YtgpaajdfkekjiaaGreatDoorBkReads
namespace Go.Proofs.YtgpaajdfkekjiaaGreatDoor
open Go.RowKit

/-- The first k elements of the list V bear the mark f. -/
def MarkUp (E : TypeId) (sz : Nat) (f : Nat → Value) (w : World) (V : Value) (n k : Nat) : Prop :=
  (V = .slice none 0 0 ∧ n = 0) ∨ ∃ g cap F, V = .slice (some ⟨g, 0, none⟩) n cap ∧ w.rowIs g E (cap * sz) F ∧ n ≤ cap ∧ cap ≤ maxLen ∧ ∀ i, i < k * sz → F i = f i

section
variable {E : TypeId} {sz : Nat} {f : Nat → Value} {w w' w0 : World} {V : Value} {n k r : Nat} {es : List Entry}
theorem MarkUp.start {base : Nat} {xs : List Value} (h : w.ownsRow base E sz V n xs) : MarkUp E sz f w V n 0 := by
  rcases h.2 with h | ⟨g, cap, cur, hv, _, hg, hn, hm, hs, _⟩
  · exact .inl h
  · exact .inr ⟨g, cap, fun i => cur[i]?.getD undef, hv, ⟨cur, hg, hs, fun i hi => by simp [Array.getElem?_eq_getElem (show i < cur.size by omega)]⟩, hn, hm, fun i hi => by omega⟩
theorem MarkUp.marked (h : MarkUp E sz f w V n n) : Marked E sz f w V n n := by
  rcases h with ⟨h1, h2⟩ | ⟨g, cap, F, hv, ⟨cur, hg, hs, hc⟩, hn, hm, hF⟩
  · exact .inl ⟨h1, h2, h2⟩
  · refine .inr ⟨g, cap, cur, hv, hg, Nat.le_refl _, hn, hm, hs, fun i hi => ?_⟩
    have : n * sz ≤ cap * sz := Nat.mul_le_mul_right _ hn
    rw [hc i (by omega), hF i hi]
theorem MarkUp.keeps (h : MarkUp E sz f w V n k) (K : Keeps (fun _ => False) w w') : MarkUp E sz f w' V n k := by
  rcases h with h | ⟨g, cap, F, hv, hr, hrest⟩
  · exact .inl h
  · exact .inr ⟨g, cap, F, hv, hr.of_block (K.block g hr.lt (fun h => h)), hrest⟩

/-- Lists that were appended: each is marked, in V's memory or in new memory. -/
structure AppSt (E : TypeId) (sz : Nat) (f : Nat → Value) (w0 : World) (V : Value) (n : Nat) (w : World) (r : Nat) (es : List Entry) : Prop where
  m : Marked E sz f w V n r
  k : Keeps (fun k => V.ownBlock = some k) w0 w
  v : ∀ b, V.ownBlock = some b → b < w0.heap.size
  ents : ∀ e ∈ es, e.len ≤ 1000 ∧ (e.len = 0 ∨ ∃ b, e.a = some ⟨b, 0, none⟩ ∧ ((V.ownBlock = some b ∧ e.len ≤ r) ∨ (w0.heap.size ≤ b ∧ b < w.heap.size ∧ ∀ i, i < e.len * sz → w.cell? ⟨b, i, none⟩ = some (f i))))

theorem AppSt.start {a : Option Addr} {cap : Nat} (h : Marked E sz f w (.slice a n cap) n n) (k : Keeps (fun k => (Value.slice a n cap).ownBlock = some k) w0 w) (v : ∀ b, (Value.slice a n cap).ownBlock = some b → b < w0.heap.size) (hn : n ≤ 1000) :
    AppSt E sz f w0 (.slice a n cap) n w n [⟨a, n, cap⟩] := by
  refine ⟨h, k, v, fun e he => ?_⟩
  simp only [List.mem_cons, List.not_mem_nil, or_false] at he
  subst he
  refine ⟨hn, ?_⟩
  rcases h with ⟨_, h0, _⟩ | ⟨g, cap', cur, hv, _⟩
  · exact .inl h0
  · simp only [Value.slice.injEq] at hv
    exact .inr ⟨g, hv.1, .inl ⟨by rw [hv.1]; rfl, Nat.le_refl _⟩⟩

theorem AppSt.next {o : Obj} {r' k g' cap' : Nat} (h : AppSt E sz f w0 V n w r es) (hg : (w.alloc o).grownBy w' V.ownBlock) (hm : Marked E sz f w' V n r') (hr : r ≤ r') (hn : NewMarks sz f (w.alloc o) w' V k r' g') (hk : k ≤ 1000) :
    AppSt E sz f w0 V n w' r' (es ++ [⟨some ⟨g', 0, none⟩, k, cap'⟩]) := by
  have hs : w.heap.size ≤ (w.alloc o).heap.size := by simp
  have hs' := hg.size
  have hblk : ∀ b, b < w.heap.size → V.ownBlock ≠ some b → w'.heap[b]? = w.heap[b]? := fun b hb hv => (hg.block b (by omega) (fun e => hv e.symm)).trans (((Below.refl w.heap.size w).alloc (Nat.le_refl _) o).block b hb)
  have h0 := h.k.size
  refine ⟨hm, ⟨hg.os.trans h.k.os, hg.tape.trans h.k.tape, hg.output.trans h.k.output, by omega, fun b hb hv => (hblk b (by omega) hv).trans (h.k.block b hb hv)⟩, h.v, fun e he => ?_⟩
  rw [List.mem_append] at he
  rcases he with he | he
  · obtain ⟨l1, hh⟩ := h.ents e he
    refine ⟨l1, ?_⟩
    rcases hh with h1 | ⟨b, hb, h2⟩
    · exact .inl h1
    · refine .inr ⟨b, hb, ?_⟩
      rcases h2 with ⟨h2, h3⟩ | ⟨h2, h3, h4⟩
      · exact .inl ⟨h2, by omega⟩
      · refine .inr ⟨h2, by omega, fun i hi => ?_⟩
        rw [World.cell?_of_block (w := w) (hblk b h3 (fun e => by have := h.v b e; omega))]
        exact h4 i hi
  · simp only [List.mem_cons, List.not_mem_nil, or_false] at he
    subst he
    refine ⟨hk, .inr ⟨g', rfl, ?_⟩⟩
    rcases hn with ⟨h1, h2⟩ | ⟨h1, h2, h3⟩
    · exact .inl ⟨h1, h2⟩
    · exact .inr ⟨by omega, h2, h3⟩

theorem AppSt.new2 (h : AppSt E sz f w0 V n w r es) (o : Obj) : ∀ e ∈ es, Entry.New2 V.ownBlock sz w0 (w.alloc o) f e := fun e he => by
  obtain ⟨l1, hh⟩ := h.ents e he
  refine ⟨l1, ?_⟩
  have hs : w.heap.size ≤ (w.alloc o).heap.size := by simp
  rcases hh with h1 | ⟨b, hb, h2⟩
  · exact .inl h1
  · refine .inr ⟨b, hb, ?_⟩
    rcases h2 with ⟨h2, h3⟩ | ⟨h2, h3, h4⟩
    · have hb' := h.v b h2
      have := h.k.size
      refine ⟨.inl h2, by omega, fun i hi => ?_⟩
      rw [World.cell?_alloc_past _ _ _ (by show b < _; omega)]
      exact h.m.cell h2 (Nat.lt_of_lt_of_le hi (Nat.mul_le_mul_right _ h3))
    · refine ⟨.inr h2, by omega, fun i hi => ?_⟩
      rw [World.cell?_alloc_past _ _ _ h3]
      exact h4 i hi

theorem AppSt.book {R : Nat → Nat} {P N : Nat} {v : Nat → Value} {bs : Nat → List Entry} (h : AppSt E sz f w0 V n w r es) (hB : Book2 R w0 P v bs N) (hab : ∀ b, V.ownBlock = some b → 6 ≤ R b) : Book2 R w P v bs N :=
  hB.keeps h.k.size (fun k hk h6 => h.k.block k hk (fun e => by have := hab k e; omega))

theorem Book2.at4 {R : Nat → Nat} {P N c : Nat} {v : Nat → Value} {bs : Nat → List Entry} {o : Obj} {w4 : World} (hB : Book2 R w P v bs N) (hc : c < 4) (grow4 : (w.alloc o).grownBy w4 (v c).ownBlock) :
    w4.cell? ⟨P, c, none⟩ = some (v c) ∧ w4.frozen? ⟨P, c, none⟩ = false := by
  have hPq : some P ≠ (v c).ownBlock := fun e => by
    have := (hB.slot c hc).hb P e.symm
    rw [hB.p] at this; omega
  have hlt := hB.lt
  have h1 : P < (w.alloc o).heap.size := by simp; omega
  refine ⟨?_, ?_⟩
  · rw [grow4.cell_far ⟨P, c, none⟩ h1 hPq, World.cell?_alloc_past _ _ _ hlt]; exact (hB.slot c hc).cell
  · rw [grow4.frozen_far ⟨P, c, none⟩ h1 hPq, World.frozen?_alloc_past _ _ _ hlt]; exact hB.fz c

theorem keep_done {R : Nat → Nat} {P N c j : Nat} {v : Nat → Value} {bs : Nat → List Entry} {o : Obj} {w4 : World} {g' cap' : Nat} (hB : Book2 R w0 P v bs N) (hc : c < 4) (hj : (bs c).length = 4 * j) (A : AppSt E (szOf c) (mkOf c j) w0 V n w r es) (hnl : es.length = 4) (hab : ∀ b, V.ownBlock = some b → 6 ≤ R b)
    (own4 : w4.ownsRow 0 (tyOf c) 1 (.slice (some ⟨g', 0, none⟩) (4 * j + 4) cap') (4 * j + 4) ((bs c).map Entry.val ++ es.map Entry.val)) (grow4 : (w.alloc o).grownBy w4 (v c).ownBlock) (hat : (v c).ownBlock = some g' ∨ g' = (w.alloc o).heap.size) :
    KeepRes R w0 P N V.ownBlock (w4.setCell ⟨P, c, none⟩ (.slice (some ⟨g', 0, none⟩) (4 * j + 4) cap')) :=
  hB.grows (news := es) (w3 := w.alloc o) ⟨hB.slot c hc, hB.p, hB.lt, hc, hB.hR, hj, fun b e => ⟨hab b e, A.v b e⟩, A.k.trans (Keeps.of_below ((Below.refl _ _).alloc (Nat.le_refl _) o)), hnl, A.new2 o, own4, grow4, hat⟩
theorem keep_doneL {R : Nat → Nat} {P N c j : Nat} {v : Nat → Value} {bs : Nat → List Entry} {o : Obj} {w4 : World} {g' cap' : Nat} (hB : Book2 R w0 P v bs N) (hc : c < 4) (hj : (bs c).length = 4 * j) (A : AppSt E (szOf c) (mkOf c j) w0 V n w r es) (hnl : es.length = 4) (hab : ∀ b, V.ownBlock = some b → 6 ≤ R b)
    (own4 : w4.ownsRow 0 (tyOf c) 1 (.slice (some ⟨g', 0, none⟩) (4 * j + 4) cap') (4 * j + 4) ((bs c).map Entry.val ++ es.map Entry.val)) (grow4 : (w.alloc o).grownBy w4 (v c).ownBlock) (hat : (v c).ownBlock = some g' ∨ g' = (w.alloc o).heap.size) :
    KeepResL R w0 P N c bs V.ownBlock (w4.setCell ⟨P, c, none⟩ (.slice (some ⟨g', 0, none⟩) (4 * j + 4) cap')) :=
  hB.growsL (news := es) (w3 := w.alloc o) ⟨hB.slot c hc, hB.p, hB.lt, hc, hB.hR, hj, fun b e => ⟨hab b e, A.v b e⟩, A.k.trans (Keeps.of_below ((Below.refl _ _).alloc (Nat.le_refl _) o)), hnl, A.new2 o, own4, grow4, hat⟩
end

/-- Marks in a row. -/
theorem marks_app {sz n m : Nat} {f : Nat → Value} (hp : ∀ i, f (n * sz + i) = f i) : marksL f (n * sz) ++ marksL f (m * sz) = marksL f ((n + m) * sz) := by
  apply List.ext_getElem?
  intro i
  by_cases hi : i < n * sz
  · rw [List.getElem?_append_left (by rw [marksL_len]; exact hi), marksL_get hi, marksL_get (by rw [Nat.add_mul]; omega)]
  · rw [List.getElem?_append_right (by rw [marksL_len]; omega), marksL_len]
    by_cases h2 : i < (n + m) * sz
    · rw [marksL_get h2, marksL_get (by rw [Nat.add_mul] at h2; omega), ← hp (i - n * sz), show n * sz + (i - n * sz) = i by omega]
    · rw [List.getElem?_eq_none (by rw [marksL_len]; rw [Nat.add_mul] at h2; omega), List.getElem?_eq_none (by rw [marksL_len]; omega)]
theorem mkI_app {j n m : Nat} : marksL (mkI j) (n * 1) ++ marksL (mkI j) (m * 1) = marksL (mkI j) ((n + m) * 1) := marks_app (fun _ => rfl)
theorem mkF_app {j n m : Nat} : marksL (mkF j) (n * 1) ++ marksL (mkF j) (m * 1) = marksL (mkF j) ((n + m) * 1) := marks_app (fun _ => rfl)
theorem mkP_app {j n m : Nat} : marksL (mkP j) (n * 2) ++ marksL (mkP j) (m * 2) = marksL (mkP j) ((n + m) * 2) := marks_app (fun i => by unfold mkP; rw [show (n * 2 + i) % 2 = i % 2 by omega])

end Go.Proofs.YtgpaajdfkekjiaaGreatDoor
