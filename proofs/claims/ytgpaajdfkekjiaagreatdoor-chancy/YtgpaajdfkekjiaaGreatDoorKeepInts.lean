/-
  What keepInts of package latchlaw's book does with a list that has no spare room: it marks it, and the book holds four lists more.
-/
import Derived.Test.YtgpaajdfkekjiaaGreatDoorBook
import Derived.ArgAppend
namespace Go.Proofs.YtgpaajdfkekjiaaGreatDoor
open Go.RowKit

theorem rep_get {M : Value} {n j : Nat} {u : Value} (h : (List.replicate n M)[j]? = some u) : j < n ∧ u = M := by
  rw [List.getElem?_replicate] at h
  split at h
  · exact ⟨by assumption, by simpa using h.symm⟩
  · cases h

/-- The new list behind an append is one that goes into the book. -/
theorem new_entry {a : Option Addr} {w0 w w' : World} {base n g cap m : Nat} {M : Int} (h : w.ownsRow base 3 1 (.slice (some ⟨g, 0, none⟩) (n + m) cap) (n + m) (List.replicate n (.int .i64 M) ++ List.replicate m (.int .i64 M))) (hn : n + m ≤ 1000) (hb : w0.heap.size ≤ base) (hw : Below w.heap.size w w') :
    Entry.New a w0 w' M ⟨some ⟨g, 0, none⟩, n + m, cap⟩ := by
  have hg := h.lt g rfl
  refine ⟨hn, .inr ⟨g, rfl, .inr (by omega), Nat.lt_of_lt_of_le hg.2 hw.size, fun i hi => ?_⟩⟩
  simp only at hi
  rw [hw.cell (p := ⟨g, i, none⟩) hg.2, h.cellAt i (by omega), List.replicate_append_replicate, List.getElem?_replicate, if_pos hi]

theorem own_keeps {w w' : World} {base e size : Nat} {v : Value} {n : Nat} {xs : List Value} (h : w.ownsRow base e size v n xs) (hb : ∀ q, v.ownBlock = some q → w'.heap[q]? = w.heap[q]?) : w'.ownsRow base e size v n xs := by
  refine ⟨h.1, ?_⟩
  rcases h.2 with h' | ⟨g, cap, cur, hv, hbg, hr, hrest⟩
  · exact .inl h'
  · exact .inr ⟨g, cap, cur, hv, hbg, by rw [hb g (by rw [hv]; rfl)]; exact hr, hrest⟩

theorem Tryz.infoInts : (Tryz.prog.info? 32).map (fun i => (i.zero, i.size, i.bytes)) = some (some (.slice none 0 0), 1, 24) := by kernel_rfl

theorem grown_below {w w1 : World} {o : Obj} (h : (w.alloc o).grownBy w1 none) : Below w.heap.size w w1 := ((Below.refl _ _).alloc (Nat.le_refl _) o).grown h (by simp) (fun k hk => by cases hk)

set_option maxHeartbeats 1000000 in
set_option maxRecDepth 100000 in
/-- keepInts of a list with no spare room, in memory that is not the book's. -/
theorem keepInts_any (S : Nat → Prop) (P : Nat) (hv : Value) (es : List Entry) (a : Option Addr) (n j : Nat) (w : World) (hB : BookAt S w P hv es) (hj : es.length = 4 * j) (hj2 : j ≤ 100) (hn : n ≤ 100)
    (hl : (a = none ∧ n = 0) ∨ ∃ g f, a = some ⟨g, 0, none⟩ ∧ w.rowIs g 3 n f ∧ ∀ k, S k → k < g) :
    Calls Tryz.prog 26 #[.pointer (some ⟨P, 0, none⟩), .slice a n n] w fun e w' => e = .returned (.tuple #[]) ∧ ∃ hv' es', BookAt (fun k => S k ∨ a = some ⟨k, 0, none⟩ ∨ w.heap.size ≤ k) w' P hv' es' ∧ es'.length = 4 * (j + 1) ∧ Keeps (fun k => S k ∨ a = some ⟨k, 0, none⟩) w w' := by
  obtain ⟨i0, hi0, hz0, hz1, hz2⟩ := info_parts Tryz.infoInt
  have c0 := hB.c0
  have hform : ∃ ha hc, hv = .slice ha es.length hc := by
    rcases hB.own.2 with ⟨h, h0⟩ | ⟨g, cap, cur, h, _⟩
    · exact ⟨none, 0, by rw [h, h0]⟩
    · exact ⟨_, _, h⟩
  obtain ⟨ha, hc, rfl⟩ := hform
  obtain ⟨M, hM⟩ : ∃ M : Int, -1 - (j : Int) = M := ⟨_, rfl⟩
  have hSw : ∀ g, a = some ⟨g, 0, none⟩ → g < w.heap.size := by
    rcases hl with h | ⟨g, f, h, hr, _⟩
    · intro g e; rw [h.1] at e; cases e
    · intro g' e; rw [h] at e; simp only [Option.some.injEq, Addr.mk.injEq, and_true] at e; subst e; exact hr.lt
  have HB : Hid (BookAt S w P (.slice ha es.length hc) es) := hB
  have HJ : Hid (es.length = 4 * j) := hj
  rw [hj] at c0
  have hPlt := hB.lt
  have hSP := hB.sp
  clear hB hj
  go_enter Tryz.func26, Tryz.ntmps26
  go_wp2
  go_loopw [5] (fun i wr => ∃ k : Nat, k ≤ n ∧ i = .int .i64 k ∧ ((a = none ∧ n = 0) ∨ ∃ g f, a = some ⟨g, 0, none⟩ ∧ wr.rowIs g 3 n f ∧ (∀ i, i < k → f i = .int .i64 M) ∧ ∀ k, S k → k < g) ∧ Keeps (fun k => a = some ⟨k, 0, none⟩) w wr) (fun i _ => n - (intOf i).toNat)
  case atStart =>
    refine ⟨0, Nat.zero_le _, rfl, ?_, Keeps.refl _ _⟩
    rcases hl with h | ⟨g, f, h1, h2, h3⟩
    · exact .inl h
    · exact .inr ⟨g, f, h1, h2, fun i hi => absurd hi (Nat.not_lt_zero i), h3⟩
  case round =>
    obtain ⟨k, hk, rfl, hrow, K⟩ := hrel
    by_cases hk2 : k < n
    · rcases hrow with ⟨_, h0⟩ | ⟨g, f, rfl, hrow, hf, hS⟩
      · omega
      · have c1 := hrow.cell hk2
        have f1 := hrow.frozen k
        obtain ⟨u, hu⟩ : ∃ u, u = f k := ⟨_, rfl⟩
        rw [← hu] at c1
        have hk3 : (k : Int) < (n : Int) := by omega
        clear hu c0 hl
        go_wp2
        go_roundw
        case rel => exact ⟨k + 1, by omega, by go_num, .inr ⟨g, _, rfl, hrow.set k (.int .i64 M), fun i hi => by by_cases h : i = k <;> simp [h]; exact hf i (by omega), hS⟩, K.trans ⟨rfl, rfl, rfl, by rw [Deep.nblk_setCell]; exact Nat.le_refl _, fun q _ ho => Deep.blk_setCell_other _ _ _ _ (fun e => ho (by simp at e; rw [e]))⟩⟩
        case measure => simp [intOf]; omega
    · obtain rfl : k = n := by omega
      clear hk2 hl
      have hnone : a = none → k = 0 ∧ k = 0 := by
        rcases hrow with h | ⟨g, f, h, _⟩
        · exact fun _ => ⟨h.2, h.2⟩
        · intro e; rw [h] at e; cases e
      have hold : ∀ X : World, Below wr.heap.size wr X → ∀ b, a = some b → ∀ i u, (List.replicate k (Value.int .i64 M))[i]? = some u → X.cell? (b.add i) = some u := by
        intro X hX b hb i u hu
        obtain ⟨hi, rfl⟩ := rep_get hu
        rcases hrow with h | ⟨g, f, h, hr, hf, _⟩
        · rw [h.1] at hb; cases hb
        · rw [h] at hb
          simp only [Option.some.injEq] at hb
          subst hb
          have hadd : (⟨g, 0, none⟩ : Addr).add i = ⟨g, i, none⟩ := by unfold Addr.add; split <;> simp_all
          rw [hadd, hX.cell (p := ⟨g, i, none⟩) hr.lt, hr.cell hi, hf i hi]
      have hSa : ∀ g, a = some ⟨g, 0, none⟩ → (∀ k, S k → k < g) ∧ g < wr.heap.size := by
        rcases hrow with h | ⟨g, f, h, hr, hf, hS⟩
        · intro g e; rw [h.1] at e; cases e
        · intro g' e; rw [h] at e; simp only [Option.some.injEq, Addr.mk.injEq, and_true] at e; subst e; exact ⟨hS, hr.lt⟩
      have hnl : ∀ X : World, Below wr.heap.size wr X → Entry.New a w X M ⟨a, k, k⟩ := by
        intro X hX
        refine ⟨by show k ≤ 1000; omega, ?_⟩
        rcases hrow with h | ⟨g, f, h, hr, hf, _⟩
        · exact .inl h.2
        · exact .inr ⟨g, h, .inl h, Nat.lt_of_lt_of_le hr.lt hX.size, fun i hi => by rw [hX.cell (p := ⟨g, i, none⟩) hr.lt, hr.cell hi, hf i hi]⟩
      have ownR : wr.ownsRow 0 32 1 (.slice ha (4 * j) hc) (4 * j) (es.map Entry.val) := by
        have := HB.out.own
        rw [HJ.out] at this
        refine own_keeps this (fun q hq => K.block q (this.lt q hq).2 (fun e => ?_))
        have h1 := (HB.out.hb q (by rw [HJ.out]; exact hq)).1
        have := (hSa q e).1 q h1; omega
      have cP : wr.cell? ⟨P, 0, none⟩ = some (.slice ha (4 * j) hc) := (K.cell (p := ⟨P, 0, none⟩) hPlt (fun e => by have := (hSa P e).1 P hSP; omega)).trans c0
      have fP : wr.frozen? ⟨P, 0, none⟩ = false := (World.frozen?_of_block (w := w) (K.block P hPlt (fun e => by have := (hSa P e).1 P hSP; omega))).trans HB.out.fz
      have hPr : P < wr.heap.size := Nat.lt_of_lt_of_le hPlt K.size
      have hPq : some P ≠ (Value.slice ha (4 * j) hc).ownBlock := fun h => (HB.out.hb P (by rw [HJ.out]; exact h.symm)).2 rfl
      obtain ⟨i1, hi1, hy0, hy1, hy2⟩ := info_parts Tryz.infoInts
      clear hrow c0
      go_wp2_with (first
        | (at_builtin; refine wpList_append_grows _ rfl (.tmp 26) (.tmp 28) 32 rfl 3 i0 (.int .i64 0) 1 8 Tryz.underlying32 hi0 hz0 hz1 hz2 rfl (by omega) a k k (List.replicate k (.int .i64 M)) rfl hnone (by simp) (hold _ ((Below.refl _ _).alloc (Nat.le_refl _) _)) ⟨wr.heap.size, 0, none⟩ 1 1 [.int .i64 M] rfl rfl (World.news_of_block (heap_alloc_new wr _)) (by simp; rfl) (by omega) (by unfold maxLen; omega) (by omega) ?_; intro v1 w1 own1 grow1; have b1 := grown_below grow1)
        | (at_builtin; refine wpList_append_grows _ rfl (.tmp 30) (.tmp 33) 32 rfl 3 i0 (.int .i64 0) 1 8 Tryz.underlying32 hi0 hz0 hz1 hz2 rfl (by omega) a k k (List.replicate k (.int .i64 M)) rfl hnone (by simp) (hold _ (b1.alloc b1.size _)) ⟨w1.heap.size, 0, none⟩ 2 2 [.int .i64 M, .int .i64 M] rfl rfl (World.news_of_block (heap_alloc_new w1 _)) (by simp; rfl) (by omega) (by unfold maxLen; omega) (by omega) ?_; intro v2 w2 own2 grow2; have b2 := grown_below grow2)
        | (at_builtin; refine wpList_append_grows _ rfl (.tmp 35) (.tmp 39) 32 rfl 3 i0 (.int .i64 0) 1 8 Tryz.underlying32 hi0 hz0 hz1 hz2 rfl (by omega) a k k (List.replicate k (.int .i64 M)) rfl hnone (by simp) (hold _ ((b1.trans (b2.mono b1.size)).alloc (Nat.le_trans b1.size b2.size) _)) ⟨w2.heap.size, 0, none⟩ 3 3 [.int .i64 M, .int .i64 M, .int .i64 M] rfl rfl (World.news_of_block (heap_alloc_new w2 _)) (by simp; rfl) (by omega) (by unfold maxLen; omega) (by omega) ?_; intro v3 w3 own3 grow3; have b3 := grown_below grow3; have b123 := (b1.trans (b2.mono b1.size)).trans (b3.mono (Nat.le_trans b1.size b2.size)); have cP3 := (b123.cell (p := ⟨P, 0, none⟩) hPr).trans cP; have fP3 := (b123.frozen (p := ⟨P, 0, none⟩) hPr).trans fP; have ownH := own_keeps ownR (fun q hq => b123.block q (ownR.lt q hq).2); obtain ⟨g1, cap1, rfl, _, _⟩ := own1.form (by omega); obtain ⟨g2, cap2, rfl, _, _⟩ := own2.form (by omega); obtain ⟨g3, cap3, rfl, _, _⟩ := own3.form (by omega))
        | (at_builtin; refine wpList_append_lies _ rfl (.tmp 45) (.tmp 50) 24 rfl 0 32 i1 (.slice none 0 0) 1 24 Tryz.underlying24 hi1 hy0 hy1 hy2 rfl (by omega) (.slice ha (4 * j) hc) (4 * j) (es.map Entry.val) rfl (ownH.alloc _) ⟨w3.heap.size, 0, none⟩ 4 4 [.slice a k k, .slice (some ⟨g1, 0, none⟩) (k + 1) cap1, .slice (some ⟨g2, 0, none⟩) (k + 2) cap2, .slice (some ⟨g3, 0, none⟩) (k + 3) cap3] rfl rfl (World.news_of_block (heap_alloc_new w3 _)) (by simp [Value.oneCell']) (by omega) (by unfold maxLen; omega) (by omega) (by simp) _ rfl ?_; intro g4 cap4 w4 own4 grow4 hat hlt4; have hPl : P < w3.heap.size := Nat.lt_of_lt_of_le hPr b123.size; have cP4 := (grow4.cell_far ⟨P, 0, none⟩ (Nat.lt_of_lt_of_le hPl (by simp)) hPq).trans ((World.cell?_alloc_past _ _ _ hPl).trans cP3); have fP4 := (grow4.frozen_far ⟨P, 0, none⟩ (Nat.lt_of_lt_of_le hPl (by simp)) hPq).trans ((World.frozen?_alloc_past _ _ _ hPl).trans fP3))
        | fail)
      go_end0
      obtain ⟨X3, hX3⟩ : ∃ X3, X3 = w3.alloc (.cells #[.slice a k k, .slice (some ⟨g1, 0, none⟩) (k + 1) cap1, .slice (some ⟨g2, 0, none⟩) (k + 2) cap2, .slice (some ⟨g3, 0, none⟩) (k + 3) cap3] 32) := ⟨_, rfl⟩
      rw [← hX3] at grow4
      have b3X : Below w3.heap.size w3 X3 := by rw [hX3]; exact (Below.refl _ _).alloc (Nat.le_refl _) _
      have b2X := b3.trans (b3X.mono b3.size)
      have b1X := b2.trans (b2X.mono b2.size)
      have brX := b1.trans (b1X.mono b1.size)
      have hwr := K.size
      have K3 : Keeps (fun k => a = some ⟨k, 0, none⟩) w X3 := K.trans (Keeps.of_below brX)
      have n1 : Entry.New a w X3 M ⟨some ⟨g1, 0, none⟩, k + 1, cap1⟩ := new_entry (m := 1) own1 (by omega) (by simp; omega) b1X
      have n2 : Entry.New a w X3 M ⟨some ⟨g2, 0, none⟩, k + 2, cap2⟩ := new_entry (m := 2) own2 (by omega) (by have := b1.size; simp; omega) b2X
      have n3 : Entry.New a w X3 M ⟨some ⟨g3, 0, none⟩, k + 3, cap3⟩ := new_entry (m := 3) own3 (by omega) (by have := b1.size; have := b2.size; simp; omega) b3X
      have n0 := hnl X3 brX
      have hat' : (Value.slice ha es.length hc).ownBlock = some g4 ∨ g4 = X3.heap.size := by
        rcases hat with h | h
        · exact .inl (by rw [HJ.out]; exact h)
        · exact .inr (by rw [h, hX3])
      have bg := book_grow (news := [⟨a, k, k⟩, ⟨some ⟨g1, 0, none⟩, k + 1, cap1⟩, ⟨some ⟨g2, 0, none⟩, k + 2, cap2⟩, ⟨some ⟨g3, 0, none⟩, k + 3, cap3⟩]) HB.out HJ.out hj2
        (fun g e => ⟨(hSa g e).1, hSw g e⟩) K3 rfl
        (by rw [hM]; intro e he; simp only [List.mem_cons, List.mem_nil_iff, or_false] at he; rcases he with rfl | rfl | rfl | rfl <;> assumption) own4 (by rw [HJ.out]; exact grow4) hat'
      exact ⟨rfl, _, _, bg.1, by rw [List.length_append, HJ.out]; simp; omega, bg.2⟩

end Go.Proofs.YtgpaajdfkekjiaaGreatDoor
