/-
  How a list is put into the book: its owner marks it, appends marks to it three times, and the four lists go into the book.
  The book's keepInts and keepFloats: they mark the list, and the book holds four lists more. Written by wip/mk_bkkeep.py.
-/
import Derived.Test.YtgpaajdfkekjiaaGreatDoorBookNew
import Derived.ArgAppend
namespace Go.Proofs.YtgpaajdfkekjiaaGreatDoor
open Go.RowKit

/-- The first k elements of the list V bear the mark f. -/
def MarkUp (E : TypeId) (sz : Nat) (f : Nat → Value) (w : World) (V : Value) (n k : Nat) : Prop :=
  (V = .slice none 0 0 ∧ n = 0) ∨ ∃ g cap F, V = .slice (some ⟨g, 0, none⟩) n cap ∧ w.rowIs g E (cap * sz) F ∧ n ≤ cap ∧ cap ≤ maxLen ∧ ∀ i, i < k * sz → F i = f i

section
variable {E : TypeId} {sz : Nat} {f : Nat → Value} {w w' w0 : World} {V : Value} {n k r : Nat} {es : List Entry}
theorem MarkUp.start {base : Nat} {xs : List Value} (h : w.ownsRow base E sz V n xs) : MarkUp E sz f w V n 0 := by
  rcases h.2 with h | ⟨g, cap, cur, hv, _, hg, hn, hm, hs, _⟩
  · exact .inl h
  · exact .inr ⟨g, cap, fun i => cur[i]?.getD undef, hv, ⟨cur, hg, hs, fun i hi => by simp [Array.getElem?_eq_getElem (show i < cur.size by omega)]⟩, hn, hm, fun i hi => by omega⟩
theorem MarkUp.marked (h : MarkUp E sz f w V n n) : Marked E sz f w V n n := by
  rcases h with ⟨h1, h2⟩ | ⟨g, cap, F, hv, ⟨cur, hg, hs, hc⟩, hn, hm, hF⟩
  · exact .inl ⟨h1, h2, h2⟩
  · refine .inr ⟨g, cap, cur, hv, hg, Nat.le_refl _, hn, hm, hs, fun i hi => ?_⟩
    have : n * sz ≤ cap * sz := Nat.mul_le_mul_right _ hn
    rw [hc i (by omega), hF i hi]
theorem MarkUp.keeps (h : MarkUp E sz f w V n k) (K : Keeps (fun _ => False) w w') : MarkUp E sz f w' V n k := by
  rcases h with h | ⟨g, cap, F, hv, hr, hrest⟩
  · exact .inl h
  · exact .inr ⟨g, cap, F, hv, hr.of_block (K.block g hr.lt (fun h => h)), hrest⟩

/-- Lists that were appended: each is marked, in V's memory or in new memory. -/
structure AppSt (E : TypeId) (sz : Nat) (f : Nat → Value) (w0 : World) (V : Value) (n : Nat) (w : World) (r : Nat) (es : List Entry) : Prop where
  m : Marked E sz f w V n r
  k : Keeps (fun k => V.ownBlock = some k) w0 w
  v : ∀ b, V.ownBlock = some b → b < w0.heap.size
  ents : ∀ e ∈ es, e.len ≤ 1000 ∧ (e.len = 0 ∨ ∃ b, e.a = some ⟨b, 0, none⟩ ∧ ((V.ownBlock = some b ∧ e.len ≤ r) ∨ (w0.heap.size ≤ b ∧ b < w.heap.size ∧ ∀ i, i < e.len * sz → w.cell? ⟨b, i, none⟩ = some (f i))))

theorem AppSt.start {a : Option Addr} {cap : Nat} (h : Marked E sz f w (.slice a n cap) n n) (k : Keeps (fun k => (Value.slice a n cap).ownBlock = some k) w0 w) (v : ∀ b, (Value.slice a n cap).ownBlock = some b → b < w0.heap.size) (hn : n ≤ 1000) :
    AppSt E sz f w0 (.slice a n cap) n w n [⟨a, n, cap⟩] := by
  refine ⟨h, k, v, fun e he => ?_⟩
  simp only [List.mem_cons, List.not_mem_nil, or_false] at he
  subst he
  refine ⟨hn, ?_⟩
  rcases h with ⟨_, h0, _⟩ | ⟨g, cap', cur, hv, _⟩
  · exact .inl h0
  · simp only [Value.slice.injEq] at hv
    exact .inr ⟨g, hv.1, .inl ⟨by rw [hv.1]; rfl, Nat.le_refl _⟩⟩

theorem AppSt.next {o : Obj} {r' k g' cap' : Nat} (h : AppSt E sz f w0 V n w r es) (hg : (w.alloc o).grownBy w' V.ownBlock) (hm : Marked E sz f w' V n r') (hr : r ≤ r') (hn : NewMarks sz f (w.alloc o) w' V k r' g') (hk : k ≤ 1000) :
    AppSt E sz f w0 V n w' r' (es ++ [⟨some ⟨g', 0, none⟩, k, cap'⟩]) := by
  have hs : w.heap.size ≤ (w.alloc o).heap.size := by simp
  have hs' := hg.size
  have hblk : ∀ b, b < w.heap.size → V.ownBlock ≠ some b → w'.heap[b]? = w.heap[b]? := fun b hb hv => (hg.block b (by omega) (fun e => hv e.symm)).trans (((Below.refl w.heap.size w).alloc (Nat.le_refl _) o).block b hb)
  have h0 := h.k.size
  refine ⟨hm, ⟨hg.os.trans h.k.os, hg.tape.trans h.k.tape, hg.output.trans h.k.output, by omega, fun b hb hv => (hblk b (by omega) hv).trans (h.k.block b hb hv)⟩, h.v, fun e he => ?_⟩
  rw [List.mem_append] at he
  rcases he with he | he
  · obtain ⟨l1, hh⟩ := h.ents e he
    refine ⟨l1, ?_⟩
    rcases hh with h1 | ⟨b, hb, h2⟩
    · exact .inl h1
    · refine .inr ⟨b, hb, ?_⟩
      rcases h2 with ⟨h2, h3⟩ | ⟨h2, h3, h4⟩
      · exact .inl ⟨h2, by omega⟩
      · refine .inr ⟨h2, by omega, fun i hi => ?_⟩
        rw [World.cell?_of_block (w := w) (hblk b h3 (fun e => by have := h.v b e; omega))]
        exact h4 i hi
  · simp only [List.mem_cons, List.not_mem_nil, or_false] at he
    subst he
    refine ⟨hk, .inr ⟨g', rfl, ?_⟩⟩
    rcases hn with ⟨h1, h2⟩ | ⟨h1, h2, h3⟩
    · exact .inl ⟨h1, h2⟩
    · exact .inr ⟨by omega, h2, h3⟩

theorem AppSt.new2 (h : AppSt E sz f w0 V n w r es) (o : Obj) : ∀ e ∈ es, Entry.New2 V.ownBlock sz w0 (w.alloc o) f e := fun e he => by
  obtain ⟨l1, hh⟩ := h.ents e he
  refine ⟨l1, ?_⟩
  have hs : w.heap.size ≤ (w.alloc o).heap.size := by simp
  rcases hh with h1 | ⟨b, hb, h2⟩
  · exact .inl h1
  · refine .inr ⟨b, hb, ?_⟩
    rcases h2 with ⟨h2, h3⟩ | ⟨h2, h3, h4⟩
    · have hb' := h.v b h2
      have := h.k.size
      refine ⟨.inl h2, by omega, fun i hi => ?_⟩
      rw [World.cell?_alloc_past _ _ _ (by show b < _; omega)]
      exact h.m.cell h2 (Nat.lt_of_lt_of_le hi (Nat.mul_le_mul_right _ h3))
    · refine ⟨.inr h2, by omega, fun i hi => ?_⟩
      rw [World.cell?_alloc_past _ _ _ h3]
      exact h4 i hi

theorem AppSt.book {R : Nat → Nat} {P N : Nat} {v : Nat → Value} {bs : Nat → List Entry} (h : AppSt E sz f w0 V n w r es) (hB : Book2 R w0 P v bs N) (hab : ∀ b, V.ownBlock = some b → 6 ≤ R b) : Book2 R w P v bs N :=
  hB.keeps h.k.size (fun k hk h6 => h.k.block k hk (fun e => by have := hab k e; omega))

theorem Book2.at4 {R : Nat → Nat} {P N c : Nat} {v : Nat → Value} {bs : Nat → List Entry} {o : Obj} {w4 : World} (hB : Book2 R w P v bs N) (hc : c < 4) (grow4 : (w.alloc o).grownBy w4 (v c).ownBlock) :
    w4.cell? ⟨P, c, none⟩ = some (v c) ∧ w4.frozen? ⟨P, c, none⟩ = false := by
  have hPq : some P ≠ (v c).ownBlock := fun e => by
    have := (hB.slot c hc).hb P e.symm
    rw [hB.p] at this; omega
  have hlt := hB.lt
  have h1 : P < (w.alloc o).heap.size := by simp; omega
  refine ⟨?_, ?_⟩
  · rw [grow4.cell_far ⟨P, c, none⟩ h1 hPq, World.cell?_alloc_past _ _ _ hlt]; exact (hB.slot c hc).cell
  · rw [grow4.frozen_far ⟨P, c, none⟩ h1 hPq, World.frozen?_alloc_past _ _ _ hlt]; exact hB.fz c

theorem keep_done {R : Nat → Nat} {P N c j : Nat} {v : Nat → Value} {bs : Nat → List Entry} {o : Obj} {w4 : World} {g' cap' : Nat} (hB : Book2 R w0 P v bs N) (hc : c < 4) (hj : (bs c).length = 4 * j) (A : AppSt E (szOf c) (mkOf c j) w0 V n w r es) (hnl : es.length = 4) (hab : ∀ b, V.ownBlock = some b → 6 ≤ R b)
    (own4 : w4.ownsRow 0 (tyOf c) 1 (.slice (some ⟨g', 0, none⟩) (4 * j + 4) cap') (4 * j + 4) ((bs c).map Entry.val ++ es.map Entry.val)) (grow4 : (w.alloc o).grownBy w4 (v c).ownBlock) (hat : (v c).ownBlock = some g' ∨ g' = (w.alloc o).heap.size) :
    KeepRes R w0 P N V.ownBlock (w4.setCell ⟨P, c, none⟩ (.slice (some ⟨g', 0, none⟩) (4 * j + 4) cap')) :=
  hB.grows (news := es) (w3 := w.alloc o) ⟨hB.slot c hc, hB.p, hB.lt, hc, hB.hR, hj, fun b e => ⟨hab b e, A.v b e⟩, A.k.trans (Keeps.of_below ((Below.refl _ _).alloc (Nat.le_refl _) o)), hnl, A.new2 o, own4, grow4, hat⟩
end

/-- Marks in a row. -/
theorem marks_app {sz n m : Nat} {f : Nat → Value} (hp : ∀ i, f (n * sz + i) = f i) : marksL f (n * sz) ++ marksL f (m * sz) = marksL f ((n + m) * sz) := by
  apply List.ext_getElem?
  intro i
  by_cases hi : i < n * sz
  · rw [List.getElem?_append_left (by rw [marksL_len]; exact hi), marksL_get hi, marksL_get (by rw [Nat.add_mul]; omega)]
  · rw [List.getElem?_append_right (by rw [marksL_len]; omega), marksL_len]
    by_cases h2 : i < (n + m) * sz
    · rw [marksL_get h2, marksL_get (by rw [Nat.add_mul] at h2; omega), ← hp (i - n * sz), show n * sz + (i - n * sz) = i by omega]
    · rw [List.getElem?_eq_none (by rw [marksL_len]; rw [Nat.add_mul] at h2; omega), List.getElem?_eq_none (by rw [marksL_len]; omega)]
theorem mkI_app {j n m : Nat} : marksL (mkI j) (n * 1) ++ marksL (mkI j) (m * 1) = marksL (mkI j) ((n + m) * 1) := marks_app (fun _ => rfl)
theorem mkF_app {j n m : Nat} : marksL (mkF j) (n * 1) ++ marksL (mkF j) (m * 1) = marksL (mkF j) ((n + m) * 1) := marks_app (fun _ => rfl)
theorem mkP_app {j n m : Nat} : marksL (mkP j) (n * 2) ++ marksL (mkP j) (m * 2) = marksL (mkP j) ((n + m) * 2) := marks_app (fun i => by unfold mkP; rw [show (n * 2 + i) % 2 = i % 2 by omega])

end Go.Proofs.YtgpaajdfkekjiaaGreatDoor

namespace Go.Proofs.YtgpaajdfkekjiaaGreatDoor
open Go.RowKit

theorem Marked.alloc {E : TypeId} {sz : Nat} {f : Nat → Value} {w : World} {V : Value} {n r : Nat} (h : Marked E sz f w V n r) (o : Obj) : Marked E sz f (w.alloc o) V n r := h.block (fun g hg => ((Below.refl w.heap.size w).alloc (Nat.le_refl _) o).block g (h.lt hg))
theorem AppSt.alloc {E : TypeId} {sz : Nat} {f : Nat → Value} {w0 w : World} {V : Value} {n r : Nat} {es : List Entry} (h : AppSt E sz f w0 V n w r es) (o : Obj) : Marked E sz f (w.alloc o) V n r := h.m.alloc o

theorem run_store_flt (P : Program) (w : World) (a : Addr) (m : Mode) (k : FloatKind) (b : Nat) : (store a (.float k b) m).run P w = stored P w a (.float k b) m := run_store P w a _ m rfl
attribute [local go_sem] run_store_flt

theorem Tryz.infoIntsK : (Tryz.prog.info? 32).map (fun i => (i.zero, i.size, i.bytes)) = some (some (.slice none 0 0), 1, 24) := by kernel_rfl
theorem Tryz.infoFloat : (Tryz.prog.info? 106).map (fun i => (i.zero, i.size, i.bytes)) = some (some (.float .f64 0), 1, 8) := by kernel_rfl
theorem Tryz.infoFloatsK : (Tryz.prog.info? 74).map (fun i => (i.zero, i.size, i.bytes)) = some (some (.slice none 0 0), 1, 24) := by kernel_rfl

set_option maxHeartbeats 1000000 in
set_option maxRecDepth 100000 in
theorem keepInts_all (R : Nat → Nat) (P N : Nat) (v : Nat → Value) (es : Nat → List Entry) (a : Option Addr) (n cap base : Nat) (xs : List Value) (w : World) (hB : Book2 R w P v es N) (hN : N ≤ 4000000) (hn : n ≤ 900)
    (hO : w.ownsRow base 3 1 (.slice a n cap) n xs) (hab : ∀ b, (Value.slice a n cap).ownBlock = some b → 6 ≤ R b) :
    Calls Tryz.prog 26 #[.pointer (some ⟨P, 0, none⟩), .slice a n cap] w fun e w' => e = .returned (.tuple #[]) ∧ KeepRes R w P N (Value.slice a n cap).ownBlock w' := by
  obtain ⟨i0, hi0, hz0, hz1, hz2⟩ := info_parts Tryz.infoInt
  obtain ⟨i1, hi1, hy0, hy1, hy2⟩ := info_parts Tryz.infoIntsK
  obtain ⟨j, hj, hjN⟩ := hB.len 0 (by omega)
  obtain ⟨ha, hc, hv⟩ := (hB.slot 0 (by omega)).form
  rw [hj] at hv
  have c0 := (hB.slot 0 (by omega)).cell
  rw [hv] at c0
  have hvb : ∀ b, (Value.slice a n cap).ownBlock = some b → b < w.heap.size := fun b e => (hO.lt b e).2
  obtain ⟨M, hM⟩ : ∃ M : Int, -1 - (j : Int) = M := ⟨_, rfl⟩
  have hmk : ∀ i, mkI j i = .int .i64 M := fun i => by rw [← hM]; rfl
  have e1 : marksL (mkI j) (n * 1) ++ [.int .i64 M] = marksL (mkI j) ((n + 1) * 1) := by rw [← mkI_app, show marksL (mkI j) (1 * 1) = [.int .i64 M] by rw [← hmk 0]; rfl]
  have e2 : marksL (mkI j) (n * 1) ++ [.int .i64 M, .int .i64 M] = marksL (mkI j) ((n + 2) * 1) := by rw [← mkI_app, show marksL (mkI j) (2 * 1) = [.int .i64 M, .int .i64 M] by rw [← hmk 0]; rfl]
  have e3 : marksL (mkI j) (n * 1) ++ [.int .i64 M, .int .i64 M, .int .i64 M] = marksL (mkI j) ((n + 3) * 1) := by rw [← mkI_app, show marksL (mkI j) (3 * 1) = [.int .i64 M, .int .i64 M, .int .i64 M] by rw [← hmk 0]; rfl]
  have hM0 : M ≤ -1 := by omega
  have hM1 : -4000001 ≤ M := by omega
  have HE1 := hidK e1
  have HE2 := hidK e2
  have HE3 := hidK e3
  have HMK := hidK hmk
  have HB := hidK hB
  have HJ := hidK hj
  have HV := hidK hv
  have HU := hidK (MarkUp.start (f := mkI j) hO)
  clear e1 e2 e3 hmk hB hj hv hO
  go_enter Tryz.func26, Tryz.ntmps26
  go_wp2
  go_loopw [5] (fun i wr => ∃ k : Nat, k ≤ n ∧ i = .int .i64 k ∧ MarkUp 3 1 (mkI j) wr (.slice a n cap) n k ∧ Keeps (fun k => (Value.slice a n cap).ownBlock = some k) w wr) (fun i _ => n - (intOf i).toNat)
  case atStart => exact ⟨0, Nat.zero_le _, rfl, HU.out, Keeps.refl _ _⟩
  case round =>
    obtain ⟨k, hk, rfl, hup, K⟩ := hrel
    by_cases hk2 : k < n
    · rcases hup with ⟨_, h0⟩ | ⟨g, cp, F, hv', hr, hnc, hcm, hF⟩
      · omega
      · simp only [Value.slice.injEq, true_and] at hv'
        obtain ⟨rfl, rfl⟩ := hv'
        have c1 := hr.cell (i := k) (by omega)
        have f1 := hr.frozen k
        obtain ⟨u, hu⟩ : ∃ u, u = F k := ⟨_, rfl⟩
        rw [← hu] at c1
        have hk3 : (k : Int) < (n : Int) := by omega
        clear hu c0
        go_wp2
        go_roundw
        case rel => exact ⟨k + 1, by omega, by go_num, .inr ⟨g, cap, _, rfl, hr.set k (.int .i64 M), hnc, hcm, fun i hi => by by_cases h : i = k <;> simp [h, HMK.out]; rw [hF i (by omega)]; exact HMK.out i⟩, K.trans ⟨rfl, rfl, rfl, by rw [Deep.nblk_setCell]; exact Nat.le_refl _, fun q _ ho => Deep.blk_setCell_other _ _ _ _ (fun e => ho (by simp at e; rw [e]; rfl))⟩⟩
        case measure => simp [intOf]; omega
    · obtain rfl : k = n := by omega
      have A0 := AppSt.start hup.marked K hvb (by omega)
      have e1 := HE1.out
      have e2 := HE2.out
      have e3 := HE3.out
      clear hup c0
      go_wp2_with (first
        | (at_builtin; refine wpList_append_marked _ rfl (.tmp 26) (.tmp 28) 32 rfl 3 i0 (.int .i64 0) 1 8 Tryz.underlying32 hi0 hz0 hz1 hz2 rfl (by omega) (mkI j) (.slice a k cap) k k rfl (A0.alloc _) ⟨wr.heap.size, 0, none⟩ 1 1 [.int .i64 M] rfl rfl (World.news_of_block (heap_alloc_new wr _)) (by simp; rfl) e1 (by omega) (by omega) (by unfold maxLen; omega) (by omega) ?_; intro g1 cap1 w1 r1 hr1 hs1 m1 grow1 nm1; have A1 := A0.next (cap' := cap1) grow1 m1 hr1 nm1 (by omega))
        | (at_builtin; refine wpList_append_marked _ rfl (.tmp 30) (.tmp 33) 32 rfl 3 i0 (.int .i64 0) 1 8 Tryz.underlying32 hi0 hz0 hz1 hz2 rfl (by omega) (mkI j) (.slice a k cap) k r1 rfl (A1.alloc _) ⟨w1.heap.size, 0, none⟩ 2 2 [.int .i64 M, .int .i64 M] rfl rfl (World.news_of_block (heap_alloc_new w1 _)) (by simp; rfl) e2 (by omega) (by omega) (by unfold maxLen; omega) (by omega) ?_; intro g2 cap2 w2 r2 hr2 hs2 m2 grow2 nm2; have A2 := A1.next (cap' := cap2) grow2 m2 hr2 nm2 (by omega))
        | (at_builtin; refine wpList_append_marked _ rfl (.tmp 35) (.tmp 39) 32 rfl 3 i0 (.int .i64 0) 1 8 Tryz.underlying32 hi0 hz0 hz1 hz2 rfl (by omega) (mkI j) (.slice a k cap) k r2 rfl (A2.alloc _) ⟨w2.heap.size, 0, none⟩ 3 3 [.int .i64 M, .int .i64 M, .int .i64 M] rfl rfl (World.news_of_block (heap_alloc_new w2 _)) (by simp; rfl) e3 (by omega) (by omega) (by unfold maxLen; omega) (by omega) ?_; intro g3 cap3 w3 r3 hr3 hs3 m3 grow3 nm3; have A3 := A2.next (cap' := cap3) grow3 m3 hr3 nm3 (by omega); have hB3 := A3.book HB.out hab; have cP3 := (hB3.slot 0 (by omega)).cell; have ownH := (hB3.slot 0 (by omega)).own; rw [HJ.out] at ownH; rw [HV.out] at cP3 ownH)
        | (at_builtin; refine wpList_append_lies _ rfl (.tmp 45) (.tmp 50) 24 rfl 0 32 i1 (.slice none 0 0) 1 24 Tryz.underlying24 hi1 hy0 hy1 hy2 rfl (by omega) (.slice ha (4 * j) hc) (4 * j) ((es 0).map Entry.val) rfl (ownH.alloc _) ⟨w3.heap.size, 0, none⟩ 4 4 [.slice a k cap, .slice (some ⟨g1, 0, none⟩) (k + 1) cap1, .slice (some ⟨g2, 0, none⟩) (k + 2) cap2, .slice (some ⟨g3, 0, none⟩) (k + 3) cap3] rfl rfl (World.news_of_block (heap_alloc_new w3 _)) (by simp [Value.oneCell']) (by omega) (by unfold maxLen; omega) (by omega) (by simp) _ rfl ?_; intro g4 cap4 w4 own4 grow4 hat hlt4; rw [← HV.out] at grow4; obtain ⟨cP4, fP4⟩ := hB3.at4 (by omega) grow4; rw [HV.out] at cP4)
        | fail)
      go_end0
      exact ⟨rfl, keep_done HB.out (by omega) HJ.out A3 rfl hab own4 grow4 (by rw [HV.out]; rcases hat with h | h; exact .inl h; exact .inr (by rw [h]))⟩

set_option maxHeartbeats 1000000 in
set_option maxRecDepth 100000 in
theorem keepFloats_all (R : Nat → Nat) (P N : Nat) (v : Nat → Value) (es : Nat → List Entry) (a : Option Addr) (n cap base : Nat) (xs : List Value) (w : World) (hB : Book2 R w P v es N) (hN : N ≤ 4000000) (hn : n ≤ 900)
    (hO : w.ownsRow base 106 1 (.slice a n cap) n xs) (hab : ∀ b, (Value.slice a n cap).ownBlock = some b → 6 ≤ R b) :
    Calls Tryz.prog 32 #[.pointer (some ⟨P, 0, none⟩), .slice a n cap] w fun e w' => e = .returned (.tuple #[]) ∧ KeepRes R w P N (Value.slice a n cap).ownBlock w' := by
  obtain ⟨i0, hi0, hz0, hz1, hz2⟩ := info_parts Tryz.infoFloat
  obtain ⟨i1, hi1, hy0, hy1, hy2⟩ := info_parts Tryz.infoFloatsK
  obtain ⟨j, hj, hjN⟩ := hB.len 1 (by omega)
  obtain ⟨ha, hc, hv⟩ := (hB.slot 1 (by omega)).form
  rw [hj] at hv
  have c0 := (hB.slot 1 (by omega)).cell
  rw [hv] at c0
  have hvb : ∀ b, (Value.slice a n cap).ownBlock = some b → b < w.heap.size := fun b e => (hO.lt b e).2
  obtain ⟨M, hM⟩ : ∃ M : Int, -1 - (j : Int) = M := ⟨_, rfl⟩
  have hmk : ∀ i, mkF j i = .float .f64 (floatOfInt .f64 M) := fun i => by rw [← hM]; rfl
  have e1 : marksL (mkF j) (n * 1) ++ [.float .f64 (floatOfInt .f64 M)] = marksL (mkF j) ((n + 1) * 1) := by rw [← mkF_app, show marksL (mkF j) (1 * 1) = [.float .f64 (floatOfInt .f64 M)] by rw [← hmk 0]; rfl]
  have e2 : marksL (mkF j) (n * 1) ++ [.float .f64 (floatOfInt .f64 M), .float .f64 (floatOfInt .f64 M)] = marksL (mkF j) ((n + 2) * 1) := by rw [← mkF_app, show marksL (mkF j) (2 * 1) = [.float .f64 (floatOfInt .f64 M), .float .f64 (floatOfInt .f64 M)] by rw [← hmk 0]; rfl]
  have e3 : marksL (mkF j) (n * 1) ++ [.float .f64 (floatOfInt .f64 M), .float .f64 (floatOfInt .f64 M), .float .f64 (floatOfInt .f64 M)] = marksL (mkF j) ((n + 3) * 1) := by rw [← mkF_app, show marksL (mkF j) (3 * 1) = [.float .f64 (floatOfInt .f64 M), .float .f64 (floatOfInt .f64 M), .float .f64 (floatOfInt .f64 M)] by rw [← hmk 0]; rfl]
  have hM0 : M ≤ -1 := by omega
  have hM1 : -4000001 ≤ M := by omega
  have HE1 := hidK e1
  have HE2 := hidK e2
  have HE3 := hidK e3
  have HMK := hidK hmk
  have HB := hidK hB
  have HJ := hidK hj
  have HV := hidK hv
  have HU := hidK (MarkUp.start (f := mkF j) hO)
  clear e1 e2 e3 hmk hB hj hv hO
  go_enter Tryz.func32, Tryz.ntmps32
  go_wp2
  go_loopw [5] (fun i wr => ∃ k : Nat, k ≤ n ∧ i = .int .i64 k ∧ MarkUp 106 1 (mkF j) wr (.slice a n cap) n k ∧ Keeps (fun k => (Value.slice a n cap).ownBlock = some k) w wr) (fun i _ => n - (intOf i).toNat)
  case atStart => exact ⟨0, Nat.zero_le _, rfl, HU.out, Keeps.refl _ _⟩
  case round =>
    obtain ⟨k, hk, rfl, hup, K⟩ := hrel
    by_cases hk2 : k < n
    · rcases hup with ⟨_, h0⟩ | ⟨g, cp, F, hv', hr, hnc, hcm, hF⟩
      · omega
      · simp only [Value.slice.injEq, true_and] at hv'
        obtain ⟨rfl, rfl⟩ := hv'
        have c1 := hr.cell (i := k) (by omega)
        have f1 := hr.frozen k
        obtain ⟨u, hu⟩ : ∃ u, u = F k := ⟨_, rfl⟩
        rw [← hu] at c1
        have hk3 : (k : Int) < (n : Int) := by omega
        clear hu c0
        go_wp2
        go_roundw
        case rel => exact ⟨k + 1, by omega, by go_num, .inr ⟨g, cap, _, rfl, hr.set k (.float .f64 (floatOfInt .f64 M)), hnc, hcm, fun i hi => by by_cases h : i = k <;> simp [h, HMK.out]; rw [hF i (by omega)]; exact HMK.out i⟩, K.trans ⟨rfl, rfl, rfl, by rw [Deep.nblk_setCell]; exact Nat.le_refl _, fun q _ ho => Deep.blk_setCell_other _ _ _ _ (fun e => ho (by simp at e; rw [e]; rfl))⟩⟩
        case measure => simp [intOf]; omega
    · obtain rfl : k = n := by omega
      have A0 := AppSt.start hup.marked K hvb (by omega)
      have e1 := HE1.out
      have e2 := HE2.out
      have e3 := HE3.out
      clear hup c0
      go_wp2_with (first
        | (at_builtin; refine wpList_append_marked _ rfl (.tmp 27) (.tmp 29) 74 rfl 106 i0 (.float .f64 0) 1 8 Tryz.underlying74 hi0 hz0 hz1 hz2 rfl (by omega) (mkF j) (.slice a k cap) k k rfl (A0.alloc _) ⟨wr.heap.size, 0, none⟩ 1 1 [.float .f64 (floatOfInt .f64 M)] rfl rfl (World.news_of_block (heap_alloc_new wr _)) (by simp; rfl) e1 (by omega) (by omega) (by unfold maxLen; omega) (by omega) ?_; intro g1 cap1 w1 r1 hr1 hs1 m1 grow1 nm1; have A1 := A0.next (cap' := cap1) grow1 m1 hr1 nm1 (by omega))
        | (at_builtin; refine wpList_append_marked _ rfl (.tmp 31) (.tmp 34) 74 rfl 106 i0 (.float .f64 0) 1 8 Tryz.underlying74 hi0 hz0 hz1 hz2 rfl (by omega) (mkF j) (.slice a k cap) k r1 rfl (A1.alloc _) ⟨w1.heap.size, 0, none⟩ 2 2 [.float .f64 (floatOfInt .f64 M), .float .f64 (floatOfInt .f64 M)] rfl rfl (World.news_of_block (heap_alloc_new w1 _)) (by simp; rfl) e2 (by omega) (by omega) (by unfold maxLen; omega) (by omega) ?_; intro g2 cap2 w2 r2 hr2 hs2 m2 grow2 nm2; have A2 := A1.next (cap' := cap2) grow2 m2 hr2 nm2 (by omega))
        | (at_builtin; refine wpList_append_marked _ rfl (.tmp 36) (.tmp 40) 74 rfl 106 i0 (.float .f64 0) 1 8 Tryz.underlying74 hi0 hz0 hz1 hz2 rfl (by omega) (mkF j) (.slice a k cap) k r2 rfl (A2.alloc _) ⟨w2.heap.size, 0, none⟩ 3 3 [.float .f64 (floatOfInt .f64 M), .float .f64 (floatOfInt .f64 M), .float .f64 (floatOfInt .f64 M)] rfl rfl (World.news_of_block (heap_alloc_new w2 _)) (by simp; rfl) e3 (by omega) (by omega) (by unfold maxLen; omega) (by omega) ?_; intro g3 cap3 w3 r3 hr3 hs3 m3 grow3 nm3; have A3 := A2.next (cap' := cap3) grow3 m3 hr3 nm3 (by omega); have hB3 := A3.book HB.out hab; have cP3 := (hB3.slot 1 (by omega)).cell; have ownH := (hB3.slot 1 (by omega)).own; rw [HJ.out] at ownH; rw [HV.out] at cP3 ownH)
        | (at_builtin; refine wpList_append_lies _ rfl (.tmp 46) (.tmp 51) 25 rfl 0 74 i1 (.slice none 0 0) 1 24 Tryz.underlying25 hi1 hy0 hy1 hy2 rfl (by omega) (.slice ha (4 * j) hc) (4 * j) ((es 1).map Entry.val) rfl (ownH.alloc _) ⟨w3.heap.size, 0, none⟩ 4 4 [.slice a k cap, .slice (some ⟨g1, 0, none⟩) (k + 1) cap1, .slice (some ⟨g2, 0, none⟩) (k + 2) cap2, .slice (some ⟨g3, 0, none⟩) (k + 3) cap3] rfl rfl (World.news_of_block (heap_alloc_new w3 _)) (by simp [Value.oneCell']) (by omega) (by unfold maxLen; omega) (by omega) (by simp) _ rfl ?_; intro g4 cap4 w4 own4 grow4 hat hlt4; rw [← HV.out] at grow4; obtain ⟨cP4, fP4⟩ := hB3.at4 (by omega) grow4; rw [HV.out] at cP4)
        | fail)
      go_end0
      exact ⟨rfl, keep_done HB.out (by omega) HJ.out A3 rfl hab own4 grow4 (by rw [HV.out]; rcases hat with h | h; exact .inl h; exact .inr (by rw [h]))⟩

end Go.Proofs.YtgpaajdfkekjiaaGreatDoor
