/-
  What the program's reader does with a line: (*reader).numbers of package text, against the plain reading.
-/
import Derived.Test.YtgpaajdfkekjiaaGreatDoorNumsOf
namespace Go.Proofs.YtgpaajdfkekjiaaGreatDoor
open Go.RowKit

theorem line_parts {M R rest : List UInt8} {ns : List Nat} (h0 : ns ≠ []) (h : IsLine M R ns rest) : ∃ l, R = M ++ l ++ 10 :: rest ∧ (10 : UInt8) ∉ l ∧ words l = ns.map Lib.decDigits := by
  obtain ⟨ms, m, rfl⟩ : ∃ ms m, ns = ms ++ [m] := ⟨_, _, (List.dropLast_concat_getLast h0).symm⟩
  refine ⟨pre ms ++ Lib.decDigits m, ?_, nums_no10 ms m, words_nums ms m⟩
  unfold IsLine at h
  rw [h, lineB_snoc]
  simp
theorem line_first {M R l b rest : List UInt8} {ns : List Nat} (hM : (10 : UInt8) ∉ M) (hR : R = M ++ l ++ 10 :: b) (hl : (10 : UInt8) ∉ l) (h0 : ns ≠ []) (h : IsLine M R ns rest) : words l = ns.map Lib.decDigits ∧ rest = b := by
  obtain ⟨l', h1, h2, h3⟩ := line_parts h0 h
  have e : (M ++ l) ++ 10 :: b = (M ++ l') ++ 10 :: rest := hR.symm.trans h1
  obtain ⟨e1, e2⟩ := first_split (by simp [hM, hl]) (by simp [hM, h2]) e
  rw [List.append_cancel_left e1]
  exact ⟨h3, e2.symm⟩
theorem line_of_words {M R l b : List UInt8} {ns : List Nat} (hR : R = M ++ l ++ 10 :: b) (hw : words l = ns.map Lib.decDigits) : IsLine M R ns b := by
  obtain ⟨ms, m, rfl, rfl⟩ := words_join _ l ns hw rfl
  unfold IsLine
  rw [hR, lineB_snoc]
  simp

theorem no_end {M R : List UInt8} {c : Nat} (hc : 0 < c) (h : (10 : UInt8) ∉ R) : lineF M c R = none := lineF_none (fun ns rest h1 _ h3 => by
  obtain ⟨l, e, _⟩ := line_parts (fun e => by rw [e] at h1; simp at h1; omega) h3
  exact h (by rw [e]; simp))
theorem no_mark {M R a b : List UInt8} {c : Nat} (hc : 0 < c) (hM : (10 : UInt8) ∉ M) (hR : R = a ++ 10 :: b) (ha : (10 : UInt8) ∉ a) (hp : M.isPrefixOf a = false) : lineF M c R = none := lineF_none (fun ns rest h1 _ h3 => by
  obtain ⟨l, e, hl, _⟩ := line_parts (fun e => by rw [e] at h1; simp at h1; omega) h3
  obtain ⟨e1, _⟩ := first_split ha (by simp [hM, hl]) (hR.symm.trans e)
  rw [e1, List.isPrefixOf_iff_prefix.2 (List.prefix_append M l)] at hp
  cases hp)
theorem no_count {M R l b : List UInt8} {c : Nat} (hc : 0 < c) (hM : (10 : UInt8) ∉ M) (hR : R = M ++ l ++ 10 :: b) (hl : (10 : UInt8) ∉ l) (hp : (words l).length ≠ c) : lineF M c R = none := lineF_none (fun ns rest h1 _ h3 => by
  obtain ⟨e, _⟩ := line_first hM hR hl (fun e => by rw [e] at h1; simp at h1; omega) h3
  rw [e, List.length_map] at hp
  exact hp h1)
theorem no_nums {M R l b : List UInt8} {c : Nat} (hc : 0 < c) (hM : (10 : UInt8) ∉ M) (hR : R = M ++ l ++ 10 :: b) (hl : (10 : UInt8) ∉ l) (hp : NoNums (words l)) : lineF M c R = none := lineF_none (fun ns rest h1 h2 h3 => by
  obtain ⟨e, _⟩ := line_first hM hR hl (fun e => by rw [e] at h1; simp at h1; omega) h3
  obtain ⟨n, hn, h100⟩ := hp ns e
  have := h2 n hn
  omega)

theorem hi9 : (Tryz.prog.info? 9).map (fun i => (i.zero, i.size, i.bytes)) = some (some (.string ByteArray.empty), 1, 16) := by kernel_rfl

theorem bsize (l : List UInt8) : (⟨l.toArray⟩ : ByteArray).size = l.length := by show l.toArray.size = _; simp

theorem cut_miss_is (R : List UInt8) (h : (10 : UInt8) ∉ R) (hl : R.length ≤ 2000) (w : World) (hL : Lib0 w) :
    Calls Tryz.prog 94 #[.string ⟨R.toArray⟩, .string ⟨#[10]⟩] w fun e w' => e = .returned (.tuple #[.string ⟨R.toArray⟩, .string ⟨([] : List UInt8).toArray⟩, .bool false]) ∧ ∃ n, w' = w.drewN n := by
  obtain ⟨m, hm⟩ := hL.mx
  have c := Any.strings_Cut lays145 ⟨R.toArray⟩ ⟨#[10]⟩ m w (by rw [bsize]; omega) hm
  have e : Lib.cut (⟨R.toArray⟩ : ByteArray).data.toList (⟨#[10]⟩ : ByteArray).data.toList = (R, [], false) := by simpa using cut_miss 10 R h
  rw [e] at c
  exact c
theorem cut_hit_is (a b : List UInt8) (h : (10 : UInt8) ∉ a) (hl : (a ++ 10 :: b).length ≤ 2000) (w : World) (hL : Lib0 w) :
    Calls Tryz.prog 94 #[.string ⟨(a ++ 10 :: b).toArray⟩, .string ⟨#[10]⟩] w fun e w' => e = .returned (.tuple #[.string ⟨a.toArray⟩, .string ⟨b.toArray⟩, .bool true]) ∧ ∃ n, w' = w.drewN n := by
  obtain ⟨m, hm⟩ := hL.mx
  have c := Any.strings_Cut lays145 ⟨(a ++ 10 :: b).toArray⟩ ⟨#[10]⟩ m w (by rw [bsize]; omega) hm
  have e : Lib.cut (⟨(a ++ 10 :: b).toArray⟩ : ByteArray).data.toList (⟨#[10]⟩ : ByteArray).data.toList = (a, b, true) := cut_hit 10 a b h
  rw [e] at c
  exact c
theorem prefix_is (a M : List UInt8) (w : World) :
    Calls Tryz.prog 95 #[.string ⟨a.toArray⟩, .string ⟨M.toArray⟩] w fun e w' => e = .returned (.tuple #[.string ⟨(Lib.trimPrefix a M).toArray⟩, .bool (M.isPrefixOf a)]) ∧ w' = w :=
  Any.strings_CutPrefix lays103 ⟨a.toArray⟩ ⟨M.toArray⟩ w
theorem split_is (l : List UInt8) (hl : l.length ≤ 2000) (w : World) (hL : Lib0 w) :
    Calls Tryz.prog 96 #[.string ⟨l.toArray⟩, .string ⟨#[32]⟩] w fun e w' => e = .returned (.slice (some ⟨w.heap.size, 0, none⟩) (words l).length (words l).length) ∧ w' = w.alloc (.cells (wcells (words l)).toArray 9) := by
  obtain ⟨m, hm⟩ := hL.mx
  have c := Any.strings_Split lays146 hi9 ⟨l.toArray⟩ ⟨#[32]⟩ m w (by rw [bsize]; omega) hm (by decide)
  obtain ⟨e1, e2⟩ := split_words ⟨l.toArray⟩
  rw [e1, e2] at c
  have e3 : ((words (⟨l.toArray⟩ : ByteArray).data.toList).map (fun w => (⟨w.toArray⟩ : ByteArray))).map Value.string = wcells (words l) := by simp [wcells]
  rw [e3] at c
  exact c

theorem trim_len (a M : List UInt8) (h : a.length ≤ 1000) : (Lib.trimPrefix a M).length ≤ 2000 := by
  unfold Lib.trimPrefix
  split
  · simp; omega
  · omega

theorem words_len (l : List UInt8) : (words l).length ≤ l.length + 1 ∧ ∀ x ∈ words l, x.length ≤ l.length := by
  induction l with
  | nil => simp [words]
  | cons c l ih =>
    unfold words
    split
    · refine ⟨by simp; omega, fun x hx => ?_⟩
      simp only [List.mem_cons] at hx
      rcases hx with rfl | hx
      · simp
      · have := ih.2 x hx; simp; omega
    · split
      · simp
      · rename_i w ws e
        rw [e] at ih
        simp only [List.length_cons, List.mem_cons, forall_eq_or_imp] at ih ⊢
        exact ⟨by omega, by omega, fun x hx => by have := ih.2.2 x hx; omega⟩

/-- The reader, in memory: what is left, and the number of the line. -/
structure RdAt (w : World) (rb : Nat) (R : List UInt8) (line : Nat) : Prop where
  c0 : w.cell? ⟨rb, 0, none⟩ = some (.string ⟨R.toArray⟩)
  c1 : w.cell? ⟨rb, 1, none⟩ = some (.int .i64 line)
  f0 : w.frozen? ⟨rb, 0, none⟩ = false
  f1 : w.frozen? ⟨rb, 1, none⟩ = false
theorem RdAt.lt {w : World} {rb : Nat} {R : List UInt8} {line : Nat} (h : RdAt w rb R line) : rb < w.heap.size := World.block_lt_of_cell? _ _ h.c0
theorem RdAt.blk {w w' : World} {rb : Nat} {R : List UInt8} {line : Nat} (h : RdAt w rb R line) (hb : w'.heap[rb]? = w.heap[rb]?) : RdAt w' rb R line :=
  ⟨(World.cell?_of_block (w := w) hb).trans h.c0, (World.cell?_of_block (w := w) hb).trans h.c1, (World.frozen?_of_block (w := w) hb).trans h.f0, (World.frozen?_of_block (w := w) hb).trans h.f1⟩
theorem RdAt.next {w : World} {rb : Nat} {R : List UInt8} {line : Nat} (h : RdAt w rb R line) : RdAt (w.setCell ⟨rb, 1, none⟩ (.int .i64 (line + 1 : Nat))) rb R (line + 1) :=
  ⟨by rw [World.cell?_setCell_other _ _ _ _ (by simp)]; exact h.c0, World.cell?_setCell_same' _ _ _ (by rw [h.c1]; rfl), by rw [World.frozen?_setCell]; exact h.f0, by rw [World.frozen?_setCell]; exact h.f1⟩
theorem RdAt.left {w : World} {rb : Nat} {R b : List UInt8} {line : Nat} (h : RdAt w rb R line) : RdAt (w.setCell ⟨rb, 0, none⟩ (.string ⟨b.toArray⟩)) rb b line :=
  ⟨World.cell?_setCell_same' _ _ _ (by rw [h.c0]; rfl), by rw [World.cell?_setCell_other _ _ _ _ (by simp)]; exact h.c1, by rw [World.frozen?_setCell]; exact h.f0, by rw [World.frozen?_setCell]; exact h.f1⟩
theorem RdAt.below {w w' : World} {rb : Nat} {R : List UInt8} {line : Nat} (h : RdAt w rb R line) (hb : Below w.heap.size w w') : RdAt w' rb R line := h.blk (hb.block rb h.lt)
theorem RdAt.drewN {w : World} {rb : Nat} {R : List UInt8} {line : Nat} (h : RdAt w rb R line) (n : Nat) : RdAt (w.drewN n) rb R line := ⟨h.c0, h.c1, h.f0, h.f1⟩
theorem Lib0.drewN {w : World} (h : Lib0 w) (n : Nat) : Lib0 (w.drewN n) := ⟨h.mx, h.es, h.er, h.tab⟩
theorem Lib0.set {w : World} (h : Lib0 w) {rb i : Nat} (hr : ¬ isGlob rb) (v : Value) : Lib0 (w.setCell ⟨rb, i, none⟩ v) := h.blocks (fun _ hk => Deep.blk_setCell_other _ _ _ _ (fun e => hr (by rw [← show _ = rb from e]; exact hk)))

theorem Span.set1 (w : World) (rb i : Nat) (v : Value) : Span rb (rb + 1) w (w.setCell ⟨rb, i, none⟩ v) := Span.setCell (Span.refl rb (rb + 1) w) (p := ⟨rb, i, none⟩) (Nat.le_refl rb) (Nat.lt_succ_self rb) v
theorem Span.drewN {lo hi : Nat} {a b : World} (h : Span lo hi a b) (n : Nat) : Span lo hi a (b.drewN n) := ⟨h.os, h.tape, h.output, h.size, h.block⟩

/-- What the next line comes to: numbers, or none. -/
def LineRes (M : List UInt8) (c : Nat) (R : List UInt8) (line rb : Nat) (w : World) (e : Ending) (w' : World) : Prop :=
  Span rb (rb + 1) w w' ∧ ((∃ ns g R', Got M c R ns R' ∧ (∀ n ∈ ns, n < 9223372036854775808) ∧ RdAt w' rb R' (line + 1) ∧ R'.length ≤ R.length ∧ e = .returned (.tuple #[.slice (some ⟨g, 0, none⟩) ns.length ns.length, .bool true]) ∧ w.heap.size ≤ g ∧ w'.rowIs g 3 ns.length (upTo ns)) ∨
    (∃ R', lineF M c R = none ∧ RdAt w' rb R' (line + 1) ∧ e = .returned (.tuple #[.slice none 0 0, .bool false])))

set_option maxHeartbeats 2000000 in
set_option maxRecDepth 100000 in
theorem numbers_any (M R : List UInt8) (c line rb : Nat) (w : World) (hL : Lib0 w) (hg : ¬ isGlob rb) (hr : RdAt w rb R line) (hR : R.length ≤ 1000) (hM : M.length ≤ 1000) (hM10 : (10 : UInt8) ∉ M) (hc : 0 < c) (hc5 : c ≤ 5) (hl : line ≤ 100) :
    Calls Tryz.prog 70 #[.pointer (some ⟨rb, 0, none⟩), .string ⟨M.toArray⟩, .int .i64 c] w (LineRes M c R line rb w) := by
  have hcast : ((line + 1 : Nat) : Int) = (line : Int) + 1 := by omega
  obtain ⟨w1, hw1⟩ : ∃ w1, w1 = w.setCell ⟨rb, 1, none⟩ (.int .i64 ((line : Int) + 1)) := ⟨_, rfl⟩
  have hn : RdAt w1 rb R (line + 1) := by rw [hw1, ← hcast]; exact hr.next
  have hL1 : Lib0 w1 := by rw [hw1]; exact hL.set hg _
  have hsp : Span rb (rb + 1) w w1 := by rw [hw1]; exact Span.set1 _ _ _ _
  have c0 := hr.c0
  have c1 := hr.c1
  have f1 := hr.f1
  have hn0 := hn.c0
  rw [hw1] at hn0
  by_cases h10 : (10 : UInt8) ∈ R
  · obtain ⟨a, b, rfl, ha⟩ := List.eq_append_cons_of_mem h10
    have hal : a.length ≤ 1000 := by simp at hR; omega
    have hbl : b.length ≤ 1000 := by simp at hR; omega
    go_enter Tryz.func70, Tryz.ntmps70
    go_wp2_with fail
    rw [← hw1]
    refine (cut_hit_is a b ha (by omega) _ hL1).mono ?_
    rintro e w2 ⟨rfl, d, rfl⟩
    clear hw1 hn0 c0 c1 f1
    have hL2 := hL1.drewN d
    have hn2 := hn.drewN d
    have hsp2 := hsp.drewN d
    obtain ⟨w2, hw2⟩ : ∃ w2, w2 = w1.drewN d := ⟨_, rfl⟩
    rw [← hw2] at hL2 hn2 hsp2 ⊢
    clear hw2 hL1 hn hsp
    cases hp : M.isPrefixOf a
    · go_wp2_with fail
      refine (prefix_is a M _).mono ?_
      rw [hp]
      rintro e w3 ⟨rfl, hw⟩
      have hw := hw.symm
      subst hw
      have htl : (Lib.trimPrefix a M).length ≤ 2000 := trim_len a M (by omega)
      go_wp2_with fail
      refine (split_is _ htl _ hL2).mono ?_
      rintro e w4 ⟨rfl, rfl⟩
      go_wp2
      go_ret2
      exact ⟨hsp2.alloc _, .inr ⟨_, no_mark hc hM10 rfl ha hp, hn2.below ((Below.refl _ _).alloc (Nat.le_refl _) _), rfl⟩⟩
    · obtain ⟨l, rfl⟩ := List.isPrefixOf_iff_prefix.1 hp
      have ht : Lib.trimPrefix (M ++ l) M = l := by simp [Lib.trimPrefix, Lib.hasPrefix]
      have hl10 : (10 : UInt8) ∉ l := fun e => ha (by simp [e])
      have hll : l.length ≤ 2000 := by simp at hal; omega
      have hwl := words_len l
      go_wp2_with fail
      refine (prefix_is _ M _).mono ?_
      rw [hp, ht]
      rintro e w3 ⟨rfl, hw⟩
      have hw := hw.symm
      subst hw
      go_wp2_with fail
      refine (split_is _ hll _ hL2).mono ?_
      rintro e w4 ⟨rfl, hw4⟩
      have hb4 : w4.heap[w2.heap.size]? = some (.cells (wcells (words l)).toArray 9 (0, 0)) := by rw [hw4]; exact heap_alloc_new _ _
      have b4 : Below w2.heap.size w2 w4 := by rw [hw4]; exact (Below.refl _ _).alloc (Nat.le_refl _) _
      have hL4 := hL2.below b4
      have hn4 := hn2.below b4
      have hsp4 : Span rb (rb + 1) w w4 := by rw [hw4]; exact hsp2.alloc _
      have hne : w2.heap.size ≠ rb := by have := hn2.lt; omega
      clear hw4
      by_cases hcount : c = (words l).length
      · subst hcount
        have q0 := hn4.c0
        have qf := hn4.f0
        obtain ⟨w5, hw5⟩ : ∃ w5, w5 = w4.setCell ⟨rb, 0, none⟩ (.string ⟨b.toArray⟩) := ⟨_, rfl⟩
        have hn5 : RdAt w5 rb b (line + 1) := by rw [hw5]; exact hn4.left
        have hL5 : Lib0 w5 := by rw [hw5]; exact hL4.set hg _
        have hsp5 : Span rb (rb + 1) w w5 := by rw [hw5]; exact hsp4.trans (Span.set1 _ _ _ _)
        have hb5 : w5.heap[w2.heap.size]? = some (.cells (wcells (words l)).toArray 9 (0, 0)) := by rw [hw5, Deep.blk_setCell_other _ _ _ _ hne]; exact hb4
        have no := numbersOf_any (words l) w2.heap.size (0, 0) w5 hL5 hb5 (by omega) (fun x hx => by have := hwl.2 x hx; omega)
        clear hb4 b4 hwl hb5
        go_wp2_with fail
        rw [← hw5]
        refine no.mono ?_
        rintro e w6 ⟨b6, hres⟩
        have hn6 := hn5.below b6
        have hsp6 := hsp5.trans (Span.of_below b6)
        rcases hres with ⟨ns, g, hws, hbd, rfl, hge, hrow⟩ | ⟨rfl, hno⟩
        · go_wp2
          go_ret2
          refine ⟨hsp6, .inl ⟨ns, g, b, ⟨by rw [hws]; simp, line_of_words (l := l) (by simp) hws⟩, hbd, hn6, by simp; omega, rfl, Nat.le_trans hsp5.size hge, hrow⟩⟩
        · go_wp2
          go_ret2
          exact ⟨hsp6, .inr ⟨b, no_nums (l := l) (b := b) hc hM10 (by simp) hl10 hno, hn6, rfl⟩⟩
      · go_wp2
        go_ret2
        exact ⟨hsp4, .inr ⟨_, no_count (l := l) (b := b) hc hM10 (by simp) hl10 (fun e => hcount e.symm), hn4, rfl⟩⟩
  · go_enter Tryz.func70, Tryz.ntmps70
    go_wp2_with fail
    rw [← hw1]
    refine (cut_miss_is R h10 (by omega) _ hL1).mono ?_
    rintro e w2 ⟨rfl, d, rfl⟩
    have hL2 := hL1.drewN d
    have hn2 := hn.drewN d
    have hsp2 := hsp.drewN d
    obtain ⟨w2, hw2⟩ : ∃ w2, w2 = w1.drewN d := ⟨_, rfl⟩
    rw [← hw2] at hL2 hn2 hsp2 ⊢
    clear hw1 hn0 c0 c1 f1 hw2
    go_wp2_with fail
    refine (prefix_is R M _).mono ?_
    rintro e w3 ⟨rfl, hw⟩
    have hw := hw.symm
    subst hw
    have htl : (Lib.trimPrefix R M).length ≤ 2000 := trim_len R M (by omega)
    go_wp2_with fail
    refine (split_is _ htl _ hL2).mono ?_
    rintro e w4 ⟨rfl, rfl⟩
    go_wp2
    go_ret2
    exact ⟨hsp2.alloc _, .inr ⟨_, no_end hc h10, hn2.below ((Below.refl _ _).alloc (Nat.le_refl _) _), rfl⟩⟩

end Go.Proofs.YtgpaajdfkekjiaaGreatDoor
