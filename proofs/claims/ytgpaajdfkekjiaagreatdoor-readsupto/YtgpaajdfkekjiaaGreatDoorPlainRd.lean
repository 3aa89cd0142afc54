/-
  Lines of numbers, in plain bytes: how they are written, and that they can be read in one way.
  How a text is read, line by line, in plain bytes: the document's own reading. A state is what has been read so far and what is left; a step reads one line; what the reading ends with is one answer.
  A line of numbers gone through byte by byte, in plain bytes: what its parts tell of the whole.
-/
import Derived.Lib.ItoaNum
import Derived.Lib.Split
import Derived.Lib.SplitLaws
import Derived.Lib.AtoiAllCases
import Derived.Lib.Strings
namespace Go.Proofs.YtgpaajdfkekjiaaGreatDoor
open Go

/-- The first k numbers, a blank between two. -/
def numsTo (ns : List Nat) : Nat → List UInt8
  | 0 => []
  | k + 1 => numsTo ns k ++ (if 0 < k then [32] else []) ++ Lib.decDigits (ns.getD k 0)
def lineB (ns : List Nat) : List UInt8 := numsTo ns ns.length ++ [10]

theorem dec_len (n : Nat) (h : n < 100) : (Lib.decDigits n).length ≤ 2 := by
  rw [Lib.decDigits]
  split
  · simp
  · rw [Lib.decDigits, dif_pos (by omega)]
    simp
theorem numsTo_len (ns : List Nat) (k : Nat) (h : ∀ i, i < k → ns.getD i 0 < 100) : (numsTo ns k).length ≤ 3 * k := by
  induction k with
  | zero => simp [numsTo]
  | succ k ih =>
    have h1 := ih (fun i hi => h i (by omega))
    have h2 := dec_len (ns.getD k 0) (h k (by omega))
    have h3 : (if 0 < k then [(32 : UInt8)] else []).length ≤ 1 := by split <;> simp
    simp only [numsTo, List.length_append]
    omega
theorem numsTo_first (ns : List Nat) : numsTo ns 1 = Lib.decDigits (ns.getD 0 0) := by simp [numsTo]
theorem numsTo_next (ns : List Nat) (k : Nat) (h : 0 < k) : numsTo ns (k + 1) = numsTo ns k ++ [32] ++ Lib.decDigits (ns.getD k 0) := by simp [numsTo, h]

/-- Each number with a blank behind it. -/
def pre : List Nat → List UInt8
  | [] => []
  | n :: ns => Lib.decDigits n ++ 32 :: pre ns
theorem pre_append (as bs : List Nat) : pre (as ++ bs) = pre as ++ pre bs := by
  induction as with
  | nil => rfl
  | cons a as ih => simp [pre, ih]
theorem pre_snoc (as : List Nat) (b : Nat) : pre (as ++ [b]) = pre as ++ Lib.decDigits b ++ [32] := by simp [pre_append, pre]
theorem numsTo_pre (ns : List Nat) (k : Nat) (hk : k < ns.length) : numsTo ns (k + 1) = pre (ns.take k) ++ Lib.decDigits (ns.getD k 0) := by
  induction k with
  | zero => simp [numsTo_first, pre]
  | succ k ih =>
    rw [numsTo_next ns (k + 1) (by omega), ih (by omega)]
    have e : ns.take (k + 1) = ns.take k ++ [ns.getD k 0] := by
      rw [List.take_add_one]
      simp [show k < ns.length by omega]
    rw [e, pre_snoc]
theorem lineB_snoc (ms : List Nat) (m : Nat) : lineB (ms ++ [m]) = pre ms ++ Lib.decDigits m ++ [10] := by
  have h := numsTo_pre (ms ++ [m]) ms.length (by simp)
  unfold lineB
  rw [show (ms ++ [m]).length = ms.length + 1 by simp, h]
  simp

theorem dec_digit (n : Nat) : ∀ c ∈ Lib.decDigits n, 48 ≤ c.toNat ∧ c.toNat ≤ 57 := by
  induction n using Nat.strongRecOn with
  | _ n ih =>
    intro c hc
    have one : ∀ d, d < 10 → (UInt8.ofNat (48 + d)).toNat = 48 + d := fun d hd => by
      rw [UInt8.toNat_ofNat']; omega
    rw [Lib.decDigits] at hc
    split at hc
    · rename_i h
      simp only [List.mem_singleton] at hc
      subst hc
      rw [one n h]; omega
    · rename_i h
      simp only [List.mem_append, List.mem_singleton] at hc
      rcases hc with hc | rfl
      · exact ih _ (by omega) c hc
      · rw [one _ (by omega)]; omega
theorem dec_ne (n : Nat) : Lib.decDigits n ≠ [] := by
  rw [Lib.decDigits]
  split <;> simp
theorem dec_no32 (n : Nat) : (32 : UInt8) ∉ Lib.decDigits n := fun h => by
  have := dec_digit n _ h
  simp at this
theorem dec_no10 (n : Nat) : (10 : UInt8) ∉ Lib.decDigits n := fun h => by
  have := dec_digit n _ h
  simp at this

/-- The number that digits spell. -/
def valD (l : List UInt8) : Nat := l.foldl (fun a c => 10 * a + (c.toNat - 48)) 0
theorem valD_snoc (l : List UInt8) (c : UInt8) : valD (l ++ [c]) = 10 * valD l + (c.toNat - 48) := by simp [valD, List.foldl_append]
theorem valD_dec (n : Nat) : valD (Lib.decDigits n) = n := by
  induction n using Nat.strongRecOn with
  | _ n ih =>
    have one : ∀ d, d < 10 → (UInt8.ofNat (48 + d)).toNat = 48 + d := fun d hd => by
      rw [UInt8.toNat_ofNat']; omega
    rw [Lib.decDigits]
    split
    · rename_i h
      simp [valD, Nat.mod_eq_of_lt (show 48 + n < 256 by omega)]
    · rw [valD_snoc, ih _ (by omega), one _ (by omega)]
      omega
theorem dec_inj {a b : Nat} (h : Lib.decDigits a = Lib.decDigits b) : a = b := by
  have := congrArg valD h
  rwa [valD_dec, valD_dec] at this

theorem valD_pos : ∀ (l : List UInt8) (c : UInt8), 49 ≤ c.toNat → 1 ≤ valD (c :: l) := by
  intro l
  have h : ∀ (l : List UInt8) (a : Nat), 1 ≤ a → 1 ≤ l.foldl (fun a c => 10 * a + (c.toNat - 48)) a := by
    intro l
    induction l with
    | nil => intro a h; exact h
    | cons x l ih => intro a h; exact ih _ (by show 1 ≤ 10 * a + (x.toNat - 48); omega)
  intro c hc
  exact h l _ (by show 1 ≤ 10 * 0 + (c.toNat - 48); omega)

/-- Digits with no nought ahead are the numeral of what they spell. -/
theorem dec_valD : ∀ (k : Nat) (l : List UInt8), l.length = k → l ≠ [] → (∀ c ∈ l, 48 ≤ c.toNat ∧ c.toNat ≤ 57) → (1 < l.length → l.head? ≠ some 48) → Lib.decDigits (valD l) = l := by
  intro k
  induction k with
  | zero => intro l h h0; exact absurd (List.length_eq_zero_iff.1 h) h0
  | succ k ih =>
    intro l hl h0 hd hz
    obtain ⟨l', c, rfl⟩ : ∃ l' c, l = l' ++ [c] := ⟨_, _, (List.dropLast_concat_getLast h0).symm⟩
    have hc := hd c (by simp)
    have back : UInt8.ofNat (48 + (c.toNat - 48)) = c := by
      rw [show 48 + (c.toNat - 48) = c.toNat by omega]; simp
    rw [valD_snoc]
    by_cases h' : l' = []
    · subst h'
      rw [Lib.decDigits, dif_pos (by simp [valD]; omega)]
      simp only [valD, List.foldl_nil, List.nil_append, Nat.mul_zero, Nat.zero_add, back]
    · have hz' : l'.head? ≠ some 48 := by
        have := hz (by have := List.length_pos_iff.2 h'; simp; omega)
        cases l' with
        | nil => exact absurd rfl h'
        | cons x l' => simpa using this
      have hpos : 1 ≤ valD l' := by
        cases l' with
        | nil => exact absurd rfl h'
        | cons x l'' =>
          refine valD_pos l'' x ?_
          have hx := (hd x (by simp)).1
          have : x ≠ 48 := by simpa using hz'
          have : x.toNat ≠ 48 := fun e => this (UInt8.toNat_inj.1 e)
          omega
      rw [Lib.decDigits, dif_neg (by omega), show (10 * valD l' + (c.toNat - 48)) / 10 = valD l' by omega, show (10 * valD l' + (c.toNat - 48)) % 10 = c.toNat - 48 by omega, back, ih l' (by simpa using hl) h' (fun c hc => hd c (by simp [hc])) (fun _ => hz')]

/-- The words of a line: it is cut at each blank. -/
def words : List UInt8 → List (List UInt8)
  | [] => [[]]
  | c :: l => if c = 32 then [] :: words l else match words l with
    | [] => [[c]]
    | w :: ws => (c :: w) :: ws
theorem words_ne (l : List UInt8) : words l ≠ [] := by
  cases l with
  | nil => simp [words]
  | cons c l =>
    unfold words
    split
    · simp
    · split <;> simp
theorem words_one (a : List UInt8) (h : (32 : UInt8) ∉ a) : words a = [a] := by
  induction a with
  | nil => rfl
  | cons c a ih =>
    simp only [List.mem_cons, not_or] at h
    unfold words
    rw [if_neg (Ne.symm h.1), ih h.2]
theorem words_cons (a b : List UInt8) (h : (32 : UInt8) ∉ a) : words (a ++ 32 :: b) = a :: words b := by
  induction a with
  | nil => simp [words]
  | cons c a ih =>
    simp only [List.mem_cons, not_or] at h
    rw [List.cons_append, words, if_neg (Ne.symm h.1), ih h.2]
theorem words_nums (ms : List Nat) (m : Nat) : words (pre ms ++ Lib.decDigits m) = (ms ++ [m]).map Lib.decDigits := by
  induction ms with
  | nil => simp [pre, words_one _ (dec_no32 m)]
  | cons a ms ih =>
    rw [pre, List.append_assoc, List.cons_append, words_cons _ _ (dec_no32 a), ih]
    simp
theorem first_split {c : UInt8} {a a' b b' : List UInt8} (ha : c ∉ a) (ha' : c ∉ a') (h : a ++ c :: b = a' ++ c :: b') : a = a' ∧ b = b' := by
  induction a generalizing a' with
  | nil =>
    cases a' with
    | nil => simpa using h
    | cons x a' => simp only [List.nil_append, List.cons_append, List.cons.injEq] at h; simp [h.1] at ha'
  | cons x a ih =>
    cases a' with
    | nil => simp only [List.nil_append, List.cons_append, List.cons.injEq] at h; simp [h.1] at ha
    | cons y a' =>
      simp only [List.cons_append, List.cons.injEq] at h
      simp only [List.mem_cons, not_or] at ha ha'
      have := ih ha.2 ha'.2 h.2
      exact ⟨by rw [h.1, this.1], this.2⟩

theorem index_hit (c : UInt8) (a b : List UInt8) (h : c ∉ a) : Lib.index (a ++ c :: b) [c] = (a.length : Int) := by
  induction a with
  | nil => simp [Lib.index]
  | cons x a ih =>
    simp only [List.mem_cons, not_or] at h
    have e : ([c].isPrefixOf (x :: (a ++ c :: b))) = false := by simp [List.isPrefixOf, h.1]
    rw [List.cons_append, Lib.index, e, ih h.2, if_neg (by simp), if_neg (by rw [beq_iff_eq]; omega)]
    simp
theorem index_miss (c : UInt8) (a : List UInt8) (h : c ∉ a) : Lib.index a [c] = -1 := by
  induction a with
  | nil => simp [Lib.index]
  | cons x a ih =>
    simp only [List.mem_cons, not_or] at h
    have e : ([c].isPrefixOf (x :: a)) = false := by simp [List.isPrefixOf, h.1]
    rw [Lib.index, e, ih h.2]
    simp
theorem cut_hit (c : UInt8) (a b : List UInt8) (h : c ∉ a) : Lib.cut (a ++ c :: b) [c] = (a, b, true) := by
  unfold Lib.cut
  rw [index_hit c a b h, if_pos (by omega)]
  simp
theorem cut_miss (c : UInt8) (a : List UInt8) (h : c ∉ a) : Lib.cut a [c] = (a, [], false) := by
  unfold Lib.cut
  rw [index_miss c a h, if_neg (by omega)]

theorem splitK_words : ∀ (k : Nat) (s : List UInt8), s.count 32 = k → Lib.splitK [32] 0 k s = words s := by
  intro k
  induction k with
  | zero =>
    intro s h
    rw [Lib.splitK, words_one s (List.count_eq_zero.1 h)]
  | succ k ih =>
    intro s h
    have hm : (32 : UInt8) ∈ s := List.count_pos_iff.1 (by omega)
    obtain ⟨a, b, rfl, ha⟩ := List.eq_append_cons_of_mem hm
    rw [Lib.splitK, index_hit 32 a b ha, if_neg (by rw [beq_iff_eq]; omega), words_cons a b ha, show ((a.length : Int)).toNat = a.length by omega]
    have hb : b.count 32 = k := by
      rw [List.count_append, List.count_eq_zero.2 ha, List.count_cons_self] at h
      omega
    rw [show List.drop (a.length + [(32 : UInt8)].length) (a ++ 32 :: b) = b by simp, ih b hb]
    simp
theorem split_words (s : ByteArray) : Lib.splitB ⟨#[32]⟩ 0 (Lib.countB s ⟨#[32]⟩) s = (words s.data.toList).map (fun w => ⟨w.toArray⟩) ∧ Lib.countB s ⟨#[32]⟩ + 1 = (words s.data.toList).length := by
  have hc : Lib.countB s ⟨#[32]⟩ = s.data.toList.count 32 := Lib.count_one 32 s.data.toList
  have h := Lib.splitB_data ⟨#[32]⟩ 0 (Lib.countB s ⟨#[32]⟩) s
  rw [show (⟨#[32]⟩ : ByteArray).data.toList = [32] from rfl, hc, splitK_words _ _ rfl] at h
  have hl := Lib.splitB_all ⟨#[32]⟩ (by decide) 0 _ s rfl
  constructor
  · rw [← h, List.map_map, hc]
    conv => lhs; rw [← List.map_id (Lib.splitB _ _ _ _)]
    refine List.map_congr_left (fun x _ => ?_)
    simp
  · rw [← h, List.length_map, ← hc, hl]

theorem map_dec_inj : ∀ {as bs : List Nat}, as.map Lib.decDigits = bs.map Lib.decDigits → as = bs
  | [], [], _ => rfl
  | [], _ :: _, h => by simp at h
  | _ :: _, [], h => by simp at h
  | a :: as, b :: bs, h => by
    simp only [List.map_cons, List.cons.injEq] at h
    rw [dec_inj h.1, map_dec_inj h.2]

/-- The line ahead of the rest: a mark, then just these numbers. -/
def IsLine (mark : List UInt8) (r : List UInt8) (ns : List Nat) (rest : List UInt8) : Prop := r = mark ++ lineB ns ++ rest
theorem line_inj {mark r rest rest' : List UInt8} {ns ns' : List Nat} (h0 : ns ≠ []) (h0' : ns' ≠ []) (h : IsLine mark r ns rest) (h' : IsLine mark r ns' rest') : ns = ns' ∧ rest = rest' := by
  obtain ⟨ms, m, rfl⟩ : ∃ ms m, ns = ms ++ [m] := ⟨_, _, (List.dropLast_concat_getLast h0).symm⟩
  obtain ⟨ms', m', rfl⟩ : ∃ ms m, ns' = ms ++ [m] := ⟨_, _, (List.dropLast_concat_getLast h0').symm⟩
  unfold IsLine at h h'
  rw [lineB_snoc] at h h'
  have no : ∀ (ms : List Nat) (m : Nat), (10 : UInt8) ∉ pre ms ++ Lib.decDigits m := by
    intro ms m
    induction ms with
    | nil => simpa [pre] using dec_no10 m
    | cons a ms ih =>
      simp only [pre, List.append_assoc, List.cons_append, List.mem_append, List.mem_cons, not_or] at ih ⊢
      exact ⟨dec_no10 a, by decide, ih.1, ih.2⟩
  have e : (pre ms ++ Lib.decDigits m) ++ 10 :: rest = (pre ms' ++ Lib.decDigits m') ++ 10 :: rest' := by
    have : mark ++ ((pre ms ++ Lib.decDigits m) ++ 10 :: rest) = mark ++ ((pre ms' ++ Lib.decDigits m') ++ 10 :: rest') := by
      simpa using h.symm.trans h'
    exact List.append_cancel_left this
  obtain ⟨e1, e2⟩ := first_split (no _ _) (no _ _) e
  refine ⟨?_, e2⟩
  have := congrArg words e1
  rw [words_nums, words_nums] at this
  exact map_dec_inj this

theorem nums_no10 (ms : List Nat) (m : Nat) : (10 : UInt8) ∉ pre ms ++ Lib.decDigits m := by
  induction ms with
  | nil => simpa [pre] using dec_no10 m
  | cons a ms ih =>
    simp only [pre, List.append_assoc, List.cons_append, List.mem_append, List.mem_cons, not_or] at ih ⊢
    exact ⟨dec_no10 a, by decide, ih.1, ih.2⟩

theorem words_join : ∀ (ws : List (List UInt8)) (l : List UInt8) (ns : List Nat), words l = ws → ws = ns.map Lib.decDigits → ∃ ms m, ns = ms ++ [m] ∧ l = pre ms ++ Lib.decDigits m := by
  intro ws
  induction ws with
  | nil => intro l ns h; exact absurd h (words_ne l)
  | cons w ws ih =>
    intro l ns h hns
    cases ns with
    | nil => simp at hns
    | cons n ns =>
      simp only [List.map_cons, List.cons.injEq] at hns
      by_cases hm : (32 : UInt8) ∈ l
      · obtain ⟨a, b, rfl, ha⟩ := List.eq_append_cons_of_mem hm
        rw [words_cons a b ha] at h
        simp only [List.cons.injEq] at h
        obtain ⟨ms, m, rfl, rfl⟩ := ih b ns h.2 hns.2
        refine ⟨n :: ms, m, rfl, ?_⟩
        rw [h.1, hns.1]
        simp [pre]
      · rw [words_one l hm] at h
        simp only [List.cons.injEq] at h
        obtain rfl : ns = [] := by
          have := hns.2
          rw [← h.2] at this
          simpa using this.symm
        exact ⟨[], n, rfl, by simp [pre, h.1, hns.1]⟩

end Go.Proofs.YtgpaajdfkekjiaaGreatDoor

namespace Go.Proofs.YtgpaajdfkekjiaaGreatDoor
open Go

open Classical in
/-- The next line, if it is a mark and just so many numbers below a hundred. -/
noncomputable def lineF (mark : List UInt8) (count : Nat) (r : List UInt8) : Option (List Nat × List UInt8) :=
  if h : ∃ p : List Nat × List UInt8, p.1.length = count ∧ (∀ n ∈ p.1, n < 100) ∧ IsLine mark r p.1 p.2 then some h.choose else none

theorem lineF_some {mark r rest : List UInt8} {count : Nat} {ns : List Nat} (h0 : 0 < count) (hl : ns.length = count) (hs : ∀ n ∈ ns, n < 100) (h : IsLine mark r ns rest) : lineF mark count r = some (ns, rest) := by
  have hex : ∃ p : List Nat × List UInt8, p.1.length = count ∧ (∀ n ∈ p.1, n < 100) ∧ IsLine mark r p.1 p.2 := ⟨(ns, rest), hl, hs, h⟩
  unfold lineF
  rw [dif_pos hex]
  have hc := hex.choose_spec
  obtain ⟨e1, e2⟩ := line_inj (fun e => by rw [e] at hc; simp at hc; omega) (fun e => by rw [e] at hl; simp at hl; omega) hc.2.2 h
  rw [← e1, ← e2]
theorem lineF_big {mark r rest : List UInt8} {count : Nat} {ns : List Nat} (h0 : 0 < count) (hl : ns.length = count) (hs : ¬ ∀ n ∈ ns, n < 100) (h : IsLine mark r ns rest) : lineF mark count r = none := by
  unfold lineF
  rw [dif_neg]
  rintro ⟨⟨ns', rest'⟩, h1, h2, h3⟩
  obtain ⟨e1, _⟩ := line_inj (fun e => by rw [e] at h1; simp at h1; omega) (fun e => by rw [e] at hl; simp at hl; omega) h3 h
  simp only at e1 h2
  exact hs (by rw [← e1]; exact h2)
theorem lineF_none {mark r : List UInt8} {count : Nat} (h : ∀ ns rest, ns.length = count → (∀ n ∈ ns, n < 100) → IsLine mark r ns rest → False) : lineF mark count r = none := by
  unfold lineF
  rw [dif_neg]
  rintro ⟨⟨ns', rest'⟩, h1, h2, h3⟩
  exact h ns' rest' h1 h2 h3
theorem lineF_spec {mark r rest : List UInt8} {count : Nat} {ns : List Nat} (h : lineF mark count r = some (ns, rest)) : ns.length = count ∧ (∀ n ∈ ns, n < 100) ∧ IsLine mark r ns rest := by
  unfold lineF at h
  split at h
  · rename_i hex
    have := hex.choose_spec
    injection h with h
    rw [h] at this
    exact this
  · cases h

/-- How many inputs, latches, outputs and gates the first line tells. -/
structure Hd where
  n : Nat
  l : Nat
  o : Nat
  g : Nat
def Hd.Ok (h : Hd) : Prop := h.n ≤ 4 ∧ h.l ≤ 4 ∧ h.o ≤ 4 ∧ h.g ≤ 30
structure St where
  h : Option Hd
  i : Nat
  ls : List (Int × Int)
  os : List Int
  gs : List (Int × Int)
  rest : List UInt8
def st0 (s : List UInt8) : St := ⟨none, 0, [], [], [], s⟩
def aag : List UInt8 := [97, 97, 103, 32]

noncomputable def stepHead (r : List UInt8) : Option St := (lineF aag 5 r).bind fun p =>
  if p.1.getD 1 0 ≤ 4 ∧ p.1.getD 2 0 ≤ 4 ∧ p.1.getD 3 0 ≤ 4 ∧ p.1.getD 4 0 ≤ 30 ∧ p.1.getD 0 0 = p.1.getD 1 0 + p.1.getD 2 0 + p.1.getD 4 0 then
    some ⟨some ⟨p.1.getD 1 0, p.1.getD 2 0, p.1.getD 3 0, p.1.getD 4 0⟩, 0, [], [], [], p.2⟩ else none
noncomputable def stepIn (st : St) : Option St := (lineF [] 1 st.rest).bind fun p =>
  if p.1.getD 0 0 = 2 * st.i + 2 then some ⟨st.h, st.i + 1, st.ls, st.os, st.gs, p.2⟩ else none
noncomputable def stepLatch (h : Hd) (st : St) : Option St := (lineF [] 3 st.rest).bind fun p =>
  if p.1.getD 0 0 = 2 * (h.n + st.ls.length) + 2 ∧ p.1.getD 1 0 ≤ 2 * (h.n + h.l + h.g) + 1 ∧ p.1.getD 2 0 ≤ 1 then some ⟨st.h, st.i, st.ls ++ [(((p.1.getD 1 0 : Nat) : Int), ((p.1.getD 2 0 : Nat) : Int))], st.os, st.gs, p.2⟩ else none
noncomputable def stepOut (h : Hd) (st : St) : Option St := (lineF [] 1 st.rest).bind fun p =>
  if p.1.getD 0 0 ≤ 2 * (h.n + h.l + h.g) + 1 then some ⟨st.h, st.i, st.ls, st.os ++ [((p.1.getD 0 0 : Nat) : Int)], st.gs, p.2⟩ else none
noncomputable def stepGate (h : Hd) (st : St) : Option St := (lineF [] 3 st.rest).bind fun p =>
  if p.1.getD 0 0 = 2 * (h.n + h.l + st.gs.length) + 2 ∧ p.1.getD 1 0 ≤ 2 * (h.n + h.l + st.gs.length) + 1 ∧ p.1.getD 2 0 ≤ 2 * (h.n + h.l + st.gs.length) + 1 then some ⟨st.h, st.i, st.ls, st.os, st.gs ++ [(((p.1.getD 1 0 : Nat) : Int), ((p.1.getD 2 0 : Nat) : Int))], p.2⟩ else none
noncomputable def stepF (st : St) : Option St :=
  match st.h with
  | none => stepHead st.rest
  | some h => if st.i < h.n then stepIn st else if st.ls.length < h.l then stepLatch h st else if st.os.length < h.o then stepOut h st else if st.gs.length < h.g then stepGate h st else none

/-- A line was taken: so many numbers, of whatever size. -/
def Got (mark : List UInt8) (count : Nat) (r : List UInt8) (ns : List Nat) (rest : List UInt8) : Prop := ns.length = count ∧ IsLine mark r ns rest

theorem small1 {ns : List Nat} (hl : ns.length = 1) (h : ns.getD 0 0 < 100) : ∀ n ∈ ns, n < 100 := by
  match ns, hl with
  | [a], _ => intro n hn; simp only [List.mem_singleton] at hn; subst hn; simpa using h
theorem small3 {ns : List Nat} (hl : ns.length = 3) (h0 : ns.getD 0 0 < 100) (h1 : ns.getD 1 0 < 100) (h2 : ns.getD 2 0 < 100) : ∀ n ∈ ns, n < 100 := by
  match ns, hl with
  | [a, b, c], _ =>
    intro n hn
    simp only [List.mem_cons, List.mem_nil_iff, or_false] at hn
    rcases hn with rfl | rfl | rfl
    · simpa using h0
    · simpa using h1
    · simpa using h2
theorem small5 {ns : List Nat} (hl : ns.length = 5) (h0 : ns.getD 0 0 < 100) (h1 : ns.getD 1 0 < 100) (h2 : ns.getD 2 0 < 100) (h3 : ns.getD 3 0 < 100) (h4 : ns.getD 4 0 < 100) : ∀ n ∈ ns, n < 100 := by
  match ns, hl with
  | [a, b, c, d, e], _ =>
    intro n hn
    simp only [List.mem_cons, List.mem_nil_iff, or_false] at hn
    rcases hn with rfl | rfl | rfl | rfl | rfl
    · simpa using h0
    · simpa using h1
    · simpa using h2
    · simpa using h3
    · simpa using h4

/-- What is asked of a line, where it bounds the numbers, tells the step. -/
theorem bind_got {mark r rest : List UInt8} {count : Nat} {ns : List Nat} {C : List Nat → Prop} [DecidablePred C] {F : List Nat × List UInt8 → St} (h0 : 0 < count) (hg : Got mark count r ns rest) (hC : C ns → ∀ n ∈ ns, n < 100) :
    ((lineF mark count r).bind fun p => if C p.1 then some (F p) else none) = if C ns then some (F (ns, rest)) else none := by
  by_cases hs : ∀ n ∈ ns, n < 100
  · rw [lineF_some h0 hg.1 hs hg.2]; rfl
  · rw [lineF_big h0 hg.1 hs hg.2, if_neg (fun h => hs (hC h))]; rfl

theorem stepHead_got {r rest : List UInt8} {ns : List Nat} (hg : Got aag 5 r ns rest) : stepF (st0 r) =
    if ns.getD 1 0 ≤ 4 ∧ ns.getD 2 0 ≤ 4 ∧ ns.getD 3 0 ≤ 4 ∧ ns.getD 4 0 ≤ 30 ∧ ns.getD 0 0 = ns.getD 1 0 + ns.getD 2 0 + ns.getD 4 0 then some ⟨some ⟨ns.getD 1 0, ns.getD 2 0, ns.getD 3 0, ns.getD 4 0⟩, 0, [], [], [], rest⟩ else none :=
  bind_got (C := fun ns => ns.getD 1 0 ≤ 4 ∧ ns.getD 2 0 ≤ 4 ∧ ns.getD 3 0 ≤ 4 ∧ ns.getD 4 0 ≤ 30 ∧ ns.getD 0 0 = ns.getD 1 0 + ns.getD 2 0 + ns.getD 4 0)
    (F := fun p => ⟨some ⟨p.1.getD 1 0, p.1.getD 2 0, p.1.getD 3 0, p.1.getD 4 0⟩, 0, [], [], [], p.2⟩) (by omega) hg
    (fun h => small5 hg.1 (by omega) (by omega) (by omega) (by omega) (by omega))
theorem stepHead_no {r : List UInt8} (h : lineF aag 5 r = none) : stepF (st0 r) = none := by
  show stepHead r = none
  unfold stepHead; rw [h]; rfl
theorem stepIn_got {h : Hd} {i : Nat} {ls gs : List (Int × Int)} {os : List Int} {r rest : List UInt8} {ns : List Nat} (hh : h.Ok) (hi : i < h.n) (hg : Got [] 1 r ns rest) :
    stepF ⟨some h, i, ls, os, gs, r⟩ = if ns.getD 0 0 = 2 * i + 2 then some ⟨some h, i + 1, ls, os, gs, rest⟩ else none := by
  show (if i < h.n then stepIn _ else _) = _
  rw [if_pos hi]
  exact bind_got (C := fun ns => ns.getD 0 0 = 2 * i + 2) (F := fun p => ⟨some h, i + 1, ls, os, gs, p.2⟩) (by omega) hg (fun e => small1 hg.1 (by have := hh.1; omega))
theorem stepIn_no {h : Hd} {i : Nat} {ls gs : List (Int × Int)} {os : List Int} {r : List UInt8} (hi : i < h.n) (hn : lineF [] 1 r = none) : stepF ⟨some h, i, ls, os, gs, r⟩ = none := by
  show (if i < h.n then stepIn _ else _) = _
  rw [if_pos hi]
  unfold stepIn; rw [hn]; rfl
theorem stepLatch_got {h : Hd} {i : Nat} {ls gs : List (Int × Int)} {os : List Int} {r rest : List UInt8} {ns : List Nat} (hh : h.Ok) (hi : i = h.n) (hl : ls.length < h.l) (hg : Got [] 3 r ns rest) :
    stepF ⟨some h, i, ls, os, gs, r⟩ = if ns.getD 0 0 = 2 * (h.n + ls.length) + 2 ∧ ns.getD 1 0 ≤ 2 * (h.n + h.l + h.g) + 1 ∧ ns.getD 2 0 ≤ 1 then some ⟨some h, i, ls ++ [(((ns.getD 1 0 : Nat) : Int), ((ns.getD 2 0 : Nat) : Int))], os, gs, rest⟩ else none := by
  show (if i < h.n then _ else if ls.length < h.l then stepLatch h _ else _) = _
  rw [if_neg (by omega), if_pos hl]
  obtain ⟨h1, h2, h3, h4⟩ := hh
  exact bind_got (C := fun ns => ns.getD 0 0 = 2 * (h.n + ls.length) + 2 ∧ ns.getD 1 0 ≤ 2 * (h.n + h.l + h.g) + 1 ∧ ns.getD 2 0 ≤ 1) (F := fun p => ⟨some h, i, ls ++ [(((p.1.getD 1 0 : Nat) : Int), ((p.1.getD 2 0 : Nat) : Int))], os, gs, p.2⟩) (by omega) hg
    (fun e => small3 hg.1 (by omega) (by omega) (by omega))
theorem stepLatch_no {h : Hd} {i : Nat} {ls gs : List (Int × Int)} {os : List Int} {r : List UInt8} (hi : i = h.n) (hl : ls.length < h.l) (hn : lineF [] 3 r = none) : stepF ⟨some h, i, ls, os, gs, r⟩ = none := by
  show (if i < h.n then _ else if ls.length < h.l then stepLatch h _ else _) = _
  rw [if_neg (by omega), if_pos hl]
  unfold stepLatch; rw [hn]; rfl
theorem stepOut_got {h : Hd} {i : Nat} {ls gs : List (Int × Int)} {os : List Int} {r rest : List UInt8} {ns : List Nat} (hh : h.Ok) (hi : i = h.n) (hl : ls.length = h.l) (ho : os.length < h.o) (hg : Got [] 1 r ns rest) :
    stepF ⟨some h, i, ls, os, gs, r⟩ = if ns.getD 0 0 ≤ 2 * (h.n + h.l + h.g) + 1 then some ⟨some h, i, ls, os ++ [((ns.getD 0 0 : Nat) : Int)], gs, rest⟩ else none := by
  show (if i < h.n then _ else if ls.length < h.l then _ else if os.length < h.o then stepOut h _ else _) = _
  rw [if_neg (by omega), if_neg (by omega), if_pos ho]
  obtain ⟨h1, h2, h3, h4⟩ := hh
  exact bind_got (C := fun ns => ns.getD 0 0 ≤ 2 * (h.n + h.l + h.g) + 1) (F := fun p => ⟨some h, i, ls, os ++ [((p.1.getD 0 0 : Nat) : Int)], gs, p.2⟩) (by omega) hg (fun e => small1 hg.1 (by omega))
theorem stepOut_no {h : Hd} {i : Nat} {ls gs : List (Int × Int)} {os : List Int} {r : List UInt8} (hi : i = h.n) (hl : ls.length = h.l) (ho : os.length < h.o) (hn : lineF [] 1 r = none) : stepF ⟨some h, i, ls, os, gs, r⟩ = none := by
  show (if i < h.n then _ else if ls.length < h.l then _ else if os.length < h.o then stepOut h _ else _) = _
  rw [if_neg (by omega), if_neg (by omega), if_pos ho]
  unfold stepOut; rw [hn]; rfl
theorem stepGate_got {h : Hd} {i : Nat} {ls gs : List (Int × Int)} {os : List Int} {r rest : List UInt8} {ns : List Nat} (hh : h.Ok) (hi : i = h.n) (hl : ls.length = h.l) (ho : os.length = h.o) (hgs : gs.length < h.g) (hg : Got [] 3 r ns rest) :
    stepF ⟨some h, i, ls, os, gs, r⟩ = if ns.getD 0 0 = 2 * (h.n + h.l + gs.length) + 2 ∧ ns.getD 1 0 ≤ 2 * (h.n + h.l + gs.length) + 1 ∧ ns.getD 2 0 ≤ 2 * (h.n + h.l + gs.length) + 1 then some ⟨some h, i, ls, os, gs ++ [(((ns.getD 1 0 : Nat) : Int), ((ns.getD 2 0 : Nat) : Int))], rest⟩ else none := by
  show (if i < h.n then _ else if ls.length < h.l then _ else if os.length < h.o then _ else if gs.length < h.g then stepGate h _ else _) = _
  rw [if_neg (by omega), if_neg (by omega), if_neg (by omega), if_pos hgs]
  obtain ⟨h1, h2, h3, h4⟩ := hh
  exact bind_got (C := fun ns => ns.getD 0 0 = 2 * (h.n + h.l + gs.length) + 2 ∧ ns.getD 1 0 ≤ 2 * (h.n + h.l + gs.length) + 1 ∧ ns.getD 2 0 ≤ 2 * (h.n + h.l + gs.length) + 1) (F := fun p => ⟨some h, i, ls, os, gs ++ [(((p.1.getD 1 0 : Nat) : Int), ((p.1.getD 2 0 : Nat) : Int))], p.2⟩) (by omega) hg
    (fun e => small3 hg.1 (by omega) (by omega) (by omega))
theorem stepGate_no {h : Hd} {i : Nat} {ls gs : List (Int × Int)} {os : List Int} {r : List UInt8} (hi : i = h.n) (hl : ls.length = h.l) (ho : os.length = h.o) (hgs : gs.length < h.g) (hn : lineF [] 3 r = none) : stepF ⟨some h, i, ls, os, gs, r⟩ = none := by
  show (if i < h.n then _ else if ls.length < h.l then _ else if os.length < h.o then _ else if gs.length < h.g then stepGate h _ else _) = _
  rw [if_neg (by omega), if_neg (by omega), if_neg (by omega), if_pos hgs]
  unfold stepGate; rw [hn]; rfl
theorem stepEnd {h : Hd} {i : Nat} {ls gs : List (Int × Int)} {os : List Int} {r : List UInt8} (hi : i = h.n) (hl : ls.length = h.l) (ho : os.length = h.o) (hgs : gs.length = h.g) : stepF ⟨some h, i, ls, os, gs, r⟩ = none := by
  show (if i < h.n then _ else if ls.length < h.l then _ else if os.length < h.o then _ else if gs.length < h.g then _ else none) = none
  rw [if_neg (by omega), if_neg (by omega), if_neg (by omega), if_neg (by omega)]

/-- What has been read behind k lines. -/
noncomputable def runN (s : List UInt8) : Nat → Option St
  | 0 => some (st0 s)
  | k + 1 => (runN s k).bind stepF
theorem runN_step {s : List UInt8} {k : Nat} {st st' : St} (h : runN s k = some st) (h' : stepF st = some st') : runN s (k + 1) = some st' := by rw [runN, h]; exact h'
theorem runN_none {s : List UInt8} {k j : Nat} (h : runN s k = none) (hj : k ≤ j) : runN s j = none := by
  induction j with
  | zero => obtain rfl : k = 0 := by omega
            exact h
  | succ j ih =>
    by_cases e : k = j + 1
    · rw [← e]; exact h
    · rw [runN, ih (by omega)]; rfl

structure Circ where
  n : Nat
  ls : List (Int × Int)
  gs : List (Int × Int)
  os : List Int
/-- Is the whole text read? -/
def St.Done (st : St) : Prop := ∃ h, st.h = some h ∧ st.i = h.n ∧ st.ls.length = h.l ∧ st.os.length = h.o ∧ st.gs.length = h.g ∧ st.rest = []
/-- What the reading of a text ends with: a circuit, or the number of the line that is not as it must be. -/
def Ans (s : List UInt8) (c : Option Circ) (line : Nat) : Prop :=
  (1000 < s.length ∧ c = none ∧ line = 0) ∨
  (s.length ≤ 1000 ∧ ∃ k st, runN s k = some st ∧ stepF st = none ∧ ((st.Done ∧ c = some ⟨st.i, st.ls, st.gs, st.os⟩ ∧ line = 0) ∨ (¬ st.Done ∧ c = none ∧ line = k + 1)))
theorem ans_one {s : List UInt8} {c c' : Option Circ} {line line' : Nat} (h : Ans s c line) (h' : Ans s c' line') : c = c' ∧ line = line' := by
  rcases h with ⟨h1, rfl, rfl⟩ | ⟨h1, k, st, hk, hs, hc⟩
  · rcases h' with ⟨_, rfl, rfl⟩ | ⟨h2, _⟩
    · exact ⟨rfl, rfl⟩
    · omega
  · rcases h' with ⟨h2, _⟩ | ⟨_, k', st', hk', hs', hc'⟩
    · omega
    · have e : k = k' := by
        have a : runN s (k + 1) = none := by rw [runN, hk]; exact hs
        have b : runN s (k' + 1) = none := by rw [runN, hk']; exact hs'
        rcases Nat.lt_trichotomy k k' with hlt | he | hgt
        · rw [runN_none a hlt] at hk'; cases hk'
        · exact he
        · rw [runN_none b hgt] at hk; cases hk
      subst e
      rw [hk] at hk'
      injection hk' with e
      subst e
      rcases hc with ⟨d, rfl, rfl⟩ | ⟨d, rfl, rfl⟩
      · rcases hc' with ⟨_, rfl, rfl⟩ | ⟨d', _, _⟩
        · exact ⟨rfl, rfl⟩
        · exact absurd d d'
      · rcases hc' with ⟨d', _, _⟩ | ⟨_, rfl, rfl⟩
        · exact absurd d' d
        · exact ⟨rfl, rfl⟩
theorem ans_wrong {s : List UInt8} {k : Nat} {st : St} (hs : s.length ≤ 1000) (hk : runN s k = some st) (h : stepF st = none) (hd : ¬ st.Done) : Ans s none (k + 1) := .inr ⟨hs, k, st, hk, h, .inr ⟨hd, rfl, rfl⟩⟩
theorem not_done0 (s : List UInt8) : ¬ (st0 s).Done := by rintro ⟨h, e, _⟩; cases e
theorem not_done_in {h : Hd} {i : Nat} {ls gs : List (Int × Int)} {os : List Int} {r : List UInt8} (hi : i < h.n) : ¬ (St.mk (some h) i ls os gs r).Done := by
  rintro ⟨h', e, hi', _⟩
  injection e with e
  subst e
  simp only at hi'
  omega
theorem not_done_latch {h : Hd} {i : Nat} {ls gs : List (Int × Int)} {os : List Int} {r : List UInt8} (hi : ls.length < h.l) : ¬ (St.mk (some h) i ls os gs r).Done := by
  rintro ⟨h', e, _, hi', _⟩
  injection e with e
  subst e
  simp only at hi'
  omega
theorem not_done_out {h : Hd} {i : Nat} {ls gs : List (Int × Int)} {os : List Int} {r : List UInt8} (hi : os.length < h.o) : ¬ (St.mk (some h) i ls os gs r).Done := by
  rintro ⟨h', e, _, _, hi', _⟩
  injection e with e
  subst e
  simp only at hi'
  omega
theorem not_done_gate {h : Hd} {i : Nat} {ls gs : List (Int × Int)} {os : List Int} {r : List UInt8} (hi : gs.length < h.g) : ¬ (St.mk (some h) i ls os gs r).Done := by
  rintro ⟨h', e, _, _, _, hi', _⟩
  injection e with e
  subst e
  simp only at hi'
  omega
theorem not_done_rest {h : Option Hd} {i : Nat} {ls gs : List (Int × Int)} {os : List Int} {r : List UInt8} (hr : r ≠ []) : ¬ (St.mk h i ls os gs r).Done := by
  rintro ⟨h', _, _, _, _, _, hi'⟩
  exact hr hi'

end Go.Proofs.YtgpaajdfkekjiaaGreatDoor

namespace Go.Proofs.YtgpaajdfkekjiaaGreatDoor
open Go

theorem words_pre (as : List Nat) (b : List UInt8) : words (pre as ++ b) = as.map Lib.decDigits ++ words b := by
  induction as with
  | nil => rfl
  | cons a as ih => rw [pre, List.append_assoc, List.cons_append, words_cons _ _ (dec_no32 a), ih]; rfl
/-- What stands ahead of the first end of line. -/
theorem line_split {mark l rest rest' : List UInt8} {ms : List Nat} {m : Nat} (h10 : (10 : UInt8) ∉ l) (h : mark ++ l ++ 10 :: rest = mark ++ lineB (ms ++ [m]) ++ rest') : l = pre ms ++ Lib.decDigits m ∧ rest = rest' := by
  rw [lineB_snoc] at h
  have e : l ++ 10 :: rest = (pre ms ++ Lib.decDigits m) ++ 10 :: rest' := by
    have : mark ++ (l ++ 10 :: rest) = mark ++ ((pre ms ++ Lib.decDigits m) ++ 10 :: rest') := by simpa using h
    exact List.append_cancel_left this
  exact first_split h10 (nums_no10 _ _) e
theorem snoc_of {ns : List Nat} {count : Nat} (h0 : 0 < count) (hl : ns.length = count) : ∃ ms m, ns = ms ++ [m] :=
  ⟨_, _, (List.dropLast_concat_getLast (fun e => by rw [e] at hl; simp at hl; omega)).symm⟩
theorem line_word_none {mark l rest : List UInt8} {count : Nat} {as : List Nat} {X : List UInt8} (h0 : 0 < count) (h10 : (10 : UInt8) ∉ l) (hl : l = pre as ++ X ∨ ∃ b, l = pre as ++ X ++ 32 :: b) (h32 : (32 : UInt8) ∉ X) (hX : ∀ n, n < 100 → X ≠ Lib.decDigits n) :
    lineF mark count (mark ++ l ++ 10 :: rest) = none := by
  refine lineF_none (fun ns rest' hlen hs h => ?_)
  obtain ⟨ms, m, rfl⟩ := snoc_of h0 hlen
  obtain ⟨e, -⟩ := line_split h10 h
  have hw : X ∈ words l := by
    rcases hl with rfl | ⟨b, rfl⟩
    · rw [words_pre, words_one X h32]; simp
    · rw [List.append_assoc, words_pre, words_cons X b h32]; simp
  rw [e, words_nums] at hw
  obtain ⟨n, hn, rfl⟩ := List.mem_map.1 hw
  exact hX n (hs n hn) rfl
theorem line_got {mark l rest : List UInt8} {as : List Nat} {n : Nat} (hl : l = pre as ++ Lib.decDigits n) : IsLine mark (mark ++ l ++ 10 :: rest) (as ++ [n]) rest := by
  unfold IsLine
  rw [lineB_snoc, hl]
  simp
theorem line_count_none {mark l rest : List UInt8} {count : Nat} {as : List Nat} {n : Nat} (h0 : 0 < count) (hl : l = pre as ++ Lib.decDigits n) (hc : as.length + 1 ≠ count) : lineF mark count (mark ++ l ++ 10 :: rest) = none := by
  refine lineF_none (fun ns rest' hlen _ h => ?_)
  obtain ⟨e, -⟩ := line_inj (fun e => by rw [e] at hlen; simp at hlen; omega) (by simp) h (line_got (mark := mark) (rest := rest) hl)
  rw [e] at hlen
  simp at hlen
  omega
theorem line_end_none {mark r : List UInt8} {count : Nat} (h10 : (10 : UInt8) ∉ r) : lineF mark count r = none := by
  refine lineF_none (fun ns rest' hlen _ h => ?_)
  unfold IsLine at h
  rw [h] at h10
  unfold lineB at h10
  simp at h10
theorem line_mark_none {mark a rest : List UInt8} {count : Nat} (h0 : 0 < count) (hm : (10 : UInt8) ∉ mark) (ha : (10 : UInt8) ∉ a) (hp : a.take mark.length ≠ mark) : lineF mark count (a ++ 10 :: rest) = none := by
  refine lineF_none (fun ns rest' hlen _ h => ?_)
  obtain ⟨ms, m, rfl⟩ := snoc_of h0 hlen
  unfold IsLine at h
  rw [lineB_snoc] at h
  have e : a ++ 10 :: rest = (mark ++ (pre ms ++ Lib.decDigits m)) ++ 10 :: rest' := by simpa using h
  obtain ⟨e1, -⟩ := first_split ha (by simp only [List.mem_append, not_or]; exact ⟨hm, by simpa using nums_no10 ms m⟩) e
  apply hp
  rw [e1]
  simp

end Go.Proofs.YtgpaajdfkekjiaaGreatDoor
