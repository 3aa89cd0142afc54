/-
  Lines of numbers, in plain bytes: how they are written, and that they can be read in one way.
-/
import Derived.Lib.ItoaNum
import Derived.Lib.Split
import Derived.Lib.SplitLaws
import Derived.Lib.AtoiAllCases
import Derived.Lib.Strings
namespace Go.Proofs.YtgpaajdfkekjiaaDoor
open Go

/-- The first k numbers, a blank between two. -/
def numsTo (ns : List Nat) : Nat → List UInt8
  | 0 => []
  | k + 1 => numsTo ns k ++ (if 0 < k then [32] else []) ++ Lib.decDigits (ns.getD k 0)
def lineB (ns : List Nat) : List UInt8 := numsTo ns ns.length ++ [10]

theorem dec_len (n : Nat) (h : n < 100) : (Lib.decDigits n).length ≤ 2 := by
  rw [Lib.decDigits]
  split
  · simp
  · rw [Lib.decDigits, dif_pos (by omega)]
    simp
theorem numsTo_len (ns : List Nat) (k : Nat) (h : ∀ i, i < k → ns.getD i 0 < 100) : (numsTo ns k).length ≤ 3 * k := by
  induction k with
  | zero => simp [numsTo]
  | succ k ih =>
    have h1 := ih (fun i hi => h i (by omega))
    have h2 := dec_len (ns.getD k 0) (h k (by omega))
    have h3 : (if 0 < k then [(32 : UInt8)] else []).length ≤ 1 := by split <;> simp
    simp only [numsTo, List.length_append]
    omega
theorem numsTo_first (ns : List Nat) : numsTo ns 1 = Lib.decDigits (ns.getD 0 0) := by simp [numsTo]
theorem numsTo_next (ns : List Nat) (k : Nat) (h : 0 < k) : numsTo ns (k + 1) = numsTo ns k ++ [32] ++ Lib.decDigits (ns.getD k 0) := by simp [numsTo, h]

/-- Each number with a blank behind it. -/
def pre : List Nat → List UInt8
  | [] => []
  | n :: ns => Lib.decDigits n ++ 32 :: pre ns
theorem pre_append (as bs : List Nat) : pre (as ++ bs) = pre as ++ pre bs := by
  induction as with
  | nil => rfl
  | cons a as ih => simp [pre, ih]
theorem pre_snoc (as : List Nat) (b : Nat) : pre (as ++ [b]) = pre as ++ Lib.decDigits b ++ [32] := by simp [pre_append, pre]
theorem numsTo_pre (ns : List Nat) (k : Nat) (hk : k < ns.length) : numsTo ns (k + 1) = pre (ns.take k) ++ Lib.decDigits (ns.getD k 0) := by
  induction k with
  | zero => simp [numsTo_first, pre]
  | succ k ih =>
    rw [numsTo_next ns (k + 1) (by omega), ih (by omega)]
    have e : ns.take (k + 1) = ns.take k ++ [ns.getD k 0] := by
      rw [List.take_add_one]
      simp [show k < ns.length by omega]
    rw [e, pre_snoc]
theorem lineB_snoc (ms : List Nat) (m : Nat) : lineB (ms ++ [m]) = pre ms ++ Lib.decDigits m ++ [10] := by
  have h := numsTo_pre (ms ++ [m]) ms.length (by simp)
  unfold lineB
  rw [show (ms ++ [m]).length = ms.length + 1 by simp, h]
  simp

theorem dec_digit (n : Nat) : ∀ c ∈ Lib.decDigits n, 48 ≤ c.toNat ∧ c.toNat ≤ 57 := by
  induction n using Nat.strongRecOn with
  | _ n ih =>
    intro c hc
    have one : ∀ d, d < 10 → (UInt8.ofNat (48 + d)).toNat = 48 + d := fun d hd => by
      rw [UInt8.toNat_ofNat']; omega
    rw [Lib.decDigits] at hc
    split at hc
    · rename_i h
      simp only [List.mem_singleton] at hc
      subst hc
      rw [one n h]; omega
    · rename_i h
      simp only [List.mem_append, List.mem_singleton] at hc
      rcases hc with hc | rfl
      · exact ih _ (by omega) c hc
      · rw [one _ (by omega)]; omega
theorem dec_ne (n : Nat) : Lib.decDigits n ≠ [] := by
  rw [Lib.decDigits]
  split <;> simp
theorem dec_no32 (n : Nat) : (32 : UInt8) ∉ Lib.decDigits n := fun h => by
  have := dec_digit n _ h
  simp at this
theorem dec_no10 (n : Nat) : (10 : UInt8) ∉ Lib.decDigits n := fun h => by
  have := dec_digit n _ h
  simp at this

/-- The number that digits spell. -/
def valD (l : List UInt8) : Nat := l.foldl (fun a c => 10 * a + (c.toNat - 48)) 0
theorem valD_snoc (l : List UInt8) (c : UInt8) : valD (l ++ [c]) = 10 * valD l + (c.toNat - 48) := by simp [valD, List.foldl_append]
theorem valD_dec (n : Nat) : valD (Lib.decDigits n) = n := by
  induction n using Nat.strongRecOn with
  | _ n ih =>
    have one : ∀ d, d < 10 → (UInt8.ofNat (48 + d)).toNat = 48 + d := fun d hd => by
      rw [UInt8.toNat_ofNat']; omega
    rw [Lib.decDigits]
    split
    · rename_i h
      simp [valD, Nat.mod_eq_of_lt (show 48 + n < 256 by omega)]
    · rw [valD_snoc, ih _ (by omega), one _ (by omega)]
      omega
theorem dec_inj {a b : Nat} (h : Lib.decDigits a = Lib.decDigits b) : a = b := by
  have := congrArg valD h
  rwa [valD_dec, valD_dec] at this

theorem valD_pos : ∀ (l : List UInt8) (c : UInt8), 49 ≤ c.toNat → 1 ≤ valD (c :: l) := by
  intro l
  have h : ∀ (l : List UInt8) (a : Nat), 1 ≤ a → 1 ≤ l.foldl (fun a c => 10 * a + (c.toNat - 48)) a := by
    intro l
    induction l with
    | nil => intro a h; exact h
    | cons x l ih => intro a h; exact ih _ (by show 1 ≤ 10 * a + (x.toNat - 48); omega)
  intro c hc
  exact h l _ (by show 1 ≤ 10 * 0 + (c.toNat - 48); omega)

/-- Digits with no nought ahead are the numeral of what they spell. -/
theorem dec_valD : ∀ (k : Nat) (l : List UInt8), l.length = k → l ≠ [] → (∀ c ∈ l, 48 ≤ c.toNat ∧ c.toNat ≤ 57) → (1 < l.length → l.head? ≠ some 48) → Lib.decDigits (valD l) = l := by
  intro k
  induction k with
  | zero => intro l h h0; exact absurd (List.length_eq_zero_iff.1 h) h0
  | succ k ih =>
    intro l hl h0 hd hz
    obtain ⟨l', c, rfl⟩ : ∃ l' c, l = l' ++ [c] := ⟨_, _, (List.dropLast_concat_getLast h0).symm⟩
    have hc := hd c (by simp)
    have back : UInt8.ofNat (48 + (c.toNat - 48)) = c := by
      rw [show 48 + (c.toNat - 48) = c.toNat by omega]; simp
    rw [valD_snoc]
    by_cases h' : l' = []
    · subst h'
      rw [Lib.decDigits, dif_pos (by simp [valD]; omega)]
      simp only [valD, List.foldl_nil, List.nil_append, Nat.mul_zero, Nat.zero_add, back]
    · have hz' : l'.head? ≠ some 48 := by
        have := hz (by have := List.length_pos_iff.2 h'; simp; omega)
        cases l' with
        | nil => exact absurd rfl h'
        | cons x l' => simpa using this
      have hpos : 1 ≤ valD l' := by
        cases l' with
        | nil => exact absurd rfl h'
        | cons x l'' =>
          refine valD_pos l'' x ?_
          have hx := (hd x (by simp)).1
          have : x ≠ 48 := by simpa using hz'
          have : x.toNat ≠ 48 := fun e => this (UInt8.toNat_inj.1 e)
          omega
      rw [Lib.decDigits, dif_neg (by omega), show (10 * valD l' + (c.toNat - 48)) / 10 = valD l' by omega, show (10 * valD l' + (c.toNat - 48)) % 10 = c.toNat - 48 by omega, back, ih l' (by simpa using hl) h' (fun c hc => hd c (by simp [hc])) (fun _ => hz')]

/-- The words of a line: it is cut at each blank. -/
def words : List UInt8 → List (List UInt8)
  | [] => [[]]
  | c :: l => if c = 32 then [] :: words l else match words l with
    | [] => [[c]]
    | w :: ws => (c :: w) :: ws
theorem words_ne (l : List UInt8) : words l ≠ [] := by
  cases l with
  | nil => simp [words]
  | cons c l =>
    unfold words
    split
    · simp
    · split <;> simp
theorem words_one (a : List UInt8) (h : (32 : UInt8) ∉ a) : words a = [a] := by
  induction a with
  | nil => rfl
  | cons c a ih =>
    simp only [List.mem_cons, not_or] at h
    unfold words
    rw [if_neg (Ne.symm h.1), ih h.2]
theorem words_cons (a b : List UInt8) (h : (32 : UInt8) ∉ a) : words (a ++ 32 :: b) = a :: words b := by
  induction a with
  | nil => simp [words]
  | cons c a ih =>
    simp only [List.mem_cons, not_or] at h
    rw [List.cons_append, words, if_neg (Ne.symm h.1), ih h.2]
theorem words_nums (ms : List Nat) (m : Nat) : words (pre ms ++ Lib.decDigits m) = (ms ++ [m]).map Lib.decDigits := by
  induction ms with
  | nil => simp [pre, words_one _ (dec_no32 m)]
  | cons a ms ih =>
    rw [pre, List.append_assoc, List.cons_append, words_cons _ _ (dec_no32 a), ih]
    simp
theorem first_split {c : UInt8} {a a' b b' : List UInt8} (ha : c ∉ a) (ha' : c ∉ a') (h : a ++ c :: b = a' ++ c :: b') : a = a' ∧ b = b' := by
  induction a generalizing a' with
  | nil =>
    cases a' with
    | nil => simpa using h
    | cons x a' => simp only [List.nil_append, List.cons_append, List.cons.injEq] at h; simp [h.1] at ha'
  | cons x a ih =>
    cases a' with
    | nil => simp only [List.nil_append, List.cons_append, List.cons.injEq] at h; simp [h.1] at ha
    | cons y a' =>
      simp only [List.cons_append, List.cons.injEq] at h
      simp only [List.mem_cons, not_or] at ha ha'
      have := ih ha.2 ha'.2 h.2
      exact ⟨by rw [h.1, this.1], this.2⟩

theorem index_hit (c : UInt8) (a b : List UInt8) (h : c ∉ a) : Lib.index (a ++ c :: b) [c] = (a.length : Int) := by
  induction a with
  | nil => simp [Lib.index]
  | cons x a ih =>
    simp only [List.mem_cons, not_or] at h
    have e : ([c].isPrefixOf (x :: (a ++ c :: b))) = false := by simp [List.isPrefixOf, h.1]
    rw [List.cons_append, Lib.index, e, ih h.2, if_neg (by simp), if_neg (by rw [beq_iff_eq]; omega)]
    simp
theorem index_miss (c : UInt8) (a : List UInt8) (h : c ∉ a) : Lib.index a [c] = -1 := by
  induction a with
  | nil => simp [Lib.index]
  | cons x a ih =>
    simp only [List.mem_cons, not_or] at h
    have e : ([c].isPrefixOf (x :: a)) = false := by simp [List.isPrefixOf, h.1]
    rw [Lib.index, e, ih h.2]
    simp
theorem cut_hit (c : UInt8) (a b : List UInt8) (h : c ∉ a) : Lib.cut (a ++ c :: b) [c] = (a, b, true) := by
  unfold Lib.cut
  rw [index_hit c a b h, if_pos (by omega)]
  simp
theorem cut_miss (c : UInt8) (a : List UInt8) (h : c ∉ a) : Lib.cut a [c] = (a, [], false) := by
  unfold Lib.cut
  rw [index_miss c a h, if_neg (by omega)]

theorem splitK_words : ∀ (k : Nat) (s : List UInt8), s.count 32 = k → Lib.splitK [32] 0 k s = words s := by
  intro k
  induction k with
  | zero =>
    intro s h
    rw [Lib.splitK, words_one s (List.count_eq_zero.1 h)]
  | succ k ih =>
    intro s h
    have hm : (32 : UInt8) ∈ s := List.count_pos_iff.1 (by omega)
    obtain ⟨a, b, rfl, ha⟩ := List.eq_append_cons_of_mem hm
    rw [Lib.splitK, index_hit 32 a b ha, if_neg (by rw [beq_iff_eq]; omega), words_cons a b ha, show ((a.length : Int)).toNat = a.length by omega]
    have hb : b.count 32 = k := by
      rw [List.count_append, List.count_eq_zero.2 ha, List.count_cons_self] at h
      omega
    rw [show List.drop (a.length + [(32 : UInt8)].length) (a ++ 32 :: b) = b by simp, ih b hb]
    simp
theorem split_words (s : ByteArray) : Lib.splitB ⟨#[32]⟩ 0 (Lib.countB s ⟨#[32]⟩) s = (words s.data.toList).map (fun w => ⟨w.toArray⟩) ∧ Lib.countB s ⟨#[32]⟩ + 1 = (words s.data.toList).length := by
  have hc : Lib.countB s ⟨#[32]⟩ = s.data.toList.count 32 := Lib.count_one 32 s.data.toList
  have h := Lib.splitB_data ⟨#[32]⟩ 0 (Lib.countB s ⟨#[32]⟩) s
  rw [show (⟨#[32]⟩ : ByteArray).data.toList = [32] from rfl, hc, splitK_words _ _ rfl] at h
  have hl := Lib.splitB_all ⟨#[32]⟩ (by decide) 0 _ s rfl
  constructor
  · rw [← h, List.map_map, hc]
    conv => lhs; rw [← List.map_id (Lib.splitB _ _ _ _)]
    refine List.map_congr_left (fun x _ => ?_)
    simp
  · rw [← h, List.length_map, ← hc, hl]

theorem map_dec_inj : ∀ {as bs : List Nat}, as.map Lib.decDigits = bs.map Lib.decDigits → as = bs
  | [], [], _ => rfl
  | [], _ :: _, h => by simp at h
  | _ :: _, [], h => by simp at h
  | a :: as, b :: bs, h => by
    simp only [List.map_cons, List.cons.injEq] at h
    rw [dec_inj h.1, map_dec_inj h.2]

/-- The line ahead of the rest: a mark, then just these numbers. -/
def IsLine (mark : List UInt8) (r : List UInt8) (ns : List Nat) (rest : List UInt8) : Prop := r = mark ++ lineB ns ++ rest
theorem line_inj {mark r rest rest' : List UInt8} {ns ns' : List Nat} (h0 : ns ≠ []) (h0' : ns' ≠ []) (h : IsLine mark r ns rest) (h' : IsLine mark r ns' rest') : ns = ns' ∧ rest = rest' := by
  obtain ⟨ms, m, rfl⟩ : ∃ ms m, ns = ms ++ [m] := ⟨_, _, (List.dropLast_concat_getLast h0).symm⟩
  obtain ⟨ms', m', rfl⟩ : ∃ ms m, ns' = ms ++ [m] := ⟨_, _, (List.dropLast_concat_getLast h0').symm⟩
  unfold IsLine at h h'
  rw [lineB_snoc] at h h'
  have no : ∀ (ms : List Nat) (m : Nat), (10 : UInt8) ∉ pre ms ++ Lib.decDigits m := by
    intro ms m
    induction ms with
    | nil => simpa [pre] using dec_no10 m
    | cons a ms ih =>
      simp only [pre, List.append_assoc, List.cons_append, List.mem_append, List.mem_cons, not_or] at ih ⊢
      exact ⟨dec_no10 a, by decide, ih.1, ih.2⟩
  have e : (pre ms ++ Lib.decDigits m) ++ 10 :: rest = (pre ms' ++ Lib.decDigits m') ++ 10 :: rest' := by
    have : mark ++ ((pre ms ++ Lib.decDigits m) ++ 10 :: rest) = mark ++ ((pre ms' ++ Lib.decDigits m') ++ 10 :: rest') := by
      simpa using h.symm.trans h'
    exact List.append_cancel_left this
  obtain ⟨e1, e2⟩ := first_split (no _ _) (no _ _) e
  refine ⟨?_, e2⟩
  have := congrArg words e1
  rw [words_nums, words_nums] at this
  exact map_dec_inj this

theorem nums_no10 (ms : List Nat) (m : Nat) : (10 : UInt8) ∉ pre ms ++ Lib.decDigits m := by
  induction ms with
  | nil => simpa [pre] using dec_no10 m
  | cons a ms ih =>
    simp only [pre, List.append_assoc, List.cons_append, List.mem_append, List.mem_cons, not_or] at ih ⊢
    exact ⟨dec_no10 a, by decide, ih.1, ih.2⟩

theorem words_join : ∀ (ws : List (List UInt8)) (l : List UInt8) (ns : List Nat), words l = ws → ws = ns.map Lib.decDigits → ∃ ms m, ns = ms ++ [m] ∧ l = pre ms ++ Lib.decDigits m := by
  intro ws
  induction ws with
  | nil => intro l ns h; exact absurd h (words_ne l)
  | cons w ws ih =>
    intro l ns h hns
    cases ns with
    | nil => simp at hns
    | cons n ns =>
      simp only [List.map_cons, List.cons.injEq] at hns
      by_cases hm : (32 : UInt8) ∈ l
      · obtain ⟨a, b, rfl, ha⟩ := List.eq_append_cons_of_mem hm
        rw [words_cons a b ha] at h
        simp only [List.cons.injEq] at h
        obtain ⟨ms, m, rfl, rfl⟩ := ih b ns h.2 hns.2
        refine ⟨n :: ms, m, rfl, ?_⟩
        rw [h.1, hns.1]
        simp [pre]
      · rw [words_one l hm] at h
        simp only [List.cons.injEq] at h
        obtain rfl : ns = [] := by
          have := hns.2
          rw [← h.2] at this
          simpa using this.symm
        exact ⟨[], n, rfl, by simp [pre, h.1, hns.1]⟩

end Go.Proofs.YtgpaajdfkekjiaaDoor
