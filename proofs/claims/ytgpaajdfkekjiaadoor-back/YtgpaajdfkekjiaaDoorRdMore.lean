/-
  A text with a byte less or a line end more is none.
-/
import Derived.Test.YtgpaajdfkekjiaaDoorRdTxt
namespace Go.Proofs.YtgpaajdfkekjiaaDoor
open Go.RowKit

theorem numsTo_no10 (ns : List Nat) : ∀ k, (10 : UInt8) ∉ numsTo ns k
  | 0 => by simp [numsTo]
  | k + 1 => by
    have h1 := numsTo_no10 ns k
    have h2 := dec_no10 (ns.getD k 0)
    have h3 : (10 : UInt8) ∉ (if 0 < k then [(32 : UInt8)] else []) := by split <;> simp
    rw [numsTo]
    simp only [List.mem_append, not_or]
    exact ⟨⟨h1, h3⟩, h2⟩
theorem count_line (ns : List Nat) : (lineB ns).count 10 = 1 := by
  unfold lineB
  rw [List.count_append, List.count_eq_zero.2 (numsTo_no10 ns _)]
  simp
theorem count_in : ∀ k, (txtIn k).count 10 = k
  | 0 => rfl
  | k + 1 => by rw [txtIn, List.count_append, count_in k, count_line]
theorem count_latch (n : Nat) (ls : List (Int × Int)) : ∀ k, (txtLatch n ls k).count 10 = k
  | 0 => rfl
  | k + 1 => by rw [txtLatch, List.count_append, count_latch n ls k, count_line]
theorem count_out (os : List Int) : ∀ k, (txtOut os k).count 10 = k
  | 0 => rfl
  | k + 1 => by rw [txtOut, List.count_append, count_out os k, count_line]
theorem count_gate (n : Nat) (gs : List (Int × Int)) : ∀ k, (txtGate n gs k).count 10 = k
  | 0 => rfl
  | k + 1 => by rw [txtGate, List.count_append, count_gate n gs k, count_line]
theorem count_head (n l g o : Nat) : (txtHead n l g o).count 10 = 1 := by
  unfold txtHead
  rw [List.count_append, count_line]
  rfl
theorem count_txt (n : Nat) (ls gs : List (Int × Int)) (os : List Int) : (txt n ls gs os).count 10 = 1 + n + ls.length + os.length + gs.length := by
  unfold txt
  simp only [List.count_append, count_head, count_in, count_latch, count_out, count_gate]

theorem ends_line (ns : List Nat) : ∃ y, lineB ns = y ++ [10] := ⟨_, rfl⟩
theorem ends_app {a b : List UInt8} (ha : ∃ y, a = y ++ [10]) (hb : b = [] ∨ ∃ y, b = y ++ [10]) : ∃ y, a ++ b = y ++ [10] := by
  rcases hb with rfl | ⟨y, rfl⟩
  · simpa using ha
  · exact ⟨a ++ y, by simp⟩
theorem ends_txt (n : Nat) (ls gs : List (Int × Int)) (os : List Int) : ∃ y, txt n ls gs os = y ++ [10] := by
  have h0 : ∃ y, txtHead n ls.length gs.length os.length = y ++ [10] := by unfold txtHead lineB; exact ⟨_, (List.append_assoc ..).symm⟩
  have h1 : txtIn n = [] ∨ ∃ y, txtIn n = y ++ [10] := by
    cases n with
    | zero => exact .inl rfl
    | succ n => right; unfold txtIn lineB; exact ⟨_, (List.append_assoc ..).symm⟩
  have h2 : txtLatch n ls ls.length = [] ∨ ∃ y, txtLatch n ls ls.length = y ++ [10] := by
    cases ls.length with
    | zero => exact .inl rfl
    | succ k => right; unfold txtLatch lineB; exact ⟨_, (List.append_assoc ..).symm⟩
  have h3 : txtOut os os.length = [] ∨ ∃ y, txtOut os os.length = y ++ [10] := by
    cases os.length with
    | zero => exact .inl rfl
    | succ k => right; unfold txtOut lineB; exact ⟨_, (List.append_assoc ..).symm⟩
  have h4 : txtGate (n + ls.length) gs gs.length = [] ∨ ∃ y, txtGate (n + ls.length) gs gs.length = y ++ [10] := by
    cases gs.length with
    | zero => exact .inl rfl
    | succ k => right; unfold txtGate lineB; exact ⟨_, (List.append_assoc ..).symm⟩
  exact ends_app (ends_app (ends_app (ends_app h0 h1) h2) h3) h4

theorem head_same {n l g o n' l' g' o' : Nat} {X Y : List UInt8} (h : txtHead n l g o ++ X = txtHead n' l' g' o' ++ Y) : n = n' ∧ l = l' ∧ o = o' ∧ g = g' := by
  have a : IsLine aag (txtHead n l g o ++ X) [n + l + g, n, l, o, g] X := rfl
  have b : IsLine aag (txtHead n l g o ++ X) [n' + l' + g', n', l', o', g'] Y := h
  obtain ⟨e, _⟩ := line_inj (by simp) (by simp) a b
  simp only [List.cons.injEq, and_true] at e
  exact ⟨e.2.1, e.2.2.1, e.2.2.2.1, e.2.2.2.2⟩
theorem txt_head (n : Nat) (ls gs : List (Int × Int)) (os : List Int) : ∃ X, txt n ls gs os = txtHead n ls.length gs.length os.length ++ X := ⟨_, by unfold txt; simp only [List.append_assoc]; rfl⟩

theorem dec_len1 (n : Nat) : 1 ≤ (Lib.decDigits n).length := by
  have := List.length_pos_iff.2 (dec_ne n); omega
theorem head_len (n l g o : Nat) : 14 ≤ (txtHead n l g o).length := by
  have a := dec_len1 (n + l + g)
  have b := dec_len1 n
  have c := dec_len1 l
  have d := dec_len1 o
  have e := dec_len1 g
  simp [txtHead, lineB, numsTo]
  omega
theorem txt_len (n : Nat) (ls gs : List (Int × Int)) (os : List Int) : 14 ≤ (txt n ls gs os).length := by
  obtain ⟨X, hX⟩ := txt_head n ls gs os
  have := head_len n ls.length gs.length os.length
  rw [hX, List.length_append]; omega

/-- With a byte less it is none. -/
theorem less_none {n : Nat} {ls gs : List (Int × Int)} {os : List Int} {y : List UInt8} (hy : txt n ls gs os = y ++ [10]) (hl : (txt n ls gs os).length ≤ 1000) {c : Option Circ} {line : Nat} (h : Ans y c line) : c = none ∧ 1 ≤ line := by
  cases c with
  | some d =>
    obtain ⟨n', ls', gs', os'⟩ := d
    obtain ⟨e, _, _⟩ := ans_txt h
    obtain ⟨X, hX⟩ := txt_head n ls gs os
    obtain ⟨Y, hY⟩ := txt_head n' ls' gs' os'
    have e1 : txtHead n ls.length gs.length os.length ++ X = txtHead n' ls'.length gs'.length os'.length ++ (Y ++ [10]) := by rw [← hX, hy, e, hY]; simp
    obtain ⟨a, b, c, d⟩ := head_same e1
    have c1 := count_txt n ls gs os
    have c2 := count_txt n' ls' gs' os'
    rw [hy, e, List.count_append, c2] at c1
    simp at c1
    omega
  | none =>
    refine ⟨rfl, ?_⟩
    rcases h with ⟨h, _⟩ | ⟨_, k, st, _, _, ⟨_, h, _⟩ | ⟨_, _, h⟩⟩
    · have : (txt n ls gs os).length = y.length + 1 := by rw [hy]; simp
      omega
    · cases h
    · omega
/-- With a line end more it is none. -/
theorem more_none {n : Nat} {ls gs : List (Int × Int)} {os : List Int} {c : Option Circ} {line : Nat} (h : Ans (txt n ls gs os ++ [10]) c line) : c = none := by
  cases c with
  | some d =>
    obtain ⟨n', ls', gs', os'⟩ := d
    obtain ⟨e, _, _⟩ := ans_txt h
    obtain ⟨X, hX⟩ := txt_head n ls gs os
    obtain ⟨Y, hY⟩ := txt_head n' ls' gs' os'
    have e1 : txtHead n ls.length gs.length os.length ++ (X ++ [10]) = txtHead n' ls'.length gs'.length os'.length ++ Y := by rw [← hY, ← e, hX]; simp
    obtain ⟨a, b, c, d⟩ := head_same e1
    have c1 := count_txt n ls gs os
    have c2 := count_txt n' ls' gs' os'
    rw [← e, List.count_append, c1] at c2
    simp at c2
    omega
  | none => rfl

end Go.Proofs.YtgpaajdfkekjiaaDoor
