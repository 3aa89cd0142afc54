/-
  How a text is read, line by line, in plain bytes: the document's own reading. A state is what has been read so far and what is left; a step reads one line; what the reading ends with is one answer.
-/
import Derived.Test.YtgpaajdfkekjiaaDoorNums
namespace Go.Proofs.YtgpaajdfkekjiaaDoor
open Go

open Classical in
/-- The next line, if it is a mark and just so many numbers below a hundred. -/
noncomputable def lineF (mark : List UInt8) (count : Nat) (r : List UInt8) : Option (List Nat × List UInt8) :=
  if h : ∃ p : List Nat × List UInt8, p.1.length = count ∧ (∀ n ∈ p.1, n < 100) ∧ IsLine mark r p.1 p.2 then some h.choose else none

theorem lineF_some {mark r rest : List UInt8} {count : Nat} {ns : List Nat} (h0 : 0 < count) (hl : ns.length = count) (hs : ∀ n ∈ ns, n < 100) (h : IsLine mark r ns rest) : lineF mark count r = some (ns, rest) := by
  have hex : ∃ p : List Nat × List UInt8, p.1.length = count ∧ (∀ n ∈ p.1, n < 100) ∧ IsLine mark r p.1 p.2 := ⟨(ns, rest), hl, hs, h⟩
  unfold lineF
  rw [dif_pos hex]
  have hc := hex.choose_spec
  obtain ⟨e1, e2⟩ := line_inj (fun e => by rw [e] at hc; simp at hc; omega) (fun e => by rw [e] at hl; simp at hl; omega) hc.2.2 h
  rw [← e1, ← e2]
theorem lineF_big {mark r rest : List UInt8} {count : Nat} {ns : List Nat} (h0 : 0 < count) (hl : ns.length = count) (hs : ¬ ∀ n ∈ ns, n < 100) (h : IsLine mark r ns rest) : lineF mark count r = none := by
  unfold lineF
  rw [dif_neg]
  rintro ⟨⟨ns', rest'⟩, h1, h2, h3⟩
  obtain ⟨e1, _⟩ := line_inj (fun e => by rw [e] at h1; simp at h1; omega) (fun e => by rw [e] at hl; simp at hl; omega) h3 h
  simp only at e1 h2
  exact hs (by rw [← e1]; exact h2)
theorem lineF_none {mark r : List UInt8} {count : Nat} (h : ∀ ns rest, ns.length = count → (∀ n ∈ ns, n < 100) → IsLine mark r ns rest → False) : lineF mark count r = none := by
  unfold lineF
  rw [dif_neg]
  rintro ⟨⟨ns', rest'⟩, h1, h2, h3⟩
  exact h ns' rest' h1 h2 h3
theorem lineF_spec {mark r rest : List UInt8} {count : Nat} {ns : List Nat} (h : lineF mark count r = some (ns, rest)) : ns.length = count ∧ (∀ n ∈ ns, n < 100) ∧ IsLine mark r ns rest := by
  unfold lineF at h
  split at h
  · rename_i hex
    have := hex.choose_spec
    injection h with h
    rw [h] at this
    exact this
  · cases h

/-- How many inputs, latches, outputs and gates the first line tells. -/
structure Hd where
  n : Nat
  l : Nat
  o : Nat
  g : Nat
def Hd.Ok (h : Hd) : Prop := h.n ≤ 4 ∧ h.l ≤ 4 ∧ h.o ≤ 4 ∧ h.g ≤ 30
structure St where
  h : Option Hd
  i : Nat
  ls : List (Int × Int)
  os : List Int
  gs : List (Int × Int)
  rest : List UInt8
def st0 (s : List UInt8) : St := ⟨none, 0, [], [], [], s⟩
def aag : List UInt8 := [97, 97, 103, 32]

noncomputable def stepHead (r : List UInt8) : Option St := (lineF aag 5 r).bind fun p =>
  if p.1.getD 1 0 ≤ 4 ∧ p.1.getD 2 0 ≤ 4 ∧ p.1.getD 3 0 ≤ 4 ∧ p.1.getD 4 0 ≤ 30 ∧ p.1.getD 0 0 = p.1.getD 1 0 + p.1.getD 2 0 + p.1.getD 4 0 then
    some ⟨some ⟨p.1.getD 1 0, p.1.getD 2 0, p.1.getD 3 0, p.1.getD 4 0⟩, 0, [], [], [], p.2⟩ else none
noncomputable def stepIn (st : St) : Option St := (lineF [] 1 st.rest).bind fun p =>
  if p.1.getD 0 0 = 2 * st.i + 2 then some ⟨st.h, st.i + 1, st.ls, st.os, st.gs, p.2⟩ else none
noncomputable def stepLatch (h : Hd) (st : St) : Option St := (lineF [] 3 st.rest).bind fun p =>
  if p.1.getD 0 0 = 2 * (h.n + st.ls.length) + 2 ∧ p.1.getD 1 0 ≤ 2 * (h.n + h.l + h.g) + 1 ∧ p.1.getD 2 0 ≤ 1 then some ⟨st.h, st.i, st.ls ++ [(((p.1.getD 1 0 : Nat) : Int), ((p.1.getD 2 0 : Nat) : Int))], st.os, st.gs, p.2⟩ else none
noncomputable def stepOut (h : Hd) (st : St) : Option St := (lineF [] 1 st.rest).bind fun p =>
  if p.1.getD 0 0 ≤ 2 * (h.n + h.l + h.g) + 1 then some ⟨st.h, st.i, st.ls, st.os ++ [((p.1.getD 0 0 : Nat) : Int)], st.gs, p.2⟩ else none
noncomputable def stepGate (h : Hd) (st : St) : Option St := (lineF [] 3 st.rest).bind fun p =>
  if p.1.getD 0 0 = 2 * (h.n + h.l + st.gs.length) + 2 ∧ p.1.getD 1 0 ≤ 2 * (h.n + h.l + st.gs.length) + 1 ∧ p.1.getD 2 0 ≤ 2 * (h.n + h.l + st.gs.length) + 1 then some ⟨st.h, st.i, st.ls, st.os, st.gs ++ [(((p.1.getD 1 0 : Nat) : Int), ((p.1.getD 2 0 : Nat) : Int))], p.2⟩ else none
noncomputable def stepF (st : St) : Option St :=
  match st.h with
  | none => stepHead st.rest
  | some h => if st.i < h.n then stepIn st else if st.ls.length < h.l then stepLatch h st else if st.os.length < h.o then stepOut h st else if st.gs.length < h.g then stepGate h st else none

/-- A line was taken: so many numbers, of whatever size. -/
def Got (mark : List UInt8) (count : Nat) (r : List UInt8) (ns : List Nat) (rest : List UInt8) : Prop := ns.length = count ∧ IsLine mark r ns rest

theorem small1 {ns : List Nat} (hl : ns.length = 1) (h : ns.getD 0 0 < 100) : ∀ n ∈ ns, n < 100 := by
  match ns, hl with
  | [a], _ => intro n hn; simp only [List.mem_singleton] at hn; subst hn; simpa using h
theorem small3 {ns : List Nat} (hl : ns.length = 3) (h0 : ns.getD 0 0 < 100) (h1 : ns.getD 1 0 < 100) (h2 : ns.getD 2 0 < 100) : ∀ n ∈ ns, n < 100 := by
  match ns, hl with
  | [a, b, c], _ =>
    intro n hn
    simp only [List.mem_cons, List.mem_nil_iff, or_false] at hn
    rcases hn with rfl | rfl | rfl
    · simpa using h0
    · simpa using h1
    · simpa using h2
theorem small5 {ns : List Nat} (hl : ns.length = 5) (h0 : ns.getD 0 0 < 100) (h1 : ns.getD 1 0 < 100) (h2 : ns.getD 2 0 < 100) (h3 : ns.getD 3 0 < 100) (h4 : ns.getD 4 0 < 100) : ∀ n ∈ ns, n < 100 := by
  match ns, hl with
  | [a, b, c, d, e], _ =>
    intro n hn
    simp only [List.mem_cons, List.mem_nil_iff, or_false] at hn
    rcases hn with rfl | rfl | rfl | rfl | rfl
    · simpa using h0
    · simpa using h1
    · simpa using h2
    · simpa using h3
    · simpa using h4

/-- What is asked of a line, where it bounds the numbers, tells the step. -/
theorem bind_got {mark r rest : List UInt8} {count : Nat} {ns : List Nat} {C : List Nat → Prop} [DecidablePred C] {F : List Nat × List UInt8 → St} (h0 : 0 < count) (hg : Got mark count r ns rest) (hC : C ns → ∀ n ∈ ns, n < 100) :
    ((lineF mark count r).bind fun p => if C p.1 then some (F p) else none) = if C ns then some (F (ns, rest)) else none := by
  by_cases hs : ∀ n ∈ ns, n < 100
  · rw [lineF_some h0 hg.1 hs hg.2]; rfl
  · rw [lineF_big h0 hg.1 hs hg.2, if_neg (fun h => hs (hC h))]; rfl

theorem stepHead_got {r rest : List UInt8} {ns : List Nat} (hg : Got aag 5 r ns rest) : stepF (st0 r) =
    if ns.getD 1 0 ≤ 4 ∧ ns.getD 2 0 ≤ 4 ∧ ns.getD 3 0 ≤ 4 ∧ ns.getD 4 0 ≤ 30 ∧ ns.getD 0 0 = ns.getD 1 0 + ns.getD 2 0 + ns.getD 4 0 then some ⟨some ⟨ns.getD 1 0, ns.getD 2 0, ns.getD 3 0, ns.getD 4 0⟩, 0, [], [], [], rest⟩ else none :=
  bind_got (C := fun ns => ns.getD 1 0 ≤ 4 ∧ ns.getD 2 0 ≤ 4 ∧ ns.getD 3 0 ≤ 4 ∧ ns.getD 4 0 ≤ 30 ∧ ns.getD 0 0 = ns.getD 1 0 + ns.getD 2 0 + ns.getD 4 0)
    (F := fun p => ⟨some ⟨p.1.getD 1 0, p.1.getD 2 0, p.1.getD 3 0, p.1.getD 4 0⟩, 0, [], [], [], p.2⟩) (by omega) hg
    (fun h => small5 hg.1 (by omega) (by omega) (by omega) (by omega) (by omega))
theorem stepHead_no {r : List UInt8} (h : lineF aag 5 r = none) : stepF (st0 r) = none := by
  show stepHead r = none
  unfold stepHead; rw [h]; rfl
theorem stepIn_got {h : Hd} {i : Nat} {ls gs : List (Int × Int)} {os : List Int} {r rest : List UInt8} {ns : List Nat} (hh : h.Ok) (hi : i < h.n) (hg : Got [] 1 r ns rest) :
    stepF ⟨some h, i, ls, os, gs, r⟩ = if ns.getD 0 0 = 2 * i + 2 then some ⟨some h, i + 1, ls, os, gs, rest⟩ else none := by
  show (if i < h.n then stepIn _ else _) = _
  rw [if_pos hi]
  exact bind_got (C := fun ns => ns.getD 0 0 = 2 * i + 2) (F := fun p => ⟨some h, i + 1, ls, os, gs, p.2⟩) (by omega) hg (fun e => small1 hg.1 (by have := hh.1; omega))
theorem stepIn_no {h : Hd} {i : Nat} {ls gs : List (Int × Int)} {os : List Int} {r : List UInt8} (hi : i < h.n) (hn : lineF [] 1 r = none) : stepF ⟨some h, i, ls, os, gs, r⟩ = none := by
  show (if i < h.n then stepIn _ else _) = _
  rw [if_pos hi]
  unfold stepIn; rw [hn]; rfl
theorem stepLatch_got {h : Hd} {i : Nat} {ls gs : List (Int × Int)} {os : List Int} {r rest : List UInt8} {ns : List Nat} (hh : h.Ok) (hi : i = h.n) (hl : ls.length < h.l) (hg : Got [] 3 r ns rest) :
    stepF ⟨some h, i, ls, os, gs, r⟩ = if ns.getD 0 0 = 2 * (h.n + ls.length) + 2 ∧ ns.getD 1 0 ≤ 2 * (h.n + h.l + h.g) + 1 ∧ ns.getD 2 0 ≤ 1 then some ⟨some h, i, ls ++ [(((ns.getD 1 0 : Nat) : Int), ((ns.getD 2 0 : Nat) : Int))], os, gs, rest⟩ else none := by
  show (if i < h.n then _ else if ls.length < h.l then stepLatch h _ else _) = _
  rw [if_neg (by omega), if_pos hl]
  obtain ⟨h1, h2, h3, h4⟩ := hh
  exact bind_got (C := fun ns => ns.getD 0 0 = 2 * (h.n + ls.length) + 2 ∧ ns.getD 1 0 ≤ 2 * (h.n + h.l + h.g) + 1 ∧ ns.getD 2 0 ≤ 1) (F := fun p => ⟨some h, i, ls ++ [(((p.1.getD 1 0 : Nat) : Int), ((p.1.getD 2 0 : Nat) : Int))], os, gs, p.2⟩) (by omega) hg
    (fun e => small3 hg.1 (by omega) (by omega) (by omega))
theorem stepLatch_no {h : Hd} {i : Nat} {ls gs : List (Int × Int)} {os : List Int} {r : List UInt8} (hi : i = h.n) (hl : ls.length < h.l) (hn : lineF [] 3 r = none) : stepF ⟨some h, i, ls, os, gs, r⟩ = none := by
  show (if i < h.n then _ else if ls.length < h.l then stepLatch h _ else _) = _
  rw [if_neg (by omega), if_pos hl]
  unfold stepLatch; rw [hn]; rfl
theorem stepOut_got {h : Hd} {i : Nat} {ls gs : List (Int × Int)} {os : List Int} {r rest : List UInt8} {ns : List Nat} (hh : h.Ok) (hi : i = h.n) (hl : ls.length = h.l) (ho : os.length < h.o) (hg : Got [] 1 r ns rest) :
    stepF ⟨some h, i, ls, os, gs, r⟩ = if ns.getD 0 0 ≤ 2 * (h.n + h.l + h.g) + 1 then some ⟨some h, i, ls, os ++ [((ns.getD 0 0 : Nat) : Int)], gs, rest⟩ else none := by
  show (if i < h.n then _ else if ls.length < h.l then _ else if os.length < h.o then stepOut h _ else _) = _
  rw [if_neg (by omega), if_neg (by omega), if_pos ho]
  obtain ⟨h1, h2, h3, h4⟩ := hh
  exact bind_got (C := fun ns => ns.getD 0 0 ≤ 2 * (h.n + h.l + h.g) + 1) (F := fun p => ⟨some h, i, ls, os ++ [((p.1.getD 0 0 : Nat) : Int)], gs, p.2⟩) (by omega) hg (fun e => small1 hg.1 (by omega))
theorem stepOut_no {h : Hd} {i : Nat} {ls gs : List (Int × Int)} {os : List Int} {r : List UInt8} (hi : i = h.n) (hl : ls.length = h.l) (ho : os.length < h.o) (hn : lineF [] 1 r = none) : stepF ⟨some h, i, ls, os, gs, r⟩ = none := by
  show (if i < h.n then _ else if ls.length < h.l then _ else if os.length < h.o then stepOut h _ else _) = _
  rw [if_neg (by omega), if_neg (by omega), if_pos ho]
  unfold stepOut; rw [hn]; rfl
theorem stepGate_got {h : Hd} {i : Nat} {ls gs : List (Int × Int)} {os : List Int} {r rest : List UInt8} {ns : List Nat} (hh : h.Ok) (hi : i = h.n) (hl : ls.length = h.l) (ho : os.length = h.o) (hgs : gs.length < h.g) (hg : Got [] 3 r ns rest) :
    stepF ⟨some h, i, ls, os, gs, r⟩ = if ns.getD 0 0 = 2 * (h.n + h.l + gs.length) + 2 ∧ ns.getD 1 0 ≤ 2 * (h.n + h.l + gs.length) + 1 ∧ ns.getD 2 0 ≤ 2 * (h.n + h.l + gs.length) + 1 then some ⟨some h, i, ls, os, gs ++ [(((ns.getD 1 0 : Nat) : Int), ((ns.getD 2 0 : Nat) : Int))], rest⟩ else none := by
  show (if i < h.n then _ else if ls.length < h.l then _ else if os.length < h.o then _ else if gs.length < h.g then stepGate h _ else _) = _
  rw [if_neg (by omega), if_neg (by omega), if_neg (by omega), if_pos hgs]
  obtain ⟨h1, h2, h3, h4⟩ := hh
  exact bind_got (C := fun ns => ns.getD 0 0 = 2 * (h.n + h.l + gs.length) + 2 ∧ ns.getD 1 0 ≤ 2 * (h.n + h.l + gs.length) + 1 ∧ ns.getD 2 0 ≤ 2 * (h.n + h.l + gs.length) + 1) (F := fun p => ⟨some h, i, ls, os, gs ++ [(((p.1.getD 1 0 : Nat) : Int), ((p.1.getD 2 0 : Nat) : Int))], p.2⟩) (by omega) hg
    (fun e => small3 hg.1 (by omega) (by omega) (by omega))
theorem stepGate_no {h : Hd} {i : Nat} {ls gs : List (Int × Int)} {os : List Int} {r : List UInt8} (hi : i = h.n) (hl : ls.length = h.l) (ho : os.length = h.o) (hgs : gs.length < h.g) (hn : lineF [] 3 r = none) : stepF ⟨some h, i, ls, os, gs, r⟩ = none := by
  show (if i < h.n then _ else if ls.length < h.l then _ else if os.length < h.o then _ else if gs.length < h.g then stepGate h _ else _) = _
  rw [if_neg (by omega), if_neg (by omega), if_neg (by omega), if_pos hgs]
  unfold stepGate; rw [hn]; rfl
theorem stepEnd {h : Hd} {i : Nat} {ls gs : List (Int × Int)} {os : List Int} {r : List UInt8} (hi : i = h.n) (hl : ls.length = h.l) (ho : os.length = h.o) (hgs : gs.length = h.g) : stepF ⟨some h, i, ls, os, gs, r⟩ = none := by
  show (if i < h.n then _ else if ls.length < h.l then _ else if os.length < h.o then _ else if gs.length < h.g then _ else none) = none
  rw [if_neg (by omega), if_neg (by omega), if_neg (by omega), if_neg (by omega)]

/-- What has been read behind k lines. -/
noncomputable def runN (s : List UInt8) : Nat → Option St
  | 0 => some (st0 s)
  | k + 1 => (runN s k).bind stepF
theorem runN_step {s : List UInt8} {k : Nat} {st st' : St} (h : runN s k = some st) (h' : stepF st = some st') : runN s (k + 1) = some st' := by rw [runN, h]; exact h'
theorem runN_none {s : List UInt8} {k j : Nat} (h : runN s k = none) (hj : k ≤ j) : runN s j = none := by
  induction j with
  | zero => obtain rfl : k = 0 := by omega
            exact h
  | succ j ih =>
    by_cases e : k = j + 1
    · rw [← e]; exact h
    · rw [runN, ih (by omega)]; rfl

structure Circ where
  n : Nat
  ls : List (Int × Int)
  gs : List (Int × Int)
  os : List Int
/-- Is the whole text read? -/
def St.Done (st : St) : Prop := ∃ h, st.h = some h ∧ st.i = h.n ∧ st.ls.length = h.l ∧ st.os.length = h.o ∧ st.gs.length = h.g ∧ st.rest = []
/-- What the reading of a text ends with: a circuit, or the number of the line that is not as it must be. -/
def Ans (s : List UInt8) (c : Option Circ) (line : Nat) : Prop :=
  (1000 < s.length ∧ c = none ∧ line = 0) ∨
  (s.length ≤ 1000 ∧ ∃ k st, runN s k = some st ∧ stepF st = none ∧ ((st.Done ∧ c = some ⟨st.i, st.ls, st.gs, st.os⟩ ∧ line = 0) ∨ (¬ st.Done ∧ c = none ∧ line = k + 1)))
theorem ans_one {s : List UInt8} {c c' : Option Circ} {line line' : Nat} (h : Ans s c line) (h' : Ans s c' line') : c = c' ∧ line = line' := by
  rcases h with ⟨h1, rfl, rfl⟩ | ⟨h1, k, st, hk, hs, hc⟩
  · rcases h' with ⟨_, rfl, rfl⟩ | ⟨h2, _⟩
    · exact ⟨rfl, rfl⟩
    · omega
  · rcases h' with ⟨h2, _⟩ | ⟨_, k', st', hk', hs', hc'⟩
    · omega
    · have e : k = k' := by
        have a : runN s (k + 1) = none := by rw [runN, hk]; exact hs
        have b : runN s (k' + 1) = none := by rw [runN, hk']; exact hs'
        rcases Nat.lt_trichotomy k k' with hlt | he | hgt
        · rw [runN_none a hlt] at hk'; cases hk'
        · exact he
        · rw [runN_none b hgt] at hk; cases hk
      subst e
      rw [hk] at hk'
      injection hk' with e
      subst e
      rcases hc with ⟨d, rfl, rfl⟩ | ⟨d, rfl, rfl⟩
      · rcases hc' with ⟨_, rfl, rfl⟩ | ⟨d', _, _⟩
        · exact ⟨rfl, rfl⟩
        · exact absurd d d'
      · rcases hc' with ⟨d', _, _⟩ | ⟨_, rfl, rfl⟩
        · exact absurd d' d
        · exact ⟨rfl, rfl⟩
theorem ans_wrong {s : List UInt8} {k : Nat} {st : St} (hs : s.length ≤ 1000) (hk : runN s k = some st) (h : stepF st = none) (hd : ¬ st.Done) : Ans s none (k + 1) := .inr ⟨hs, k, st, hk, h, .inr ⟨hd, rfl, rfl⟩⟩
theorem not_done0 (s : List UInt8) : ¬ (st0 s).Done := by rintro ⟨h, e, _⟩; cases e
theorem not_done_in {h : Hd} {i : Nat} {ls gs : List (Int × Int)} {os : List Int} {r : List UInt8} (hi : i < h.n) : ¬ (St.mk (some h) i ls os gs r).Done := by
  rintro ⟨h', e, hi', _⟩
  injection e with e
  subst e
  simp only at hi'
  omega
theorem not_done_latch {h : Hd} {i : Nat} {ls gs : List (Int × Int)} {os : List Int} {r : List UInt8} (hi : ls.length < h.l) : ¬ (St.mk (some h) i ls os gs r).Done := by
  rintro ⟨h', e, _, hi', _⟩
  injection e with e
  subst e
  simp only at hi'
  omega
theorem not_done_out {h : Hd} {i : Nat} {ls gs : List (Int × Int)} {os : List Int} {r : List UInt8} (hi : os.length < h.o) : ¬ (St.mk (some h) i ls os gs r).Done := by
  rintro ⟨h', e, _, _, hi', _⟩
  injection e with e
  subst e
  simp only at hi'
  omega
theorem not_done_gate {h : Hd} {i : Nat} {ls gs : List (Int × Int)} {os : List Int} {r : List UInt8} (hi : gs.length < h.g) : ¬ (St.mk (some h) i ls os gs r).Done := by
  rintro ⟨h', e, _, _, _, hi', _⟩
  injection e with e
  subst e
  simp only at hi'
  omega
theorem not_done_rest {h : Option Hd} {i : Nat} {ls gs : List (Int × Int)} {os : List Int} {r : List UInt8} (hr : r ≠ []) : ¬ (St.mk h i ls os gs r).Done := by
  rintro ⟨h', _, _, _, _, _, hi'⟩
  exact hr hi'

end Go.Proofs.YtgpaajdfkekjiaaDoor
