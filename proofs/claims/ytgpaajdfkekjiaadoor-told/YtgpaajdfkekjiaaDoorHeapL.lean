/-
  A heap in a list: what a step up and a step down keep. Plain mathematics.
-/
import Derived.Test.YtgpaajdfkekjiaaDoorPairsQ
namespace Go.Proofs.YtgpaajdfkekjiaaDoor

/-- The key of the k-th thing. -/
def keyAt (l : List (List Nat)) (k : Nat) : Nat := code (l.getD k [])
def swapL (l : List (List Nat)) (i j : Nat) : List (List Nat) := (l.set i (l.getD j [])).set j (l.getD i [])
theorem swapL_len (l : List (List Nat)) (i j : Nat) : (swapL l i j).length = l.length := by simp [swapL]
theorem swapL_get (l : List (List Nat)) {i j : Nat} (hi : i < l.length) (hj : j < l.length) (k : Nat) : (swapL l i j).getD k [] = if k = j then l.getD i [] else if k = i then l.getD j [] else l.getD k [] := by
  unfold swapL
  simp only [List.getD_eq_getElem?_getD]
  by_cases h1 : k = j
  · subst h1; simp [hj]
  · rw [List.getElem?_set_ne (by omega), if_neg h1]
    by_cases h2 : k = i
    · subst h2; simp [hi]
    · rw [List.getElem?_set_ne (by omega), if_neg h2]
theorem swapL_perm (l : List (List Nat)) {i j : Nat} (hi : i < l.length) (hj : j < l.length) : (swapL l i j).Perm l := by
  have := List.set_set_perm (as := l) hi hj
  unfold swapL
  simpa [List.getD_eq_getElem?_getD, hi, hj] using this
theorem keyAt_swap (l : List (List Nat)) {i j : Nat} (hi : i < l.length) (hj : j < l.length) (k : Nat) : keyAt (swapL l i j) k = if k = j then keyAt l i else if k = i then keyAt l j else keyAt l k := by
  unfold keyAt
  rw [swapL_get l hi hj]
  split
  · rfl
  · split <;> rfl

/-- The first n things are a heap. -/
def IsHeap (l : List (List Nat)) (n : Nat) : Prop := ∀ k, 0 < k → k < n → keyAt l ((k - 1) / 2) ≤ keyAt l k
theorem IsHeap.least {l : List (List Nat)} {n : Nat} (h : IsHeap l n) : ∀ k, k < n → keyAt l 0 ≤ keyAt l k := by
  intro k
  induction k using Nat.strongRecOn with
  | ind k ih =>
    intro hk
    by_cases h0 : k = 0
    · subst h0; exact Nat.le_refl _
    · exact Nat.le_trans (ih ((k - 1) / 2) (by omega) (by omega)) (h k (by omega) hk)

/-- A heap but for the j-th thing, which may be too little. -/
structure UpInv (l : List (List Nat)) (n j : Nat) : Prop where
  rest : ∀ k, 0 < k → k < n → k ≠ j → keyAt l ((k - 1) / 2) ≤ keyAt l k
  over : ∀ k, 0 < k → k < n → (k - 1) / 2 = j → 0 < j → keyAt l ((j - 1) / 2) ≤ keyAt l k
theorem UpInv.done {l : List (List Nat)} {n j : Nat} (h : UpInv l n j) (hd : j = 0 ∨ keyAt l ((j - 1) / 2) ≤ keyAt l j) : IsHeap l n := fun k h0 hk => by
  by_cases e : k = j
  · subst e
    rcases hd with hd | hd
    · omega
    · exact hd
  · exact h.rest k h0 hk e
theorem UpInv.step {l : List (List Nat)} {n j : Nat} (h : UpInv l n j) (h0 : 0 < j) (hj : j < n) (hn : n ≤ l.length) (hlt : keyAt l j < keyAt l ((j - 1) / 2)) : UpInv (swapL l ((j - 1) / 2) j) n ((j - 1) / 2) := by
  have hi : (j - 1) / 2 < l.length := by omega
  have hj' : j < l.length := by omega
  refine ⟨fun k k0 kn ke => ?_, fun k k0 kn ke i0 => ?_⟩
  · rw [keyAt_swap l hi hj', keyAt_swap l hi hj']
    by_cases e1 : k = j
    · subst e1
      rw [if_neg (by omega), if_pos rfl, if_pos rfl]
      omega
    · rw [if_neg e1, if_neg ke]
      by_cases e2 : (k - 1) / 2 = j
      · rw [if_pos e2]
        exact h.over k k0 kn e2 h0
      · rw [if_neg e2]
        by_cases e3 : (k - 1) / 2 = (j - 1) / 2
        · rw [if_pos e3]
          have := h.rest k k0 kn e1
          rw [e3] at this
          omega
        · rw [if_neg e3]
          exact h.rest k k0 kn e1
  · have hpar := h.rest ((j - 1) / 2) i0 (by omega) (by omega)
    rw [keyAt_swap l hi hj', keyAt_swap l hi hj']
    rw [if_neg (by omega), if_neg (by omega)]
    by_cases e1 : k = j
    · subst e1
      rw [if_pos rfl]
      exact hpar
    · rw [if_neg e1, if_neg (by omega)]
      have := h.rest k k0 kn e1
      rw [ke] at this
      omega
/-- One more thing, at the end. -/
theorem UpInv.push {l : List (List Nat)} (h : IsHeap l l.length) (x : List Nat) : UpInv (l ++ [x]) (l.length + 1) l.length := by
  have old : ∀ k, k < l.length → keyAt (l ++ [x]) k = keyAt l k := fun k hk => by
    unfold keyAt
    simp only [List.getD_eq_getElem?_getD]
    rw [List.getElem?_append_left hk]
  refine ⟨fun k k0 kn ke => ?_, fun k k0 kn ke i0 => by omega⟩
  rw [old _ (by omega), old _ (by omega)]
  exact h k k0 (by omega)

/-- A heap but for the i-th thing, which may be too great. -/
structure DownInv (l : List (List Nat)) (n i : Nat) : Prop where
  rest : ∀ k, 0 < k → k < n → (k - 1) / 2 ≠ i → keyAt l ((k - 1) / 2) ≤ keyAt l k
  over : ∀ k, 0 < k → k < n → (k - 1) / 2 = i → 0 < i → keyAt l ((i - 1) / 2) ≤ keyAt l k
theorem DownInv.done {l : List (List Nat)} {n i : Nat} (h : DownInv l n i) (hd : ∀ k, 0 < k → k < n → (k - 1) / 2 = i → keyAt l i ≤ keyAt l k) : IsHeap l n := fun k h0 hk => by
  by_cases e : (k - 1) / 2 = i
  · rw [e]; exact hd k h0 hk e
  · exact h.rest k h0 hk e
theorem DownInv.step {l : List (List Nat)} {n i j : Nat} (h : DownInv l n i) (hj : j < n) (hji : (j - 1) / 2 = i) (h0 : 0 < j) (hn : n ≤ l.length) (hlt : keyAt l j < keyAt l i) (hleast : ∀ k, 0 < k → k < n → (k - 1) / 2 = i → keyAt l j ≤ keyAt l k) : DownInv (swapL l i j) n j := by
  have hi' : i < l.length := by omega
  have hj' : j < l.length := by omega
  refine ⟨fun k k0 kn ke => ?_, fun k k0 kn ke i0 => ?_⟩
  · rw [keyAt_swap l hi' hj', keyAt_swap l hi' hj', if_neg ke]
    by_cases e1 : k = j
    · subst e1
      rw [if_pos hji, if_pos rfl]
      omega
    · rw [if_neg e1]
      by_cases e2 : (k - 1) / 2 = i
      · rw [if_pos e2, if_neg (by omega)]
        exact hleast k k0 kn e2
      · rw [if_neg e2]
        by_cases e3 : k = i
        · subst e3
          rw [if_pos rfl]
          exact h.over j h0 hj hji k0
        · rw [if_neg e3]
          exact h.rest k k0 kn e2
  · rw [hji]
    rw [keyAt_swap l hi' hj', keyAt_swap l hi' hj', if_neg (by omega), if_pos rfl, if_neg (by omega), if_neg (by omega)]
    have := h.rest k k0 kn (by omega)
    rw [ke] at this
    exact this
/-- The first and the last have changed places. -/
theorem DownInv.pop {l : List (List Nat)} {n : Nat} (h : IsHeap l (n + 1)) (hl : l.length = n + 1) : DownInv (swapL l 0 n) n 0 := by
  refine ⟨fun k k0 kn ke => ?_, fun k k0 kn ke i0 => by omega⟩
  rw [keyAt_swap l (by omega) (by omega), keyAt_swap l (by omega) (by omega), if_neg (by omega), if_neg ke, if_neg (by omega), if_neg (by omega)]
  exact h k k0 (by omega)

theorem isHeap_take {l : List (List Nat)} {n m : Nat} (h : IsHeap l n) (hm : n ≤ m) : IsHeap (l.take m) n := fun k k0 kn => by
  have e : ∀ j, j < m → keyAt (l.take m) j = keyAt l j := fun j hj => by
    unfold keyAt
    simp only [List.getD_eq_getElem?_getD]
    rw [List.getElem?_take_of_lt hj]
  rw [e _ (by omega), e _ (by omega)]
  exact h k k0 kn

end Go.Proofs.YtgpaajdfkekjiaaDoor
