/-
  A search whose things to be looked at stand in a list, of which the least is taken first: what it keeps. Plain mathematics.
-/
import Derived.Test.YtgpaajdfkekjiabPairs
namespace Go.Proofs.Ytgpaajdfkekjiab
namespace Duo
variable {M : Duo}

theorem nodup_lt : ∀ (n : Nat) (l : List Nat), l.Nodup → (∀ x ∈ l, x < n) → l.length ≤ n := by
  intro n
  induction n with
  | zero =>
    intro l _ h
    cases l with
    | nil => simp
    | cons a l => have := h a (List.mem_cons_self ..); omega
  | succ n ih =>
    intro l hl h
    have h1 := ih (l.filter (· != n)) (hl.filter _) (fun x hx => by
      obtain ⟨h2, h3⟩ := List.mem_filter.1 hx
      have := h x h2
      have h4 : x ≠ n := by simpa using h3
      omega)
    have h2 : (l.filter (· == n)).length ≤ 1 := by
      rw [← List.countP_eq_length_filter]
      exact List.nodup_iff_count.1 hl n
    have h3 : l.length = (l.filter (· == n)).length + (l.filter (· != n)).length := by
      rw [← List.countP_eq_length_filter, ← List.countP_eq_length_filter]
      have := List.length_eq_countP_add_countP (l := l) (· == n)
      rw [this]
      congr 1
      apply List.countP_congr
      intro x _
      simp
    omega
theorem map_nodup {α β : Type} (f : α → β) : ∀ (l : List α), (∀ a ∈ l, ∀ b ∈ l, f a = f b → a = b) → l.Nodup → (l.map f).Nodup
  | [], _, _ => by simp
  | a :: l, hf, hl => by
    rw [List.map_cons, List.nodup_cons]
    obtain ⟨h1, h2⟩ := List.nodup_cons.1 hl
    refine ⟨fun h => ?_, map_nodup f l (fun x hx y hy => hf x (List.mem_cons_of_mem _ hx) y (List.mem_cons_of_mem _ hy)) h2⟩
    obtain ⟨b, hb, e⟩ := List.mem_map.1 h
    have := hf b (List.mem_cons_of_mem _ hb) a (List.mem_cons_self ..) e
    exact h1 (this ▸ hb)
theorem pairs_few (l : List (Nat × Nat)) (h : l.Nodup) (hb : ∀ p ∈ l, p.1 < 16 ∧ p.2 < 16) : l.length ≤ 256 := by
  have := nodup_lt 256 (l.map fun p => p.1 * 16 + p.2) (map_nodup _ _ (fun a ha b hb' e => by
    have h1 := hb a ha
    have h2 := hb b hb'
    have e1 : a.1 = b.1 := by omega
    have e2 : a.2 = b.2 := by omega
    exact Prod.ext e1 e2) h) (fun x hx => by
    obtain ⟨p, hp, rfl⟩ := List.mem_map.1 hx
    have := hb p hp
    omega)
  simpa using this
theorem diag_few (l : List (Nat × Nat)) (h : l.Nodup) (hb : ∀ p ∈ l, p.1 < 16 ∧ p.1 = p.2) : l.length ≤ 16 := by
  have := nodup_lt 16 (l.map fun p => p.1) (map_nodup _ _ (fun a ha b hb' e => by
    have h1 := hb a ha
    have h2 := hb b hb'
    exact Prod.ext e (by rw [← h1.2, ← h2.2]; exact e)) h) (fun x hx => by
    obtain ⟨p, hp, rfl⟩ := List.mem_map.1 hx
    exact (hb p hp).1)
  simpa using this

/-- The states stay below 16. -/
def Small (M : Duo) : Prop := M.p0.1 < 16 ∧ M.p0.2 < 16 ∧ ∀ p i, (M.step p i).1 < 16 ∧ (M.step p i).2 < 16
theorem run_small (h : M.Small) (u : List Nat) : (M.run u).1 < 16 ∧ (M.run u).2 < 16 := by
  rcases snoc_cases u with rfl | ⟨q, i, rfl⟩
  · exact ⟨h.1, h.2.1⟩
  · rw [M.run_snoc]; exact h.2.2 _ _

/-- What the search keeps, between two turns. -/
structure PQ (M : Duo) (todo E : List (List Nat)) : Prop where
  search : M.Search E (· ∈ todo)
  valid : ∀ x ∈ todo, M.Valid x
  order : ∀ u ∈ E, ∀ x ∈ todo, code u ≤ code x
  len : ∀ x ∈ todo, x.length ≤ E.length
  count : todo.length + E.length ≤ M.K * E.length + 1

theorem PQ.start : M.PQ [[]] [] :=
  ⟨⟨fun u h => (List.not_mem_nil h).elim, by simp, .inl (by simp), fun u h => (List.not_mem_nil h).elim⟩, fun x hx => by simp at hx; subst hx; exact M.valid_nil, fun u h => (List.not_mem_nil h).elim, fun x hx => by simp at hx; subst hx; simp, by simp⟩

theorem PQ.perm {todo todo' E : List (List Nat)} (h : M.PQ todo E) (p : todo.Perm todo') : M.PQ todo' E := by
  obtain ⟨⟨s1, s2, s3, s4⟩, v, o, l, c⟩ := h
  exact ⟨⟨s1, s2, s3.imp (fun h => p.mem_iff.1 h) id, fun u hu i hi => (s4 u hu i hi).imp (fun h => p.mem_iff.1 h) id⟩, fun x hx => v x (p.mem_iff.2 hx), fun u hu x hx => o u hu x (p.mem_iff.2 hx), fun x hx => l x (p.mem_iff.2 hx), by rw [← p.length_eq]; exact c⟩

/-- What was come to before is passed by. -/
theorem PQ.skip {x : List Nat} {rest E : List (List Nat)} (h : M.PQ (x :: rest) E) (hd : M.difL x = 0) (hk : M.run x ∈ E.map M.run) : M.PQ rest E := by
  obtain ⟨⟨s1, s2, s3, s4⟩, v, o, l, c⟩ := h
  obtain ⟨u, hu, hrun⟩ := List.mem_map.1 hk
  have hux := o u hu x (List.mem_cons_self ..)
  refine ⟨⟨s1, s2, ?_, fun y hy i hi => ?_⟩, fun y hy => v y (List.mem_cons_of_mem _ hy), fun y hy z hz => o y hy z (List.mem_cons_of_mem _ hz), fun y hy => l y (List.mem_cons_of_mem _ hy), by simp at c; omega⟩
  · rcases s3 with h | h
    · rcases List.mem_cons.1 h with e | h
      · subst e; exact .inr ⟨hd, u, hu, hux, hrun⟩
      · exact .inl h
    · exact .inr h
  · rcases s4 y hy i hi with h | h
    · rcases List.mem_cons.1 h with e | h
      · subst e; exact .inr ⟨hd, u, hu, hux, hrun⟩
      · exact .inl h
    · exact .inr h

def kids (x : List Nat) (k : Nat) : List (List Nat) := (List.range k).map fun i => x ++ [i]
theorem kids_succ (x : List Nat) (k : Nat) : kids x (k + 1) = kids x k ++ [x ++ [k]] := by simp [kids, List.range_succ]
theorem mem_kids {x y : List Nat} {k : Nat} : y ∈ kids x k ↔ ∃ i, i < k ∧ y = x ++ [i] := by
  simp only [kids, List.mem_map, List.mem_range]
  exact ⟨fun ⟨i, h, e⟩ => ⟨i, h, e.symm⟩, fun ⟨i, h, e⟩ => ⟨i, h, e.symm⟩⟩
theorem kids_len (x : List Nat) (k : Nat) : (kids x k).length = k := by simp [kids]

/-- A new pair is gone on from. -/
theorem PQ.expand {x : List Nat} {rest E : List (List Nat)} (h : M.PQ (x :: rest) E) (hd : M.difL x = 0) (hk : M.run x ∉ E.map M.run) (hmin : ∀ y ∈ rest, code x ≤ code y) : M.PQ (rest ++ kids x M.K) (E ++ [x]) := by
  obtain ⟨⟨s1, s2, s3, s4⟩, v, o, l, c⟩ := h
  have hxE : x ∈ E ++ [x] := by simp
  have up : ∀ z, (M.difL z = 0 ∧ ∃ u ∈ E, code u ≤ code z ∧ M.run u = M.run z) → (M.difL z = 0 ∧ ∃ u ∈ E ++ [x], code u ≤ code z ∧ M.run u = M.run z) := fun z ⟨h1, u, hu, h2⟩ => ⟨h1, u, List.mem_append.2 (.inl hu), h2⟩
  have go : ∀ z, (z ∈ x :: rest ∨ (M.difL z = 0 ∧ ∃ u ∈ E, code u ≤ code z ∧ M.run u = M.run z)) → (z ∈ rest ++ kids x M.K ∨ (M.difL z = 0 ∧ ∃ u ∈ E ++ [x], code u ≤ code z ∧ M.run u = M.run z)) := fun z hz => by
    rcases hz with h | h
    · rcases List.mem_cons.1 h with e | h
      · subst e; exact .inr ⟨hd, z, hxE, Nat.le_refl _, rfl⟩
      · exact .inl (List.mem_append.2 (.inl h))
    · exact .inr (up z h)
  have hvx := v x (List.mem_cons_self ..)
  refine ⟨⟨fun u hu => ?_, ?_, go [] s3, fun u hu i hi => ?_⟩, fun y hy => ?_, fun u hu y hy => ?_, fun y hy => ?_, ?_⟩
  · rcases List.mem_append.1 hu with h | h
    · exact s1 u h
    · simp at h; subst h; exact hvx
  · rw [List.map_append, List.map_singleton]
    refine List.nodup_append.2 ⟨s2, by simp, fun a ha b hb e => ?_⟩
    simp at hb
    subst hb
    subst e
    exact hk ha
  · rcases List.mem_append.1 hu with h | h
    · exact go _ (s4 u h i hi)
    · simp at h; subst h
      exact .inl (List.mem_append.2 (.inr (mem_kids.2 ⟨i, hi, rfl⟩)))
  · rcases List.mem_append.1 hy with h | h
    · exact v y (List.mem_cons_of_mem _ h)
    · obtain ⟨i, hi, rfl⟩ := mem_kids.1 h
      exact M.valid_snoc.2 ⟨hvx, hi⟩
  · have hy2 : code x ≤ code y := by
      rcases List.mem_append.1 hy with h | h
      · exact hmin y h
      · obtain ⟨i, hi, rfl⟩ := mem_kids.1 h
        exact code_prefix (List.prefix_append _ _)
    rcases List.mem_append.1 hu with h | h
    · exact Nat.le_trans (o u h x (List.mem_cons_self ..)) hy2
    · simp at h; subst h; exact hy2
  · rw [List.length_append, List.length_singleton]
    rcases List.mem_append.1 hy with h | h
    · have := l y (List.mem_cons_of_mem _ h); omega
    · obtain ⟨i, hi, rfl⟩ := mem_kids.1 h
      have := l x (List.mem_cons_self ..)
      simp; omega
  · have e1 : (x :: rest).length = rest.length + 1 := rfl
    have e2 : (rest ++ kids x M.K).length = rest.length + M.K := by rw [List.length_append, kids_len]
    have e3 : (E ++ [x]).length = E.length + 1 := by simp
    have e4 : M.K * (E.length + 1) = M.K * E.length + M.K := Nat.mul_succ _ _
    rw [e1] at c
    rw [e2, e3, e4]
    omega

theorem PQ.few {todo E : List (List Nat)} (h : M.PQ todo E) (hs : M.Small) : E.length ≤ 256 := by
  have := pairs_few (E.map M.run) h.search.nodup (fun p hp => by obtain ⟨u, _, rfl⟩ := List.mem_map.1 hp; exact run_small hs u)
  simpa using this
theorem PQ.room {todo E : List (List Nat)} (h : M.PQ todo E) (hs : M.Small) (hK : M.K ≤ 16) : todo.length ≤ 4097 := by
  have h1 := h.few hs
  have h2 := h.count
  have h3 : M.K * E.length ≤ 16 * 256 := Nat.mul_le_mul hK h1
  omega

/-- The search finds a difference. -/
theorem PQ.differs {x : List Nat} {rest E : List (List Nat)} (h : M.PQ (x :: rest) E) (hK : M.K ≤ 16) (hd : M.difL x ≠ 0) (hmin : ∀ y ∈ rest, code x ≤ code y) : M.Says false 0 x (M.difL x) :=
  h.search.differs hK (h.valid x (List.mem_cons_self ..)) hd (fun y hy => by
    rcases List.mem_cons.1 hy with e | hy
    · subst e; exact Nat.le_refl _
    · exact hmin y hy)
theorem PQ.same {E : List (List Nat)} (h : M.PQ [] E) (hK : M.K ≤ 16) : M.Says true E.length [] 0 := h.search.same hK (fun y hy => by cases hy)

end Duo
end Go.Proofs.Ytgpaajdfkekjiab
