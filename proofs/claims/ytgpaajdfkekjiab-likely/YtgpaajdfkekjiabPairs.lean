/-
  Plain mathematics of two machines that run side by side: inputs in the order 'the shortest first, of those the least', the least inputs by which the two differ, and what a search that goes through pairs of states in that order finds. No program in it.
-/
namespace Go.Proofs.Ytgpaajdfkekjiab

/-- Two machines at once: a first pair of states, a step with an input, and how far the outputs of that step differ (0: not at all). Inputs are below K. -/
structure Duo where
  K : Nat
  p0 : Nat × Nat
  step : Nat × Nat → Nat → Nat × Nat
  dif : Nat × Nat → Nat → Nat

namespace Duo
variable (M : Duo)
def run (u : List Nat) : Nat × Nat := u.foldl M.step M.p0
/-- How far the outputs of the last step differ. -/
def difL (u : List Nat) : Nat := if u = [] then 0 else M.dif (M.run u.dropLast) (u.getLast?.getD 0)
def Valid (u : List Nat) : Prop := ∀ i ∈ u, i < M.K
def Reach (p : Nat × Nat) : Prop := ∃ u, M.Valid u ∧ M.run u = p

theorem run_snoc (u : List Nat) (i : Nat) : M.run (u ++ [i]) = M.step (M.run u) i := by simp [run]
theorem difL_nil : M.difL [] = 0 := rfl
theorem difL_snoc (u : List Nat) (i : Nat) : M.difL (u ++ [i]) = M.dif (M.run u) i := by simp [difL]
theorem run_app {u v : List Nat} (h : M.run u = M.run v) (r : List Nat) : M.run (u ++ r) = M.run (v ++ r) := by
  unfold run at *
  rw [List.foldl_append, List.foldl_append, h]
theorem valid_nil : M.Valid [] := fun i h => by cases h
theorem valid_snoc {u : List Nat} {i : Nat} : M.Valid (u ++ [i]) ↔ M.Valid u ∧ i < M.K := by
  unfold Valid
  simp only [List.mem_append, List.mem_singleton]
  exact ⟨fun h => ⟨fun j hj => h j (.inl hj), h i (.inr rfl)⟩, fun h j hj => hj.elim (h.1 j) (fun e => e ▸ h.2)⟩
end Duo

/-- Every list is nothing, or a list and one more. -/
theorem snoc_cases {α : Type} (u : List α) : u = [] ∨ ∃ q i, u = q ++ [i] := by
  rcases List.eq_nil_or_concat u with h | ⟨q, i, h⟩
  · exact .inl h
  · exact .inr ⟨q, i, by rw [h]; simp⟩

/-- A list of inputs as one number: those that are shorter are less, of as long ones the lesser. -/
def code (u : List Nat) : Nat := u.foldl (fun a i => a * 16 + i) 1
theorem code_snoc (u : List Nat) (i : Nat) : code (u ++ [i]) = code u * 16 + i := by simp [code]
theorem code_nil : code [] = 1 := rfl
def Dig (u : List Nat) : Prop := ∀ i ∈ u, i < 16
theorem dig_snoc {u : List Nat} {i : Nat} : Dig (u ++ [i]) ↔ Dig u ∧ i < 16 := by
  unfold Dig
  simp only [List.mem_append, List.mem_singleton]
  exact ⟨fun h => ⟨fun j hj => h j (.inl hj), h i (.inr rfl)⟩, fun h j hj => hj.elim (h.1 j) (fun e => e ▸ h.2)⟩
theorem code_bd : ∀ (n : Nat) (u : List Nat), u.length = n → Dig u → 16 ^ n ≤ code u ∧ code u < 2 * 16 ^ n := by
  intro n
  induction n with
  | zero => intro u hu _; obtain rfl := List.length_eq_zero_iff.1 hu; decide
  | succ n ih =>
    intro u hu hd
    rcases snoc_cases u with rfl | ⟨q, i, rfl⟩
    · simp at hu
    · obtain ⟨hd1, hi⟩ := dig_snoc.1 hd
      have hq : q.length = n := by simpa using hu
      have := ih q hq hd1
      rw [code_snoc, Nat.pow_succ]
      omega
theorem code_inj : ∀ (n : Nat) (u v : List Nat), u.length = n → Dig u → Dig v → code u = code v → u = v := by
  intro n
  induction n with
  | zero =>
    intro u v hu _ hv h
    obtain rfl := List.length_eq_zero_iff.1 hu
    rcases snoc_cases v with rfl | ⟨q, i, rfl⟩
    · rfl
    · obtain ⟨hd1, hi⟩ := dig_snoc.1 hv
      have := code_bd _ q rfl hd1
      have h16 : 1 ≤ 16 ^ q.length := Nat.pos_of_ne_zero (by simp)
      rw [code_snoc, code_nil] at h
      omega
  | succ n ih =>
    intro u v hu hdu hdv h
    rcases snoc_cases u with rfl | ⟨q, i, rfl⟩
    · simp at hu
    rcases snoc_cases v with rfl | ⟨r, j, rfl⟩
    · obtain ⟨hd1, hi⟩ := dig_snoc.1 hdu
      have := code_bd _ q rfl hd1
      have h16 : 1 ≤ 16 ^ q.length := Nat.pos_of_ne_zero (by simp)
      rw [code_snoc, code_nil] at h
      omega
    obtain ⟨hq, hi⟩ := dig_snoc.1 hdu
    obtain ⟨hr, hj⟩ := dig_snoc.1 hdv
    rw [code_snoc, code_snoc] at h
    have e1 : code q = code r := by omega
    have e2 : i = j := by omega
    rw [ih q r (by simpa using hu) hq hr e1, e2]
theorem code_one (u : List Nat) : 1 ≤ code u := by
  suffices h : ∀ n (u : List Nat), u.length = n → 1 ≤ code u from h _ u rfl
  intro n
  induction n with
  | zero => intro u hu; obtain rfl := List.length_eq_zero_iff.1 hu; decide
  | succ n ih =>
    intro u hu
    rcases snoc_cases u with rfl | ⟨q, i, rfl⟩
    · decide
    · have := ih q (by simpa using hu)
      rw [code_snoc]; omega
theorem code_app_lt {u v : List Nat} (h : code u < code v) (r : List Nat) : code (u ++ r) < code (v ++ r) := by
  suffices hh : ∀ n (r : List Nat), r.length = n → code (u ++ r) < code (v ++ r) from hh _ r rfl
  intro n
  induction n with
  | zero => intro r hr; obtain rfl := List.length_eq_zero_iff.1 hr; simpa using h
  | succ n ih =>
    intro r hr
    rcases snoc_cases r with rfl | ⟨q, i, rfl⟩
    · simp at hr
    · have := ih q (by simpa using hr)
      rw [← List.append_assoc, ← List.append_assoc, code_snoc, code_snoc]; omega
theorem code_prefix {u v : List Nat} (h : u <+: v) : code u ≤ code v := by
  obtain ⟨r, rfl⟩ := h
  suffices hh : ∀ n (r : List Nat), r.length = n → code u ≤ code (u ++ r) from hh _ r rfl
  intro n
  induction n with
  | zero => intro r hr; obtain rfl := List.length_eq_zero_iff.1 hr; simp
  | succ n ih =>
    intro r hr
    rcases snoc_cases r with rfl | ⟨q, i, rfl⟩
    · simp
    · have := ih q (by simpa using hr)
      rw [← List.append_assoc, code_snoc]; omega
/-- The shorter are less. -/
theorem code_shorter {u v : List Nat} (hu : Dig u) (hv : Dig v) (h : u.length < v.length) : code u < code v := by
  have a := code_bd _ u rfl hu
  have b := code_bd _ v rfl hv
  have : 16 ^ (u.length + 1) ≤ 16 ^ v.length := Nat.pow_le_pow_right (by omega) h
  rw [Nat.pow_succ] at this
  omega

namespace Duo
variable {M : Duo}
/-- v is the least of those by which the two differ. -/
def Least (M : Duo) (v : List Nat) : Prop := M.Valid v ∧ M.difL v ≠ 0 ∧ ∀ x, M.Valid x → M.difL x ≠ 0 → code v ≤ code x
theorem exists_least {v : List Nat} (hv : M.Valid v) (hd : M.difL v ≠ 0) : ∃ x, M.Least x := by
  suffices h : ∀ n (v : List Nat), code v ≤ n → M.Valid v → M.difL v ≠ 0 → ∃ x, M.Least x from h _ v (Nat.le_refl _) hv hd
  intro n
  induction n with
  | zero => intro v hc; have := code_one v; omega
  | succ n ih =>
    intro v hc hv hd
    by_cases h : ∃ x, M.Valid x ∧ M.difL x ≠ 0 ∧ code x < code v
    · obtain ⟨x, h1, h2, h3⟩ := h
      exact ih x (by omega) h1 h2
    · exact ⟨v, hv, hd, fun x h1 h2 => Nat.le_of_not_lt (fun h3 => h ⟨x, h1, h2, h3⟩)⟩

/-- A search: E are the inputs whose pair of states has been gone on from, T those that are still to be looked at. -/
structure Search (M : Duo) (E : List (List Nat)) (T : List Nat → Prop) : Prop where
  valid : ∀ u ∈ E, M.Valid u
  nodup : (E.map M.run).Nodup
  first : T [] ∨ (M.difL [] = 0 ∧ ∃ u ∈ E, code u ≤ code [] ∧ M.run u = M.run [])
  next : ∀ u ∈ E, ∀ i, i < M.K → T (u ++ [i]) ∨ (M.difL (u ++ [i]) = 0 ∧ ∃ x ∈ E, code x ≤ code (u ++ [i]) ∧ M.run x = M.run (u ++ [i]))

theorem dig_of_valid {u : List Nat} (hK : M.K ≤ 16) (h : M.Valid u) : Dig u := fun i hi => Nat.lt_of_lt_of_le (h i hi) hK

/-- Of the least inputs by which they differ some beginning is still to be looked at. -/
theorem Search.some_left {E : List (List Nat)} {T : List Nat → Prop} (S : Search M E T) (hK : M.K ≤ 16) {v : List Nat} (hv : M.Least v) : ∃ x, x <+: v ∧ T x := by
  obtain ⟨hval, hdif, hmin⟩ := hv
  have key : ∀ n (p : List Nat), p.length = n → p <+: v → (∃ x, x <+: v ∧ T x) ∨ (M.difL p = 0 ∧ ∃ u ∈ E, code u ≤ code p ∧ M.run u = M.run p) := by
    intro n
    induction n with
    | zero =>
      intro p hp hpv
      obtain rfl := List.length_eq_zero_iff.1 hp
      rcases S.first with h | h
      · exact .inl ⟨[], hpv, h⟩
      · exact .inr h
    | succ n ih =>
      intro p hp hpv
      rcases snoc_cases p with rfl | ⟨q, i, rfl⟩
      · simp at hp
      have hqv : q <+: v := (List.prefix_append q [i]).trans hpv
      rcases ih q (by simpa using hp) hqv with h | ⟨_, u, hu, hle, hrun⟩
      · exact .inl h
      have hpval : M.Valid (q ++ [i]) := fun j hj => hval j (hpv.subset hj)
      obtain ⟨hq, hi⟩ := M.valid_snoc.1 hpval
      have hne : ¬ code u < code q := by
        intro hlt
        obtain ⟨r, hr⟩ := hpv
        have hr' : v = q ++ ([i] ++ r) := by rw [← hr]; simp
        have hlt2 : code (u ++ ([i] ++ r)) < code v := by rw [hr']; exact code_app_lt hlt _
        have hval2 : M.Valid (u ++ ([i] ++ r)) := fun j hj => by
          rcases List.mem_append.1 hj with h | h
          · exact S.valid u hu j h
          · exact hval j (by rw [hr']; exact List.mem_append.2 (.inr h))
        have hd2 : M.difL (u ++ ([i] ++ r)) = M.difL v := by
          rcases snoc_cases r with rfl | ⟨t, k, rfl⟩
          · rw [hr']; simp only [List.append_nil, M.difL_snoc, hrun]
          · rw [hr']
            rw [show u ++ ([i] ++ (t ++ [k])) = (u ++ ([i] ++ t)) ++ [k] by simp, show q ++ ([i] ++ (t ++ [k])) = (q ++ ([i] ++ t)) ++ [k] by simp, M.difL_snoc, M.difL_snoc, M.run_app hrun]
        have := hmin _ hval2 (by rw [hd2]; exact hdif)
        omega
      obtain rfl : u = q := code_inj _ u q rfl (dig_of_valid hK (S.valid u hu)) (dig_of_valid hK hq) (by omega)
      rcases S.next u hu i hi with h | h
      · exact .inl ⟨_, hpv, h⟩
      · exact .inr h
  rcases key _ v rfl (List.prefix_refl v) with h | ⟨h, _⟩
  · exact h
  · exact absurd h hdif

/-- What Compare tells. -/
def Says (M : Duo) (same : Bool) (reached : Nat) (trace : List Nat) (d : Nat) : Prop :=
  (same = true ∧ trace = [] ∧ d = 0 ∧ (∀ v, M.Valid v → M.difL v = 0) ∧ ∃ L : List (Nat × Nat), L.Nodup ∧ L.length = reached ∧ ∀ p, p ∈ L ↔ M.Reach p) ∨
  (same = false ∧ reached = 0 ∧ M.Least trace ∧ d = M.difL trace)

theorem Search.differs {E : List (List Nat)} {T : List Nat → Prop} (S : Search M E T) (hK : M.K ≤ 16) {x : List Nat} (hx : M.Valid x) (hd : M.difL x ≠ 0) (hmin : ∀ y, T y → code x ≤ code y) : M.Says false 0 x (M.difL x) := by
  refine .inr ⟨rfl, rfl, ⟨hx, hd, fun v hv hdv => ?_⟩, rfl⟩
  obtain ⟨z, hz⟩ := exists_least hv hdv
  obtain ⟨y, hy, hT⟩ := S.some_left hK hz
  exact Nat.le_trans (hmin y hT) (Nat.le_trans (code_prefix hy) (hz.2.2 v hv hdv))
theorem Search.same {E : List (List Nat)} {T : List Nat → Prop} (S : Search M E T) (hK : M.K ≤ 16) (hT : ∀ y, ¬ T y) : M.Says true E.length [] 0 := by
  refine .inl ⟨rfl, rfl, rfl, fun v hv => ?_, E.map M.run, S.nodup, by simp, fun p => ⟨fun h => ?_, fun ⟨u, hu, hp⟩ => ?_⟩⟩
  · by_cases hd : M.difL v = 0
    · exact hd
    · obtain ⟨z, hz⟩ := exists_least hv hd
      obtain ⟨y, _, h⟩ := S.some_left hK hz
      exact absurd h (hT y)
  · obtain ⟨u, hu, rfl⟩ := List.mem_map.1 h
    exact ⟨u, S.valid u hu, rfl⟩
  · subst hp
    suffices h : ∀ n (u : List Nat), u.length = n → M.Valid u → ∃ x ∈ E, M.run x = M.run u by
      obtain ⟨x, hx, e⟩ := h _ u rfl hu
      exact List.mem_map.2 ⟨x, hx, e⟩
    intro n
    induction n with
    | zero =>
      intro u hn _
      obtain rfl := List.length_eq_zero_iff.1 hn
      rcases S.first with h | ⟨_, x, hx, _, e⟩
      · exact absurd h (hT _)
      · exact ⟨x, hx, e⟩
    | succ n ih =>
      intro u hn hu
      rcases snoc_cases u with rfl | ⟨q, i, rfl⟩
      · simp at hn
      obtain ⟨hq, hi⟩ := M.valid_snoc.1 hu
      obtain ⟨x, hx, e⟩ := ih q (by simpa using hn) hq
      rcases S.next x hx i hi with h | ⟨_, y, hy, _, e2⟩
      · exact absurd h (hT _)
      · exact ⟨y, hy, by rw [e2, M.run_snoc, M.run_snoc, e]⟩

/-- There is one answer. -/
theorem says_one (hK : M.K ≤ 16) {s s' : Bool} {r r' : Nat} {t t' : List Nat} {d d' : Nat} (h : M.Says s r t d) (h' : M.Says s' r' t' d') : s = s' ∧ r = r' ∧ t = t' ∧ d = d' := by
  rcases h with ⟨rfl, rfl, rfl, hall, L, hL, rfl, hm⟩ | ⟨rfl, rfl, hl, rfl⟩ <;> rcases h' with ⟨rfl, rfl, rfl, hall', L', hL', rfl, hm'⟩ | ⟨rfl, rfl, hl', rfl⟩
  · refine ⟨rfl, ?_, rfl, rfl⟩
    have p : List.Perm L L' := (List.perm_ext_iff_of_nodup hL hL').2 fun a => (hm a).trans (hm' a).symm
    exact p.length_eq
  · exact absurd (hall _ hl'.1) hl'.2.1
  · exact absurd (hall' _ hl.1) hl.2.1
  · have e : t = t' := code_inj _ t t' rfl (dig_of_valid hK hl.1) (dig_of_valid hK hl'.1) (Nat.le_antisymm (hl.2.2 _ hl'.1 hl'.2.1) (hl'.2.2 _ hl.1 hl.2.1))
    exact ⟨rfl, rfl, e, by rw [e]⟩

end Duo

end Go.Proofs.Ytgpaajdfkekjiab
