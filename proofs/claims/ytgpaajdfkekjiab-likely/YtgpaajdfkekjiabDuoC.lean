/-
  Two circuits side by side, as two machines: what inputs that make them differ, and inputs that do not, say of their runs. Plain mathematics.
-/
import Derived.Test.YtgpaajdfkekjiabPlain
import Derived.Test.YtgpaajdfkekjiabPairsQ
namespace Go.Proofs.Ytgpaajdfkekjiab

/-- Two circuits with as many inputs. -/
def duo (n : Nat) (la ga : List (Int × Int)) (oa : List Int) (lb gb : List (Int × Int)) (ob : List Int) : Duo where
  K := 2 ^ n
  p0 := (startOf la la.length, startOf lb lb.length)
  step p i := (nextOf la (vals n la.length ga p.1 i) la.length, nextOf lb (vals n lb.length gb p.2 i) lb.length)
  dif p i := outOf oa (vals n la.length ga p.1 i) oa.length ^^^ outOf ob (vals n lb.length gb p.2 i) ob.length

theorem pow_le16 {n : Nat} (h : n ≤ 4) : (2 : Nat) ^ n ≤ 16 := Nat.pow_le_pow_right (by omega) h
theorem duo_K {n : Nat} {la ga : List (Int × Int)} {oa : List Int} {lb gb : List (Int × Int)} {ob : List Int} (h : n ≤ 4) : (duo n la ga oa lb gb ob).K ≤ 16 := pow_le16 h
theorem start_lt16 {ls : List (Int × Int)} (h : ls.length ≤ 4) : startOf ls ls.length < 16 := Nat.lt_of_lt_of_le (packN_lt _ (fun _ => by omega) _) (pow_le16 h)
theorem next_lt16 {ls : List (Int × Int)} (vs : List Nat) (h : ls.length ≤ 4) : nextOf ls vs ls.length < 16 := Nat.lt_of_lt_of_le (packN_lt _ (fun _ => sigv_le _ _) _) (pow_le16 h)
theorem out_lt16 {os : List Int} (vs : List Nat) (h : os.length ≤ 4) : outOf os vs os.length < 16 := Nat.lt_of_lt_of_le (packN_lt _ (fun _ => sigv_le _ _) _) (pow_le16 h)
theorem duo_small {n : Nat} {la ga : List (Int × Int)} {oa : List Int} {lb gb : List (Int × Int)} {ob : List Int} (ha : la.length ≤ 4) (hb : lb.length ≤ 4) : (duo n la ga oa lb gb ob).Small :=
  ⟨start_lt16 ha, start_lt16 hb, fun _ _ => ⟨next_lt16 _ ha, next_lt16 _ hb⟩⟩
theorem duo_dif_lt {n : Nat} {la ga : List (Int × Int)} {oa : List Int} {lb gb : List (Int × Int)} {ob : List Int} (hb : ob.length = oa.length) (p : Nat × Nat) (i : Nat) : (duo n la ga oa lb gb ob).dif p i < 2 ^ oa.length :=
  Nat.xor_lt_two_pow (packN_lt _ (fun _ => sigv_le _ _) _) (hb ▸ packN_lt _ (fun _ => sigv_le _ _) _)
theorem duo_difL_lt {n : Nat} {la ga : List (Int × Int)} {oa : List Int} {lb gb : List (Int × Int)} {ob : List Int} (hb : ob.length = oa.length) (u : List Nat) : (duo n la ga oa lb gb ob).difL u < 2 ^ oa.length := by
  unfold Duo.difL
  split
  · exact Nat.two_pow_pos _
  · exact duo_dif_lt hb _ _

/-- The inputs as the program has them. -/
def zs (u : List Nat) : List Int := u.map fun (x : Nat) => (x : Int)
theorem zs_get (u : List Nat) (k : Nat) : ((zs u).getD k 0).toNat = u.getD k 0 := by
  simp only [zs, List.getD_eq_getElem?_getD, List.getElem?_map]
  cases u[k]? <;> rfl
theorem zs_len (u : List Nat) : (zs u).length = u.length := by simp [zs]
theorem take_one {α : Type} (l : List α) (d : α) (k : Nat) (hk : k < l.length) : l.take (k + 1) = l.take k ++ [l.getD k d] := by
  rw [List.take_succ_eq_append_getElem hk]; simp [hk]

section
variable {n : Nat} {la ga : List (Int × Int)} {oa : List Int} {lb gb : List (Int × Int)} {ob : List Int}
theorem state_run (u : List Nat) : ∀ k, k ≤ u.length → (duo n la ga oa lb gb ob).run (u.take k) = (stateAt n la ga (zs u) k, stateAt n lb gb (zs u) k) := by
  intro k
  induction k with
  | zero => intro _; rw [List.take_zero]; rfl
  | succ k ih =>
    intro hk
    rw [take_one u 0 k hk, Duo.run_snoc, ih (by omega)]
    show (_, _) = _
    simp only [stateAt, zs_get]
theorem dif_run (u : List Nat) (k : Nat) (hk : k < u.length) : (duo n la ga oa lb gb ob).difL (u.take (k + 1)) = outAt n la ga oa (zs u) k ^^^ outAt n lb gb ob (zs u) k := by
  rw [take_one u 0 k hk, Duo.difL_snoc, state_run u k (by omega)]
  show outOf _ _ _ ^^^ outOf _ _ _ = _
  simp only [outAt, zs_get]
theorem valid_take {M : Duo} {u : List Nat} (h : M.Valid u) (k : Nat) : M.Valid (u.take k) := fun i hi => h i (List.take_subset _ _ hi)
theorem xor_zero {a b : Nat} (h : a ^^^ b = 0) : a = b := by
  have h1 : a ^^^ b ^^^ b = 0 ^^^ b := by rw [h]
  rw [Nat.xor_assoc, Nat.xor_self, Nat.xor_zero, Nat.zero_xor] at h1
  exact h1
/-- Where nothing makes them differ the two tell the same. -/
theorem outs_same (h : ∀ v, (duo n la ga oa lb gb ob).Valid v → (duo n la ga oa lb gb ob).difL v = 0) {u : List Nat} (hu : (duo n la ga oa lb gb ob).Valid u) (k : Nat) (hk : k < u.length) : outAt n la ga oa (zs u) k = outAt n lb gb ob (zs u) k :=
  xor_zero ((dif_run u k hk).symm.trans (h _ (valid_take hu _)))
/-- Nothing shorter makes them differ. -/
theorem outs_early (hn : n ≤ 4) {t : List Nat} (h : (duo n la ga oa lb gb ob).Least t) {u : List Nat} (hu : (duo n la ga oa lb gb ob).Valid u) (k : Nat) (hk : k < u.length) (hk2 : k + 1 < t.length) : outAt n la ga oa (zs u) k = outAt n lb gb ob (zs u) k := by
  apply xor_zero
  rw [← dif_run u k hk]
  by_cases hd : (duo n la ga oa lb gb ob).difL (u.take (k + 1)) = 0
  · exact hd
  · have h1 := h.2.2 _ (valid_take hu (k + 1)) hd
    have h2 := code_shorter (Duo.dig_of_valid (duo_K hn) (valid_take hu (k + 1))) (Duo.dig_of_valid (duo_K hn) h.1) (by rw [List.length_take]; omega)
    omega
/-- The last step of the least inputs shows the difference. -/
theorem outs_last {t : List Nat} (k : Nat) (hk : t.length = k + 1) : outAt n la ga oa (zs t) k ^^^ outAt n lb gb ob (zs t) k = (duo n la ga oa lb gb ob).difL t := by
  rw [← dif_run t k (by omega), ← hk, List.take_length]

theorem run_swap (u : List Nat) : (duo n lb gb ob la ga oa).run u = ((duo n la ga oa lb gb ob).run u).swap := by
  suffices h : ∀ k (u : List Nat), u.length = k → (duo n lb gb ob la ga oa).run u = ((duo n la ga oa lb gb ob).run u).swap from h _ u rfl
  intro k
  induction k with
  | zero => intro u hu; obtain rfl := List.length_eq_zero_iff.1 hu; rfl
  | succ k ih =>
    intro u hu
    rcases snoc_cases u with rfl | ⟨q, i, rfl⟩
    · simp at hu
    · rw [Duo.run_snoc, Duo.run_snoc, ih q (by simpa using hu)]
      rfl
theorem difL_swap (u : List Nat) : (duo n lb gb ob la ga oa).difL u = (duo n la ga oa lb gb ob).difL u := by
  rcases snoc_cases u with rfl | ⟨q, i, rfl⟩
  · rfl
  · rw [Duo.difL_snoc, Duo.difL_snoc, run_swap]
    show _ ^^^ _ = _ ^^^ _
    exact Nat.xor_comm _ _
/-- Whichever stands first, the answer is the same. -/
theorem says_swap {s : Bool} {r : Nat} {t : List Nat} {d : Nat} (h : (duo n lb gb ob la ga oa).Says s r t d) : (duo n la ga oa lb gb ob).Says s r t d := by
  have hv : ∀ v, (duo n la ga oa lb gb ob).Valid v ↔ (duo n lb gb ob la ga oa).Valid v := fun v => Iff.rfl
  rcases h with ⟨rfl, rfl, rfl, hall, L, hL, rfl, hm⟩ | ⟨rfl, rfl, hl, rfl⟩
  · refine .inl ⟨rfl, rfl, rfl, fun v h => by rw [← difL_swap]; exact hall v h, L.map Prod.swap, ?_, by simp, fun p => ?_⟩
    · exact Duo.map_nodup _ _ (fun a _ b _ e => by have := congrArg Prod.swap e; simpa using this) hL
    · rw [List.mem_map]
      constructor
      · rintro ⟨q, hq, rfl⟩
        obtain ⟨u, hu, e⟩ := (hm q).1 hq
        exact ⟨u, hu, by rw [← e, run_swap]⟩
      · rintro ⟨u, hu, e⟩
        refine ⟨p.swap, (hm _).2 ⟨u, hu, by rw [run_swap, e]⟩, by simp⟩
  · exact .inr ⟨rfl, rfl, ⟨hl.1, by rw [← difL_swap]; exact hl.2.1, fun x hx hd => hl.2.2 x hx (by rw [difL_swap]; exact hd)⟩, difL_swap _⟩

/-- A circuit beside itself. -/
theorem run_self (u : List Nat) : ((duo n la ga oa la ga oa).run u).1 = ((duo n la ga oa la ga oa).run u).2 := by
  suffices h : ∀ k (u : List Nat), u.length = k → ((duo n la ga oa la ga oa).run u).1 = ((duo n la ga oa la ga oa).run u).2 from h _ u rfl
  intro k
  induction k with
  | zero => intro u hu; obtain rfl := List.length_eq_zero_iff.1 hu; rfl
  | succ k ih =>
    intro u hu
    rcases snoc_cases u with rfl | ⟨q, i, rfl⟩
    · simp at hu
    · rw [Duo.run_snoc]
      show nextOf _ _ _ = nextOf _ _ _
      rw [ih q (by simpa using hu)]
theorem difL_self (u : List Nat) : (duo n la ga oa la ga oa).difL u = 0 := by
  rcases snoc_cases u with rfl | ⟨q, i, rfl⟩
  · rfl
  · rw [Duo.difL_snoc]
    show _ ^^^ _ = 0
    rw [run_self, Nat.xor_self]
theorem says_self (h4 : la.length ≤ 4) {s : Bool} {r : Nat} {t : List Nat} {d : Nat} (h : (duo n la ga oa la ga oa).Says s r t d) : s = true ∧ 1 ≤ r ∧ r ≤ 16 ∧ t = [] ∧ d = 0 := by
  rcases h with ⟨rfl, rfl, rfl, _, L, hL, rfl, hm⟩ | ⟨_, _, hl, _⟩
  · refine ⟨rfl, ?_, Duo.diag_few L hL (fun p hp => ?_), rfl, rfl⟩
    · exact List.length_pos_iff_exists_mem.2 ⟨_, (hm _).2 ⟨[], Duo.valid_nil _, rfl⟩⟩
    · obtain ⟨u, _, rfl⟩ := (hm p).1 hp
      exact ⟨(Duo.run_small (duo_small h4 h4) u).1, run_self u⟩
  · exact absurd (difL_self t) hl.2.1
end

end Go.Proofs.Ytgpaajdfkekjiab
