/-
  Plain mathematics: a circuit beside itself with one output turned.
-/
import Derived.Test.YtgpaajdfkekjiaaDoorDuoC
import Derived.Test.YtgpaajdfkekjiaaDoorCmpJ
namespace Go.Proofs.YtgpaajdfkekjiaaDoor

def turnS (x : Int) : Int := ((x.toNat ^^^ 1 : Nat) : Int)
def turnO (os : List Int) (i : Nat) : List Int := os.set i (turnS (os.getD i 0))
theorem turnO_len (os : List Int) (i : Nat) : (turnO os i).length = os.length := by simp [turnO]
theorem xor1 (m : Nat) : m ^^^ 1 = if m % 2 = 0 then m + 1 else m - 1 := by
  have h1 : (m ^^^ 1) / 2 = m / 2 := by rw [Nat.xor_div_two]; simp
  rcases Nat.mod_two_eq_zero_or_one m with h | h
  · have h2 : (m ^^^ 1) % 2 = 1 := Nat.xor_mod_two_eq_one.2 (by omega)
    rw [if_pos h]; omega
  · have h2 : ¬ (m ^^^ 1) % 2 = 1 := fun e => (Nat.xor_mod_two_eq_one.1 e) (by omega)
    rw [if_neg (by omega)]; omega
theorem turnS_le {x L : Int} (h0 : 0 ≤ x) (h1 : x ≤ 2 * L + 1) : 0 ≤ turnS x ∧ turnS x ≤ 2 * L + 1 := by
  unfold turnS
  rw [xor1]
  split <;> omega
theorem turnS_sig {x : Int} (h0 : 0 ≤ x) (vs : List Nat) : sigv (turnS x) vs = 1 - sigv x vs := by
  obtain ⟨m, rfl⟩ : ∃ m : Nat, x = m := ⟨x.toNat, by omega⟩
  unfold sigv turnS
  simp only [Int.toNat_natCast]
  rw [xor1]
  have e : (((if m % 2 = 0 then m + 1 else m - 1 : Nat) : Int) / 2).toNat = ((m : Int) / 2).toNat := by split <;> omega
  rw [e]
  split <;> omega
theorem turn_get {os : List Int} {i j : Nat} (hi : i < os.length) : (turnO os i).getD j 0 = if j = i then turnS (os.getD i 0) else os.getD j 0 := by
  unfold turnO
  simp only [List.getD_eq_getElem?_getD, List.getElem?_set]
  by_cases h : i = j
  · subst h; simp [hi]
  · simp [h, Ne.symm h]
theorem turn_right {n : Int} {ls gs : List (Int × Int)} {os : List Int} {i : Nat} (h : rightB n ls gs os = true) (hi : i < os.length) : rightB n ls gs (turnO os i) = true := by
  unfold rightB at *
  rw [turnO_len]
  simp only [Bool.and_eq_true] at *
  refine ⟨h.1, ?_⟩
  have h2 := h.2
  unfold outsB at *
  rw [decide_eq_true_iff] at *
  intro j hj
  rw [turnO_len] at hj
  rw [turn_get hi]
  split
  · have := inB_pos (h2 i hi)
    have := turnS_le this.1 this.2
    exact inB_mk this.1 this.2
  · exact h2 j hj
theorem out_pos {n : Int} {ls gs : List (Int × Int)} {os : List Int} {i : Nat} (h : rightB n ls gs os = true) (hi : i < os.length) : 0 ≤ os.getD i 0 ∧ os.getD i 0 ≤ 2 * (n + ls.length + gs.length) + 1 := by
  unfold rightB at h
  simp only [Bool.and_eq_true] at h
  have h2 := h.2
  unfold outsB at h2
  rw [decide_eq_true_iff] at h2
  exact inB_pos (h2 i hi)
theorem pack4 (f g : Nat → Nat) (i : Nat) (hf : ∀ k, f k ≤ 1) (hg : ∀ k, k ≠ i → g k = f k) (hi : g i = 1 - f i) : ∀ k, k ≤ 4 → i < k → packN f k ^^^ packN g k = 2 ^ i := by
  intro k hk hik
  have h0 := hf 0
  have h1 := hf 1
  have h2 := hf 2
  have h3 := hf 3
  have e : ∀ j, g j = if j = i then 1 - f i else f j := fun j => by
    split
    · next h => rw [h, hi]
    · next h => exact hg j h
  have hik' : (k = 1 ∨ k = 2 ∨ k = 3 ∨ k = 4) ∧ (i = 0 ∨ i = 1 ∨ i = 2 ∨ i = 3) := by omega
  obtain ⟨hk', hi'⟩ := hik'
  have a0 : f 0 = 0 ∨ f 0 = 1 := by omega
  have a1 : f 1 = 0 ∨ f 1 = 1 := by omega
  have a2 : f 2 = 0 ∨ f 2 = 1 := by omega
  have a3 : f 3 = 0 ∨ f 3 = 1 := by omega
  rcases hi' with rfl | rfl | rfl | rfl <;> rcases hk' with rfl | rfl | rfl | rfl <;> first
    | omega
    | (simp only [packN, e]; rcases a0 with a0 | a0 <;> rcases a1 with a1 | a1 <;> rcases a2 with a2 | a2 <;> rcases a3 with a3 | a3 <;> simp [a0, a1, a2, a3])
theorem turn_out {os : List Int} {i : Nat} (h4 : os.length ≤ 4) (hi : i < os.length) (hx : 0 ≤ os.getD i 0) (vs : List Nat) : outOf os vs os.length ^^^ outOf (turnO os i) vs (turnO os i).length = 2 ^ i := by
  rw [turnO_len]
  unfold outOf
  refine pack4 _ _ i (fun k => sigv_le _ _) (fun k hk => ?_) ?_ _ h4 hi
  · show sigv _ _ = sigv _ _
    rw [turn_get hi, if_neg hk]
  · show sigv _ _ = 1 - sigv _ _
    rw [turn_get hi, if_pos rfl, turnS_sig hx]
theorem tz_pow {i : Nat} (h : i < 4) : tzN (2 ^ i) = i := by
  have : i = 0 ∨ i = 1 ∨ i = 2 ∨ i = 3 := by omega
  rcases this with rfl | rfl | rfl | rfl <;> decide
theorem turn_says {n : Nat} {la ga : List (Int × Int)} {oa : List Int} {i : Nat} (hn : n ≤ 4) (h4 : oa.length ≤ 4) (hi : i < oa.length) (hx : 0 ≤ oa.getD i 0) {s : Bool} {r : Nat} {t : List Nat} {d : Nat}
    (h : (duo n la ga oa la ga (turnO oa i)).Says s r t d) : s = false ∧ t = [0] ∧ tzN d = i := by
  have hd : (duo n la ga oa la ga (turnO oa i)).difL [0] = 2 ^ i := by
    have := (duo n la ga oa la ga (turnO oa i)).difL_snoc [] 0
    rw [List.nil_append] at this
    rw [this]
    exact turn_out h4 hi hx _
  have hl : (duo n la ga oa la ga (turnO oa i)).Least [0] := by
    refine ⟨fun j hj => ?_, ?_, fun x hv hxd => ?_⟩
    · obtain rfl := List.mem_singleton.1 hj
      exact Nat.two_pow_pos n
    · rw [hd]; exact Nat.ne_of_gt (Nat.two_pow_pos i)
    · rcases snoc_cases x with rfl | ⟨q, j, rfl⟩
      · exact absurd (Duo.difL_nil _) hxd
      · have := code_one q
        rw [code_snoc]
        show 1 * 16 + 0 ≤ _
        omega
  obtain ⟨h1, _, h3, h5⟩ := Duo.says_one (duo_K hn) h (.inr ⟨rfl, rfl, hl, rfl⟩)
  refine ⟨h1, h3, ?_⟩
  rw [h5, hd]
  exact tz_pow (by omega)
end Go.Proofs.YtgpaajdfkekjiaaDoor
