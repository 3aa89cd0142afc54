/-
  Plain mathematics of Likely: counting all inputs; an output and its opposite.
-/
import Derived.Test.YtgpaajdfkekjiabChA
namespace Go.Proofs.Ytgpaajdfkekjiab

/-- The inputs that a number stands for. -/
def insX (n x j : Nat) : List Int := (List.range j).map fun i => ((digitI (2 ^ n) x i : Nat) : Int)
theorem insX_len (n x j : Nat) : (insX n x j).length = j := by simp [insX]
theorem insX_get {n x j i : Nat} (h : i < j) : (insX n x j).getD i 0 = ((digitI (2 ^ n) x i : Nat) : Int) := by simp [insX, h]
theorem insX_succ (n x j : Nat) : insX n x (j + 1) = insX n x j ++ [((digitI (2 ^ n) x j : Nat) : Int)] := by simp [insX, List.range_succ]
theorem insX_ok (n x : Nat) {s : Nat} (hs : s ≤ 50) : inputsB n (insX n x s) = true := by
  unfold inputsB
  rw [decide_eq_true_iff, insX_len]
  refine ⟨hs, fun i hi => ?_⟩
  rw [insX_get hi]
  unfold inB
  rw [decide_eq_true_iff]
  have h : digitI (2 ^ n) x i < 2 ^ n := Nat.mod_lt _ (Nat.two_pow_pos n)
  have e : ((2 ^ n : Nat) : Int) = (2 : Int) ^ n := by simp
  omega
theorem state_X (n : Nat) (ls gs : List (Int × Int)) (x s : Nat) : ∀ k, k ≤ s → stateAt n ls gs (insX n x s) k = stA (nxF n ls gs) (2 ^ n) (startOf ls ls.length) x k
  | 0, _ => rfl
  | k + 1, h => by
    rw [stateAt, stA, state_X n ls gs x s k (by omega), insX_get (by omega), Int.toNat_natCast]
    rfl
/-- The first output's bit in the last step. -/
def bitX (n : Nat) (ls gs : List (Int × Int)) (os : List Int) (m x : Nat) : Nat := obF n ls gs os 0 (stA (nxF n ls gs) (2 ^ n) (startOf ls ls.length) x m) (digitI (2 ^ n) x m)
theorem bitX_out (n : Nat) (ls gs : List (Int × Int)) (os : List Int) (m x : Nat) : outAt n ls gs os (insX n x (m + 1)) m % 2 = bitX n ls gs os m x := by
  unfold outAt bitX obF
  rw [state_X n ls gs x (m + 1) m (by omega), insX_get (by omega), Int.toNat_natCast, Nat.pow_zero, Nat.div_one]
theorem bitX_le (n : Nat) (ls gs : List (Int × Int)) (os : List Int) (m x : Nat) : bitX n ls gs os m x ≤ 1 := obF_le _ _ _
theorem count_X {n : Nat} {ls gs : List (Int × Int)} (os : List Int) (hl : ls.length ≤ 4) (m : Nat) : sumN (bitX n ls gs os m) (2 ^ (n * (m + 1))) = chN n ls gs os m 0 := by
  have h := count_all (nxF n ls gs) (2 ^ n) (Nat.two_pow_pos n) (nxF_lt hl) (start_lt16 hl) (obF n ls gs os 0) m
  rw [← Nat.pow_mul] at h
  exact h

/-- The opposite of a signal. -/
def flipS (x : Int) : Int := ((x.toNat ^^^ 1 : Nat) : Int)
theorem xor_one (m : Nat) : m ^^^ 1 = if m % 2 = 0 then m + 1 else m - 1 := by
  have h1 : (m ^^^ 1) / 2 = m / 2 := by rw [Nat.xor_div_two]; simp
  rcases Nat.mod_two_eq_zero_or_one m with h | h
  · have h2 : (m ^^^ 1) % 2 = 1 := Nat.xor_mod_two_eq_one.2 (by omega)
    rw [if_pos h]; omega
  · have h2 : ¬ (m ^^^ 1) % 2 = 1 := fun e => (Nat.xor_mod_two_eq_one.1 e) (by omega)
    rw [if_neg (by omega)]; omega
theorem flipS_le {x L : Int} (h0 : 0 ≤ x) (h1 : x ≤ 2 * L + 1) : 0 ≤ flipS x ∧ flipS x ≤ 2 * L + 1 := by
  unfold flipS
  rw [xor_one]
  split <;> omega
theorem flipS_sig {x : Int} (h0 : 0 ≤ x) (vs : List Nat) : sigv (flipS x) vs = 1 - sigv x vs := by
  obtain ⟨m, rfl⟩ : ∃ m : Nat, x = m := ⟨x.toNat, by omega⟩
  unfold sigv flipS
  simp only [Int.toNat_natCast]
  rw [xor_one]
  have e : (((if m % 2 = 0 then m + 1 else m - 1 : Nat) : Int) / 2).toNat = ((m : Int) / 2).toNat := by split <;> omega
  rw [e]
  split <;> omega
theorem ob_flip {n : Nat} {ls gs : List (Int × Int)} {a : Int} (h0 : 0 ≤ a) (s i : Nat) : obF n ls gs [a, flipS a] 0 s i + obF n ls gs [a, flipS a] 1 s i = 1 := by
  unfold obF outOf
  have h1 := sigv_le a (vals n ls.length gs s i)
  have h2 := flipS_sig h0 (vals n ls.length gs s i)
  simp only [List.length_cons, List.length_nil, packN, List.getD_cons_zero, List.getD_cons_succ, h2]
  omega
theorem ch_flip {n : Nat} {ls gs : List (Int × Int)} {a : Int} (h0 : 0 ≤ a) (hl : ls.length ≤ 4) (m : Nat) : chN n ls gs [a, flipS a] m 0 + chN n ls gs [a, flipS a] m 1 = 2 ^ (n * (m + 1)) := by
  unfold chN allG
  rw [← sumN_add, Nat.pow_mul, Nat.pow_succ, ← chW_sum (n := n) (gs := gs) hl m, Nat.mul_comm, ← sumN_mul]
  refine sumN_congr _ (fun s _ => ?_)
  rw [← sumN_add, ← sumN_const]
  refine sumN_congr _ (fun i _ => ?_)
  rw [← Nat.add_mul, ob_flip h0, Nat.one_mul]
theorem flip_right {n : Int} {ls gs : List (Int × Int)} {a b : Int} (h : rightB n ls gs [a, b] = true) : 0 ≤ a ∧ a ≤ 2 * (n + ls.length + gs.length) + 1 ∧ rightB n ls gs [a, flipS a] = true := by
  unfold rightB at h ⊢
  simp only [Bool.and_eq_true] at h ⊢
  have h2 := h.2
  unfold outsB at h2 ⊢
  rw [decide_eq_true_iff] at h2
  have ha := inB_pos (h2 0 (by simp))
  simp only [List.getD_cons_zero] at ha
  refine ⟨ha.1, ha.2, h.1, ?_⟩
  rw [decide_eq_true_iff]
  have hf := flipS_le ha.1 ha.2
  intro i hi
  unfold inB
  rw [decide_eq_true_iff]
  match i, hi with
  | 0, _ => exact ha
  | 1, _ => exact hf

/-- The floats: from 0 to 1; both together 1; the quotient. -/
theorem one_q (e : Nat) (he : e ≤ 1074) : fq (2 ^ e) e = fq 1 0 := by
  have h := fq_same (k := 1) (e := 0) (a := e) (by omega)
  rw [Nat.one_mul, Nat.zero_add] at h
  exact h

end Go.Proofs.Ytgpaajdfkekjiab
