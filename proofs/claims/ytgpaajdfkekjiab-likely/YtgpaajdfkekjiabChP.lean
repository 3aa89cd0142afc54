/-
  Plain mathematics of Chances: in how many ways a state is come to; the sums that the program and the reference make. No program in it.
-/
import Derived.Test.YtgpaajdfkekjiabFltP
namespace Go.Proofs.Ytgpaajdfkekjiab

def sumN (f : Nat → Nat) : Nat → Nat
  | 0 => 0
  | k + 1 => sumN f k + f k
theorem sumN_congr {f g : Nat → Nat} : ∀ k, (∀ i, i < k → f i = g i) → sumN f k = sumN g k
  | 0, _ => rfl
  | k + 1, h => by rw [sumN, sumN, sumN_congr k (fun i hi => h i (by omega)), h k (by omega)]
theorem sumN_le {f g : Nat → Nat} : ∀ k, (∀ i, i < k → f i ≤ g i) → sumN f k ≤ sumN g k
  | 0, _ => Nat.le_refl _
  | k + 1, h => by rw [sumN, sumN]; exact Nat.add_le_add (sumN_le k (fun i hi => h i (by omega))) (h k (by omega))
theorem sumN_zero : ∀ k, sumN (fun _ => 0) k = 0
  | 0 => rfl
  | k + 1 => by rw [sumN, sumN_zero k]
theorem sumN_const (c : Nat) : ∀ k, sumN (fun _ => c) k = k * c
  | 0 => by simp [sumN]
  | k + 1 => by rw [sumN, sumN_const c k, Nat.succ_mul]
theorem sumN_add (f g : Nat → Nat) : ∀ k, sumN (fun i => f i + g i) k = sumN f k + sumN g k
  | 0 => rfl
  | k + 1 => by rw [sumN, sumN, sumN, sumN_add f g k]; omega
theorem sumN_mul (f : Nat → Nat) (c : Nat) : ∀ k, sumN (fun i => c * f i) k = c * sumN f k
  | 0 => by simp [sumN]
  | k + 1 => by rw [sumN, sumN, sumN_mul f c k, Nat.mul_add]
theorem sumN_comm (f : Nat → Nat → Nat) (b : Nat) : ∀ a, sumN (fun i => sumN (fun j => f i j) b) a = sumN (fun j => sumN (fun i => f i j) a) b
  | 0 => by simp only [sumN]; rw [sumN_zero]
  | a + 1 => by rw [sumN, sumN_comm f b a, ← sumN_add]; rfl
theorem sumN_split (f : Nat → Nat) (a : Nat) : ∀ b, sumN f (b + a) = sumN f b + sumN (fun i => f (b + i)) a := by
  induction a with
  | zero => intro b; simp [sumN]
  | succ a ih => intro b; rw [show b + (a + 1) = (b + a) + 1 by omega, sumN, ih, sumN]; omega
theorem sumN_prod (f : Nat → Nat) (a : Nat) : ∀ b, sumN f (a * b) = sumN (fun i => sumN (fun y => f (a * i + y)) a) b
  | 0 => by simp [sumN]
  | b + 1 => by rw [Nat.mul_succ, sumN_split, sumN_prod f a b, sumN]
theorem sumN_mono (f : Nat → Nat) {a b : Nat} (h : a ≤ b) : sumN f a ≤ sumN f b := by
  obtain ⟨c, rfl⟩ : ∃ c, b = a + c := ⟨b - a, by omega⟩
  rw [sumN_split]; omega
/-- A sum that has one member. -/
theorem sumN_one (c t : Nat) : ∀ k, sumN (fun s => if t = s then c else 0) k = if t < k then c else 0
  | 0 => by simp [sumN]
  | k + 1 => by
    rw [sumN, sumN_one c t k]
    by_cases h : t < k
    · rw [if_pos h, if_neg (by omega), if_pos (by omega)]; omega
    · by_cases e : t = k
      · subst e; simp
      · rw [if_neg h, if_neg e, if_neg (by omega)]
theorem sumN_pick (f : Nat → Nat) (t k : Nat) : sumN (fun s => if t = s then f s else 0) k = if t < k then f t else 0 := by
  rw [← sumN_one (f t) t k]
  exact sumN_congr k (fun i _ => by by_cases e : t = i <;> simp [e])
theorem mem_le_sum (f : Nat → Nat) {t k : Nat} (h : t < k) : f t ≤ sumN f k := by
  have := sumN_split f (k - t) t
  rw [show t + (k - t) = k by omega] at this
  have h2 : f (t + 0) ≤ sumN (fun i => f (t + i)) (k - t) := by
    obtain ⟨c, hc⟩ : ∃ c, k - t = 1 + c := ⟨k - t - 1, by omega⟩
    rw [hc, sumN_split]
    simp [sumN]
  simp at h2
  omega

section
variable (nx : Nat → Nat → Nat) (I : Nat)
/-- One step further: in how many ways each state is come to. -/
def wayStep (f : Nat → Nat) (t : Nat) : Nat := sumN (fun s => sumN (fun i => if nx s i = t then f s else 0) I) 16
/-- .. in the midst of it: the states ahead of s, and of s the inputs ahead of i. -/
def partW (f : Nat → Nat) (s i t : Nat) : Nat := sumN (fun s' => sumN (fun j => if nx s' j = t then f s' else 0) I) s + sumN (fun j => if nx s j = t then f s else 0) i
theorem partW_zero (f : Nat → Nat) (t : Nat) : partW nx I f 0 0 t = 0 := rfl
theorem partW_succ (f : Nat → Nat) (s i t : Nat) : partW nx I f s (i + 1) t = partW nx I f s i t + if nx s i = t then f s else 0 := by unfold partW; rw [sumN]; omega
theorem partW_next (f : Nat → Nat) (s t : Nat) : partW nx I f s I t = partW nx I f (s + 1) 0 t := by unfold partW; simp [sumN]
theorem partW_all (f : Nat → Nat) (t : Nat) : partW nx I f 16 0 t = wayStep nx I f t := by unfold partW wayStep; simp [sumN]
theorem partW_skip (f : Nat → Nat) (s t : Nat) (h : f s = 0) : partW nx I f (s + 1) 0 t = partW nx I f s 0 t := by
  have : sumN (fun j => if nx s j = t then f s else 0) I = 0 := by rw [sumN_congr I (g := fun _ => 0) (fun j _ => by simp [h]), sumN_zero]
  unfold partW
  simp only [sumN, this]
def ways (st : Nat) : Nat → Nat → Nat
  | 0, t => if t = st then 1 else 0
  | k + 1, t => wayStep nx I (ways st k) t

/-- Of some numbers, each as often as its state is come to, in the midst of the summing. -/
def partG (g : Nat → Nat → Nat) (f : Nat → Nat) (s i : Nat) : Nat := sumN (fun s' => sumN (fun j => g s' j * f s') I) s + sumN (fun j => g s j * f s) i
def allG (g : Nat → Nat → Nat) (f : Nat → Nat) : Nat := sumN (fun s => sumN (fun j => g s j * f s) I) 16
theorem partG_succ (g : Nat → Nat → Nat) (f : Nat → Nat) (s i : Nat) : partG I g f s (i + 1) = partG I g f s i + g s i * f s := by unfold partG; rw [sumN]; omega
theorem partG_next (g : Nat → Nat → Nat) (f : Nat → Nat) (s : Nat) : partG I g f s I = partG I g f (s + 1) 0 := by unfold partG; simp [sumN]
theorem partG_all (g : Nat → Nat → Nat) (f : Nat → Nat) : partG I g f 16 0 = allG I g f := by unfold partG allG; simp [sumN]
theorem partG_skip (g : Nat → Nat → Nat) (f : Nat → Nat) (s : Nat) (h : f s = 0) : partG I g f (s + 1) 0 = partG I g f s 0 := by
  have : sumN (fun j => g s j * f s) I = 0 := by rw [sumN_congr I (g := fun _ => 0) (fun j _ => by simp [h]), sumN_zero]
  unfold partG
  simp only [sumN, this]
theorem wayStep_G (f : Nat → Nat) (t : Nat) : wayStep nx I f t = allG I (fun s i => if nx s i = t then 1 else 0) f := by
  unfold wayStep allG
  exact sumN_congr _ (fun s _ => sumN_congr _ (fun i _ => by by_cases e : nx s i = t <;> simp [e]))
theorem partW_G (f : Nat → Nat) (s i t : Nat) : partW nx I f s i t = partG I (fun s i => if nx s i = t then 1 else 0) f s i := by
  unfold partW partG
  rw [sumN_congr s (fun s _ => sumN_congr I (fun i _ => show (if nx s i = t then f s else 0) = (if nx s i = t then 1 else 0) * f s by by_cases e : nx s i = t <;> simp [e])),
    sumN_congr i (fun i _ => show (if nx s i = t then f s else 0) = (if nx s i = t then 1 else 0) * f s by by_cases e : nx s i = t <;> simp [e])]

theorem allG_le {g : Nat → Nat → Nat} (hg : ∀ s i, g s i ≤ 1) (f : Nat → Nat) : allG I g f ≤ I * sumN f 16 := by
  unfold allG
  rw [← sumN_mul]
  refine sumN_le 16 (fun s _ => ?_)
  rw [← sumN_const (f s) I]
  exact sumN_le I (fun i _ => by have := hg s i; calc g s i * f s ≤ 1 * f s := Nat.mul_le_mul_right _ this
                                                     _ = f s := Nat.one_mul _)
theorem partG_le {g : Nat → Nat → Nat} {f : Nat → Nat} {s i : Nat} (hs : s < 16) (hi : i ≤ I) : partG I g f s i ≤ allG I g f := by
  unfold allG
  have h1 : sumN (fun j => g s j * f s) i ≤ sumN (fun j => g s j * f s) I := sumN_mono _ hi
  have h2 : sumN (fun s' => sumN (fun j => g s' j * f s') I) (s + 1) ≤ sumN (fun s' => sumN (fun j => g s' j * f s') I) 16 := sumN_mono _ (by omega)
  rw [sumN] at h2
  unfold partG
  omega
/-- All ways together. -/
theorem ways_sum (hnx : ∀ s i, nx s i < 16) (st : Nat) (hst : st < 16) : ∀ k, sumN (ways nx I st k) 16 = I ^ k
  | 0 => by
    have : sumN (ways nx I st 0) 16 = sumN (fun t => if st = t then 1 else 0) 16 := sumN_congr _ (fun t _ => by simp [ways, eq_comm])
    rw [this, sumN_one, if_pos hst, Nat.pow_zero]
  | k + 1 => by
    have e : sumN (ways nx I st (k + 1)) 16 = sumN (fun t => sumN (fun s => sumN (fun i => if nx s i = t then ways nx I st k s else 0) I) 16) 16 := rfl
    rw [e, sumN_comm]
    have : sumN (fun s => sumN (fun t => sumN (fun i => if nx s i = t then ways nx I st k s else 0) I) 16) 16 = sumN (fun s => I * ways nx I st k s) 16 := by
      refine sumN_congr _ (fun s _ => ?_)
      rw [sumN_comm, ← sumN_const]
      refine sumN_congr _ (fun i _ => ?_)
      rw [sumN_one, if_pos (hnx s i)]
    rw [this, sumN_mul, ways_sum hnx st hst k, Nat.pow_succ, Nat.mul_comm]
theorem ways_le (hnx : ∀ s i, nx s i < 16) (st : Nat) (hst : st < 16) (k t : Nat) (ht : t < 16) : ways nx I st k t ≤ I ^ k := by
  rw [← ways_sum nx I hnx st hst k]
  exact mem_le_sum _ ht

/-- The state ahead of step k, the inputs being the digits of x. -/
def digitI (x k : Nat) : Nat := x / I ^ k % I
def stA (st x : Nat) : Nat → Nat
  | 0 => st
  | k + 1 => nx (stA st x k) (digitI I x k)
theorem digit_low {k j y i : Nat} (hI : 0 < I) (hj : j < k) : digitI I (I ^ k * i + y) j = digitI I y j := by
  unfold digitI
  obtain ⟨c, rfl⟩ : ∃ c, k = j + 1 + c := ⟨k - j - 1, by omega⟩
  have e : I ^ (j + 1 + c) * i + y = I ^ j * (I * (I ^ c * i)) + y := by rw [Nat.pow_add, Nat.pow_succ, Nat.mul_assoc, Nat.mul_assoc]
  rw [e, Nat.mul_add_div (Nat.pow_pos hI), Nat.mul_add_mod]
theorem digit_top {k y i : Nat} (hI : 0 < I) (hy : y < I ^ k) (hi : i < I) : digitI I (I ^ k * i + y) k = i := by
  unfold digitI
  rw [Nat.mul_add_div (Nat.pow_pos hI), Nat.div_eq_of_lt hy, Nat.add_zero, Nat.mod_eq_of_lt hi]
theorem stA_low {k y i st : Nat} (hI : 0 < I) : ∀ j, j ≤ k → stA nx I st (I ^ k * i + y) j = stA nx I st y j
  | 0, _ => rfl
  | j + 1, h => by rw [stA, stA, stA_low hI j (by omega), digit_low I hI (by omega)]
/-- Counting all inputs gives the sums. -/
theorem count_G (hI : 0 < I) (hnx : ∀ s i, nx s i < 16) {st : Nat} (hst : st < 16) (g : Nat → Nat → Nat) {k : Nat} (hP : ∀ t, t < 16 → sumN (fun x => if stA nx I st x k = t then 1 else 0) (I ^ k) = ways nx I st k t) :
    sumN (fun x => g (stA nx I st x k) (digitI I x k)) (I ^ (k + 1)) = allG I g (ways nx I st k) := by
  have hlt : ∀ x, stA nx I st x k < 16 := fun x => by
    cases k with
    | zero => exact hst
    | succ k => exact hnx _ _
  rw [Nat.pow_succ, sumN_prod]
  have e1 : ∀ i, i < I → sumN (fun y => g (stA nx I st (I ^ k * i + y) k) (digitI I (I ^ k * i + y) k)) (I ^ k) = sumN (fun s => g s i * ways nx I st k s) 16 := by
    intro i hi
    have a : sumN (fun y => g (stA nx I st (I ^ k * i + y) k) (digitI I (I ^ k * i + y) k)) (I ^ k) = sumN (fun y => sumN (fun s => if stA nx I st y k = s then g s i else 0) 16) (I ^ k) := by
      refine sumN_congr _ (fun y hy => ?_)
      rw [stA_low nx I hI k (Nat.le_refl _), digit_top I hI hy hi, sumN_pick (fun s => g s i), if_pos (hlt y)]
    rw [a, sumN_comm]
    refine sumN_congr _ (fun s hs => ?_)
    rw [← hP s hs, ← sumN_mul]
    exact sumN_congr _ (fun y _ => by by_cases e : stA nx I st y k = s <;> simp [e])
  rw [sumN_congr I e1]
  unfold allG
  rw [sumN_comm]
theorem count_ways (hI : 0 < I) (hnx : ∀ s i, nx s i < 16) {st : Nat} (hst : st < 16) : ∀ k t, t < 16 → sumN (fun x => if stA nx I st x k = t then 1 else 0) (I ^ k) = ways nx I st k t
  | 0, t, _ => by
    show 0 + (if st = t then 1 else 0) = if t = st then 1 else 0
    by_cases e : st = t
    · simp [e]
    · rw [if_neg e, if_neg (Ne.symm e)]
  | k + 1, t, _ => by
    have := count_G nx I hI hnx hst (fun s i => if nx s i = t then 1 else 0) (count_ways hI hnx hst k)
    rw [show ways nx I st (k + 1) t = wayStep nx I (ways nx I st k) t from rfl, wayStep_G, ← this]
    rfl
theorem count_all (hI : 0 < I) (hnx : ∀ s i, nx s i < 16) {st : Nat} (hst : st < 16) (g : Nat → Nat → Nat) (k : Nat) :
    sumN (fun x => g (stA nx I st x k) (digitI I x k)) (I ^ (k + 1)) = allG I g (ways nx I st k) := count_G nx I hI hnx hst g (count_ways nx I hI hnx hst k)
end

/-- k divided by 2 to e. -/
def fq (k e : Nat) : Nat := flw (k * uP (1074 - e))
theorem fit_q {k e : Nat} (hk : k < 9007199254740992) : FitU (k * uP (1074 - e)) := ⟨k, 1074 - e, rfl, hk, by omega⟩
theorem fq_add {k l e : Nat} (hk : k < 9007199254740992) (hl : l < 9007199254740992) : Ieee.double.add (fq k e) (fq l e) = some (fq (k + l) e) := by
  unfold fq
  rw [flw_add (fit_q hk) (fit_q hl), Nat.add_mul]
theorem fq_order {k l e : Nat} (hk : k < 9007199254740992) (hl : l < 9007199254740992) : Ieee.double.order (fq k e) (fq l e) = some (compare k l) := by
  unfold fq
  rw [flw_order (fit_q hk) (fit_q hl)]
  have hp := uP_pos (1074 - e)
  congr 1
  simp only [compare, compareOfLessAndEq]
  rcases Nat.lt_trichotomy k l with h | h | h
  · rw [if_pos h, if_pos (Nat.mul_lt_mul_of_pos_right h hp)]
  · subst h; simp
  · have h2 := Nat.mul_lt_mul_of_pos_right h hp
    rw [if_neg (by omega), if_neg (by omega), if_neg (by omega), if_neg (by omega)]
theorem fq_int (n : Nat) : floatOfInt .f64 (n : Int) = fq n 0 := ofInt_flw n
theorem fq_div {k e a : Nat} (ha : a ≤ 60) (he : e + a ≤ 100) (hk : k < 9007199254740992) : Ieee.double.div (fq k e) (fq (2 ^ a) 0) = some (fq k (e + a)) := by
  unfold fq
  refine flw_div ha (fit_q hk) ?_ ?_
  · rw [Nat.mul_assoc, ← uP_add]
    exact congrArg (fun q => k * uP q) (by omega)
  · rcases Nat.eq_zero_or_pos k with h | h
    · exact .inl (by rw [h, Nat.zero_mul])
    · refine .inr ?_
      rw [show 1074 - e = 900 + (174 - e) by omega, uP_add]
      obtain ⟨U, hU⟩ : ∃ U, U = uP 900 := ⟨_, rfl⟩
      rw [← hU]
      have h1 : 1 * (U * 1) ≤ k * (U * uP (174 - e)) := Nat.mul_le_mul h (Nat.mul_le_mul_left U (uP_pos (174 - e)))
      omega
theorem fq_same {k e a : Nat} (he : e + a ≤ 1074) : fq (k * 2 ^ a) (e + a) = fq k e := by
  unfold fq
  show flw (k * uP a * uP (1074 - (e + a))) = _
  rw [Nat.mul_assoc, ← uP_add]
  exact congrArg (fun q => flw (k * uP q)) (by omega)

end Go.Proofs.Ytgpaajdfkekjiab
