/-
  Plain mathematics of float64: whole numbers divided by a power of two are told to the bit, and so are their sums and what is left of a division by a power of two.
  Plain mathematics of Chances: in how many ways a state is come to; the sums that the program and the reference make. No program in it.
-/
import Derived.Laws.FloatArith
namespace Go.Proofs.YtgpaajdfkekjiaaGreatDoor
open Ieee

/-- The word of so many units of the least place. -/
def flw (N : Nat) : Nat := double.nearest false N (-1074)

theorem log2_scale (m q : Nat) (hm : m ≠ 0) : (m * 2 ^ q).log2 = m.log2 + q := by
  have h0 : m * 2 ^ q ≠ 0 := Nat.mul_ne_zero hm (Nat.ne_of_gt (Nat.two_pow_pos q))
  have a : m.log2 + q ≤ (m * 2 ^ q).log2 := (Nat.le_log2 h0).2 (by rw [Nat.pow_add]; exact Nat.mul_le_mul_right _ ((Nat.le_log2 hm).1 (Nat.le_refl _)))
  have b : (m * 2 ^ q).log2 < m.log2 + q + 1 := (Nat.log2_lt h0).2 (by
    rw [show m.log2 + q + 1 = (m.log2 + 1) + q by omega, Nat.pow_add]
    exact Nat.mul_lt_mul_of_pos_right ((Nat.log2_lt hm).1 (Nat.lt_succ_self _)) (Nat.two_pow_pos q))
  omega
theorem cut_scale (m d q : Nat) (hm : m ≠ 0) : Toward.even.cut false (m * 2 ^ q) (d + q) = Toward.even.cut false m d := by
  unfold Toward.cut
  dsimp only
  rw [log2_scale m q hm, show min (d + q) (m.log2 + q + 2) = min d (m.log2 + 2) + q by omega]
  obtain ⟨e, he⟩ : ∃ e, e = min d (m.log2 + 2) := ⟨_, rfl⟩
  rw [← he]
  have hg : 1 <<< (e + q) = 1 <<< e * 2 ^ q := by rw [Nat.shiftLeft_eq, Nat.shiftLeft_eq, Nat.pow_add, Nat.one_mul, Nat.one_mul]
  have hp := Nat.two_pow_pos q
  have hge : 0 < 1 <<< e := by rw [Nat.shiftLeft_eq, Nat.one_mul]; exact Nat.two_pow_pos e
  obtain ⟨gap, hgap⟩ : ∃ g, g = 1 <<< e := ⟨_, rfl⟩
  rw [hg, ← hgap, Nat.mul_div_mul_right _ _ hp, Nat.mul_mod_mul_right]
  congr 2
  have c1 : decide (gap * 2 ^ q < 2 * (m % gap * 2 ^ q)) = decide (gap < 2 * (m % gap)) := by
    apply decide_eq_decide.2
    rw [← Nat.mul_assoc]
    exact Nat.mul_lt_mul_right hp
  have c2 : (gap * 2 ^ q == 2 * (m % gap * 2 ^ q)) = (gap == 2 * (m % gap)) := by
    rw [← Nat.mul_assoc]
    apply Bool.eq_iff_iff.2
    simp only [beq_iff_eq]
    exact ⟨fun h => Nat.eq_of_mul_eq_mul_right hp h, fun h => congrArg (· * 2 ^ q) h⟩
  rw [c1, c2]
theorem cut_none (k : Nat) : Toward.even.cut false k 0 = k := by
  unfold Toward.cut
  have : min 0 (k.log2 + 2) = 0 := by omega
  simp [this, Nat.mod_one]
theorem cut_exact (k d : Nat) : Toward.even.cut false (k * 2 ^ d) d = k := by
  by_cases h : k = 0
  · subst h
    simp [Toward.cut]
  · have := cut_scale k 0 d h
    rw [Nat.zero_add] at this
    rw [this, cut_none]

/-- A number at any place is so many units of the least one. -/
theorem nearest_flw (m : Nat) (p : Int) (hp : -1074 ≤ p) : double.nearest false m p = flw (m * 2 ^ (p + 1074).toNat) := by
  unfold flw Format.nearest
  by_cases hm : m = 0
  · subst hm; simp
  obtain ⟨q, hq⟩ : ∃ q : Nat, q = (p + 1074).toNat := ⟨_, rfl⟩
  have h0 : m * 2 ^ q ≠ 0 := Nat.mul_ne_zero hm (Nat.ne_of_gt (Nat.two_pow_pos q))
  rw [← hq, if_neg hm, if_neg h0]
  have hlp : double.leastPlace = -1074 := by decide
  have hfb : (double.fractionBits : Int) = 52 := rfl
  dsimp only
  rw [log2_scale m q hm, hlp, hfb]
  obtain ⟨last, hlast⟩ : ∃ last : Int, last = max (p + (m.log2 : Int) - 52) (-1074) := ⟨_, rfl⟩
  have hl2 : max (-1074 + ((m.log2 + q : Nat) : Int) - 52) (-1074) = last := by rw [hlast]; omega
  rw [hl2, ← hlast]
  have hge : -1074 ≤ last := by omega
  have e0 : ((-1074 : Int) - last).toNat = 0 := by omega
  have key : Toward.even.cut false (m <<< (p - last).toNat) (last - p).toNat = Toward.even.cut false ((m * 2 ^ q) <<< ((-1074 : Int) - last).toNat) (last - -1074).toNat := by
    rw [e0, Nat.shiftLeft_zero]
    by_cases hc : p ≤ last
    · have e1 : (p - last).toNat = 0 := by omega
      have e2 : (last - -1074).toNat = (last - p).toNat + q := by omega
      rw [e1, Nat.shiftLeft_zero, e2, cut_scale _ _ _ hm]
    · have e1 : (last - p).toNat = 0 := by omega
      obtain ⟨u, hu⟩ : ∃ u, u = (p - last).toNat := ⟨_, rfl⟩
      obtain ⟨v, hv⟩ : ∃ v, v = (last - -1074).toNat := ⟨_, rfl⟩
      have e2 : q = u + v := by omega
      rw [e1, ← hu, ← hv, Nat.shiftLeft_eq, e2, Nat.pow_add, ← Nat.mul_assoc, cut_exact, cut_none]
  rw [key]

/-- A power of two that is not reckoned. -/
def uP (q : Nat) : Nat := 2 ^ q
theorem uP_pos (q : Nat) : 0 < uP q := Nat.two_pow_pos q
theorem uP_add (p q : Nat) : uP (p + q) = uP p * uP q := Nat.pow_add 2 p q

theorem le_log2_uP {A q : Nat} (h0 : A ≠ 0) (h : uP q ≤ A) : q ≤ A.log2 := (Nat.le_log2 h0).2 h
theorem nearest_uP (m : Nat) (p : Int) (hp : -1074 ≤ p) : double.nearest false m p = flw (m * uP (p + 1074).toNat) := nearest_flw m p hp

theorem flw_zero : flw 0 = 0 := by simp [flw, Format.nearest, Format.word]
theorem read_zero : double.read (flw 0) = .number false 0 (-1074) := by rw [flw_zero]; decide

/-- So many units as a float64 has. -/
def FitU (N : Nat) : Prop := ∃ k j, N = k * 2 ^ j ∧ k < 2 ^ 53 ∧ j ≤ 1100

theorem rung_parts (B d k : Nat) (hB : 0 < B) (h1 : B ≤ k) (h2 : k < 2 * B) : (d * B + k) / B = d + 1 ∧ (d * B + k) % B = k - B := by
  have e : d * B + k = B * (d + 1) + (k - B) := by rw [Nat.mul_add, Nat.mul_comm B d]; omega
  rw [e, Nat.mul_add_div hB, Nat.mul_add_mod, Nat.div_eq_of_lt (by omega), Nat.mod_eq_of_lt (by omega)]
  exact ⟨by omega, rfl⟩
theorem double_consts : ∃ B : Nat, double.binade = B ∧ double.infRung = 2047 * B ∧ double.signWeight = 2048 * B ∧ 0 < B ∧ (∀ k : Nat, k ≠ 0 → k.log2 < 53 → k < 2 * B) ∧ (∀ k : Nat, k ≠ 0 → 52 ≤ k.log2 → B ≤ k) :=
  ⟨4503599627370496, by decide, by decide, by decide, by decide, fun k h0 h => (Nat.log2_lt (k := 53) h0).1 h, fun k h0 h => (Nat.le_log2 (k := 52) h0).1 h⟩
theorem read_flw {N : Nat} (h0 : N ≠ 0) {k d : Nat} (hd : d = N.log2 - 52) (hN : N = k * 2 ^ d) (hb : d ≤ 1900) : double.read (flw N) = .number false k (-1074 + d) := by
  have hlp : double.leastPlace = -1074 := by decide
  have hfb : (double.fractionBits : Int) = 52 := rfl
  obtain ⟨B, hbin, hinf, hsw, hB, hB2, hB1⟩ := double_consts
  have hk0 : k ≠ 0 := fun e => h0 (by rw [hN, e, Nat.zero_mul])
  have hlog : N.log2 = k.log2 + d := by rw [hN]; exact log2_scale k d hk0
  have hk53 : k < 2 * B := hB2 k hk0 (by omega)
  have hk52 : 0 < d → B ≤ k := fun h => hB1 k hk0 (by omega)
  have hX : d * B ≤ 1900 * B := Nat.mul_le_mul_right B hb
  have hw : flw N = min (d * B + k) (2047 * B) := by
    unfold flw Format.nearest
    rw [if_neg h0]
    dsimp only
    rw [hlp, hfb, hbin, hinf]
    have hl : max (-1074 + (N.log2 : Int) - 52) (-1074) = -1074 + (d : Int) := by omega
    rw [hl]
    have e0 : ((-1074 : Int) - (-1074 + (d : Int))).toNat = 0 := by omega
    have e1 : (-1074 + (d : Int) - -1074).toNat = d := by omega
    rw [e0, e1, Nat.shiftLeft_zero]
    have : Toward.even.cut false N d = k := by rw [hN]; exact cut_exact k d
    rw [this, Format.word, if_neg (by decide)]
  rw [Nat.min_eq_left (by omega)] at hw
  rw [hw]
  unfold Format.read
  rw [hsw, hbin, hinf, hlp]
  dsimp only
  have e1 : (d * B + k) % (2048 * B) = d * B + k := Nat.mod_eq_of_lt (by omega)
  have e2 : (d * B + k) / (2048 * B) = 0 := Nat.div_eq_of_lt (by omega)
  rw [e1, e2]
  by_cases hs : d * B + k < B
  · rw [if_pos hs]
    have hd0 : d = 0 := by
      rcases Nat.eq_zero_or_pos d with h | h
      · exact h
      · have := hk52 h; omega
    subst hd0
    simp
  · rw [if_neg hs, if_pos (show d * B + k < 2047 * B by omega)]
    have hk : B ≤ k := by
      by_cases h : 0 < d
      · exact hk52 h
      · obtain rfl : d = 0 := by omega
        omega
    obtain ⟨e3, e4⟩ := rung_parts B d k hB hk hk53
    rw [e3, e4]
    have e5 : B + (k - B) = k := by omega
    rw [e5]
    simp

theorem FitU.read {N : Nat} (h : FitU N) : ∃ (m : Nat) (p : Int), double.read (flw N) = .number false m p ∧ -1074 ≤ p ∧ m * 2 ^ (p + 1074).toNat = N := by
  obtain ⟨k, j, hN, hk, hj⟩ := h
  by_cases h0 : N = 0
  · subst h0
    exact ⟨0, -1074, read_zero, by omega, by simp⟩
  · have hk0 : k ≠ 0 := fun e => h0 (by rw [hN, e, Nat.zero_mul])
    have hlog : N.log2 = k.log2 + j := by rw [hN]; exact log2_scale k j hk0
    have hkl : k.log2 < 53 := (Nat.log2_lt hk0).2 hk
    obtain ⟨d, hd⟩ : ∃ d, d = N.log2 - 52 := ⟨_, rfl⟩
    have hdj : d ≤ j := by omega
    have hN2 : N = (k * 2 ^ (j - d)) * 2 ^ d := by rw [hN, Nat.mul_assoc, ← Nat.pow_add, Nat.sub_add_cancel hdj]
    refine ⟨_, _, read_flw h0 hd hN2 (by omega), by omega, ?_⟩
    rw [show (-1074 + (d : Int) + 1074).toNat = d by omega, ← hN2]

theorem flw_add {A B : Nat} (hA : FitU A) (hB : FitU B) : double.add (flw A) (flw B) = some (flw (A + B)) := by
  obtain ⟨m, i, r1, p1, e1⟩ := hA.read
  obtain ⟨n, j, r2, p2, e2⟩ := hB.read
  unfold Format.add
  rw [r1, r2]
  unfold Datum.sum
  dsimp only
  obtain ⟨base, hbase⟩ : ∃ b, b = min i j := ⟨_, rfl⟩
  rw [← hbase]
  obtain ⟨T, hT⟩ : ∃ T : Nat, T = m * 2 ^ (i - base).toNat + n * 2 ^ (j - base).toNat := ⟨_, rfl⟩
  have hs : signed false m (i - base).toNat + signed false n (j - base).toNat = (T : Int) := by
    rw [hT]
    simp only [signed, Bool.false_eq_true, if_false, Nat.shiftLeft_eq]
    omega
  rw [hs]
  have hn : (if (T : Int) = 0 then (false && false) else decide ((T : Int) < 0)) = false := by
    split
    · rfl
    · exact decide_eq_false (by omega)
  rw [hn]
  simp only [Option.map_some, Format.write, Int.natAbs_natCast]
  rw [nearest_flw T base (by omega)]
  congr 2
  rw [hT, Nat.add_mul, Nat.mul_assoc, Nat.mul_assoc, ← Nat.pow_add, ← Nat.pow_add]
  rw [show (i - base).toNat + (base + 1074).toNat = (i + 1074).toNat by omega, show (j - base).toNat + (base + 1074).toNat = (j + 1074).toNat by omega, e1, e2]

theorem flw_order {A B : Nat} (hA : FitU A) (hB : FitU B) : double.order (flw A) (flw B) = some (compare A B) := by
  obtain ⟨m, i, r1, p1, e1⟩ := hA.read
  obtain ⟨n, j, r2, p2, e2⟩ := hB.read
  unfold Format.order
  rw [r1, r2]
  unfold Datum.order
  dsimp only
  obtain ⟨base, hbase⟩ : ∃ b, b = min i j := ⟨_, rfl⟩
  rw [← hbase]
  congr 1
  simp only [signed, Bool.false_eq_true, if_false, Nat.shiftLeft_eq]
  have a1 : A = (m * 2 ^ (i - base).toNat) * 2 ^ (base + 1074).toNat := by
    rw [Nat.mul_assoc, ← Nat.pow_add, show (i - base).toNat + (base + 1074).toNat = (i + 1074).toNat by omega, e1]
  have a2 : B = (n * 2 ^ (j - base).toNat) * 2 ^ (base + 1074).toNat := by
    rw [Nat.mul_assoc, ← Nat.pow_add, show (j - base).toNat + (base + 1074).toNat = (j + 1074).toNat by omega, e2]
  have hp := Nat.two_pow_pos (base + 1074).toNat
  rw [a1, a2]
  obtain ⟨x, hx⟩ : ∃ x, x = m * 2 ^ (i - base).toNat := ⟨_, rfl⟩
  obtain ⟨y, hy⟩ : ∃ y, y = n * 2 ^ (j - base).toNat := ⟨_, rfl⟩
  rw [← hx, ← hy]
  simp only [compare, compareOfLessAndEq]
  rcases Nat.lt_trichotomy x y with h | h | h
  · rw [if_pos (by omega), if_pos (Nat.mul_lt_mul_of_pos_right h hp)]
  · subst h; simp
  · have h2 := Nat.mul_lt_mul_of_pos_right h hp
    rw [if_neg (by omega), if_neg (by omega), if_neg (by omega), if_neg (by omega)]

/-- 'float64(n)'. -/
theorem ofInt_flw (n : Nat) : floatOfInt .f64 (n : Int) = flw (n * uP 1074) := by
  unfold floatOfInt FloatKind.nearest FloatKind.encode
  show double.write (.number (decide ((n : Int) < 0)) (n : Int).natAbs 0) = _
  rw [decide_eq_false (by omega), Int.natAbs_natCast]
  have h := nearest_uP n 0 (by omega)
  rw [show ((0 : Int) + 1074).toNat = 1074 by omega] at h
  exact h

theorem read_pow (a : Nat) (ha : a ≤ 60) : double.read (flw (uP a * uP 1074)) = .number false 4503599627370496 ((a : Int) - 52) := by
  have h0 : uP a * uP 1074 ≠ 0 := Nat.mul_ne_zero (Nat.ne_of_gt (uP_pos a)) (Nat.ne_of_gt (uP_pos 1074))
  have hl : (uP a * uP 1074).log2 = a + 1074 := by rw [← uP_add, uP, Nat.log2_two_pow]
  have h52 : (4503599627370496 : Nat) = uP 52 := by decide
  have := read_flw (N := uP a * uP 1074) (k := uP 52) (d := a + 1022) h0 (by omega) (by rw [← uP_add]; show _ = uP 52 * uP (a + 1022); rw [← uP_add]; exact congrArg uP (by omega)) (by omega)
  have e : (-1074 + ((a + 1022 : Nat) : Int)) = (a : Int) - 52 := by omega
  rw [this, e, ← h52]

/-- Divided by 2 to a. -/
theorem flw_div {A B a : Nat} (ha : a ≤ 60) (hA : FitU A) (hAB : A = B * uP a) (hbig : A = 0 ∨ uP 900 ≤ A) : double.div (flw A) (flw (uP a * uP 1074)) = some (flw B) := by
  unfold Format.div
  rw [read_pow a ha]
  have hfb : double.fractionBits = 52 := rfl
  have l52 : Nat.log2 4503599627370496 = 52 := Nat.log2_two_pow (n := 52)
  by_cases h0 : A = 0
  · subst h0
    have hB : B = 0 := by
      rcases Nat.mul_eq_zero.1 hAB.symm with h | h
      · exact h
      · exact absurd h (Nat.ne_of_gt (uP_pos a))
    subst hB
    rw [read_zero]
    unfold Datum.quotient
    dsimp only
    rw [if_neg (by decide)]
    simp [Format.write, Format.nearest, flw, Nat.shiftLeft_eq]
  · obtain ⟨k, j, hN, hk, hj⟩ := hA
    have hk0 : k ≠ 0 := fun e => h0 (by rw [hN, e, Nat.zero_mul])
    have hlog : A.log2 = k.log2 + j := by rw [hN]; exact log2_scale k j hk0
    have hkl : k.log2 < 53 := (Nat.log2_lt hk0).2 hk
    have hbl : 900 ≤ A.log2 := le_log2_uP h0 (hbig.resolve_left h0)
    obtain ⟨d, hd⟩ : ∃ d, d = A.log2 - 52 := ⟨_, rfl⟩
    have hdj : d ≤ j := by omega
    obtain ⟨m, hm⟩ : ∃ m, m = k * 2 ^ (j - d) := ⟨_, rfl⟩
    have hN2 : A = m * 2 ^ d := by rw [hm, hN, Nat.mul_assoc, ← Nat.pow_add, Nat.sub_add_cancel hdj]
    have hm0 : m ≠ 0 := fun e => h0 (by rw [hN2, e, Nat.zero_mul])
    have hml : m.log2 = 52 := by
      have := log2_scale m d hm0
      rw [← hN2] at this
      omega
    rw [read_flw h0 hd hN2 (by omega), hfb]
    unfold Datum.quotient
    dsimp only
    rw [if_neg (by decide), hml, l52]
    have e1 : m <<< (52 + 2 + 52 - 52) = (m * 4) * 4503599627370496 := by
      rw [Nat.shiftLeft_eq]
      omega
    rw [e1, Nat.mul_div_cancel _ (by decide), Nat.mul_mod_left]
    simp only [bne_self_eq_false, Bool.toNat_false, Nat.add_zero, Option.map_some, Format.write]
    rw [nearest_uP _ _ (by omega)]
    refine congrArg (fun x => some (flw x)) ?_
    have hB : B * uP a = m * uP d := by rw [← hAB, hN2, uP]
    apply Nat.eq_of_mul_eq_mul_right (uP_pos a)
    rw [hB]
    rw [Nat.mul_assoc, ← uP_add, show 2 * (m * 4) = m * uP 3 by rw [show uP 3 = 8 by decide]; omega, Nat.mul_assoc, ← uP_add]
    refine congrArg (fun q => m * uP q) ?_
    omega

end Go.Proofs.YtgpaajdfkekjiaaGreatDoor

namespace Go.Proofs.YtgpaajdfkekjiaaGreatDoor

def sumN (f : Nat → Nat) : Nat → Nat
  | 0 => 0
  | k + 1 => sumN f k + f k
theorem sumN_congr {f g : Nat → Nat} : ∀ k, (∀ i, i < k → f i = g i) → sumN f k = sumN g k
  | 0, _ => rfl
  | k + 1, h => by rw [sumN, sumN, sumN_congr k (fun i hi => h i (by omega)), h k (by omega)]
theorem sumN_le {f g : Nat → Nat} : ∀ k, (∀ i, i < k → f i ≤ g i) → sumN f k ≤ sumN g k
  | 0, _ => Nat.le_refl _
  | k + 1, h => by rw [sumN, sumN]; exact Nat.add_le_add (sumN_le k (fun i hi => h i (by omega))) (h k (by omega))
theorem sumN_zero : ∀ k, sumN (fun _ => 0) k = 0
  | 0 => rfl
  | k + 1 => by rw [sumN, sumN_zero k]
theorem sumN_const (c : Nat) : ∀ k, sumN (fun _ => c) k = k * c
  | 0 => by simp [sumN]
  | k + 1 => by rw [sumN, sumN_const c k, Nat.succ_mul]
theorem sumN_add (f g : Nat → Nat) : ∀ k, sumN (fun i => f i + g i) k = sumN f k + sumN g k
  | 0 => rfl
  | k + 1 => by rw [sumN, sumN, sumN, sumN_add f g k]; omega
theorem sumN_mul (f : Nat → Nat) (c : Nat) : ∀ k, sumN (fun i => c * f i) k = c * sumN f k
  | 0 => by simp [sumN]
  | k + 1 => by rw [sumN, sumN, sumN_mul f c k, Nat.mul_add]
theorem sumN_comm (f : Nat → Nat → Nat) (b : Nat) : ∀ a, sumN (fun i => sumN (fun j => f i j) b) a = sumN (fun j => sumN (fun i => f i j) a) b
  | 0 => by simp only [sumN]; rw [sumN_zero]
  | a + 1 => by rw [sumN, sumN_comm f b a, ← sumN_add]; rfl
theorem sumN_split (f : Nat → Nat) (a : Nat) : ∀ b, sumN f (b + a) = sumN f b + sumN (fun i => f (b + i)) a := by
  induction a with
  | zero => intro b; simp [sumN]
  | succ a ih => intro b; rw [show b + (a + 1) = (b + a) + 1 by omega, sumN, ih, sumN]; omega
theorem sumN_prod (f : Nat → Nat) (a : Nat) : ∀ b, sumN f (a * b) = sumN (fun i => sumN (fun y => f (a * i + y)) a) b
  | 0 => by simp [sumN]
  | b + 1 => by rw [Nat.mul_succ, sumN_split, sumN_prod f a b, sumN]
theorem sumN_mono (f : Nat → Nat) {a b : Nat} (h : a ≤ b) : sumN f a ≤ sumN f b := by
  obtain ⟨c, rfl⟩ : ∃ c, b = a + c := ⟨b - a, by omega⟩
  rw [sumN_split]; omega
/-- A sum that has one member. -/
theorem sumN_one (c t : Nat) : ∀ k, sumN (fun s => if t = s then c else 0) k = if t < k then c else 0
  | 0 => by simp [sumN]
  | k + 1 => by
    rw [sumN, sumN_one c t k]
    by_cases h : t < k
    · rw [if_pos h, if_neg (by omega), if_pos (by omega)]; omega
    · by_cases e : t = k
      · subst e; simp
      · rw [if_neg h, if_neg e, if_neg (by omega)]
theorem sumN_pick (f : Nat → Nat) (t k : Nat) : sumN (fun s => if t = s then f s else 0) k = if t < k then f t else 0 := by
  rw [← sumN_one (f t) t k]
  exact sumN_congr k (fun i _ => by by_cases e : t = i <;> simp [e])
theorem mem_le_sum (f : Nat → Nat) {t k : Nat} (h : t < k) : f t ≤ sumN f k := by
  have := sumN_split f (k - t) t
  rw [show t + (k - t) = k by omega] at this
  have h2 : f (t + 0) ≤ sumN (fun i => f (t + i)) (k - t) := by
    obtain ⟨c, hc⟩ : ∃ c, k - t = 1 + c := ⟨k - t - 1, by omega⟩
    rw [hc, sumN_split]
    simp [sumN]
  simp at h2
  omega

section
variable (nx : Nat → Nat → Nat) (I : Nat)
/-- One step further: in how many ways each state is come to. -/
def wayStep (f : Nat → Nat) (t : Nat) : Nat := sumN (fun s => sumN (fun i => if nx s i = t then f s else 0) I) 16
/-- .. in the midst of it: the states ahead of s, and of s the inputs ahead of i. -/
def partW (f : Nat → Nat) (s i t : Nat) : Nat := sumN (fun s' => sumN (fun j => if nx s' j = t then f s' else 0) I) s + sumN (fun j => if nx s j = t then f s else 0) i
theorem partW_zero (f : Nat → Nat) (t : Nat) : partW nx I f 0 0 t = 0 := rfl
theorem partW_succ (f : Nat → Nat) (s i t : Nat) : partW nx I f s (i + 1) t = partW nx I f s i t + if nx s i = t then f s else 0 := by unfold partW; rw [sumN]; omega
theorem partW_next (f : Nat → Nat) (s t : Nat) : partW nx I f s I t = partW nx I f (s + 1) 0 t := by unfold partW; simp [sumN]
theorem partW_all (f : Nat → Nat) (t : Nat) : partW nx I f 16 0 t = wayStep nx I f t := by unfold partW wayStep; simp [sumN]
theorem partW_skip (f : Nat → Nat) (s t : Nat) (h : f s = 0) : partW nx I f (s + 1) 0 t = partW nx I f s 0 t := by
  have : sumN (fun j => if nx s j = t then f s else 0) I = 0 := by rw [sumN_congr I (g := fun _ => 0) (fun j _ => by simp [h]), sumN_zero]
  unfold partW
  simp only [sumN, this]
def ways (st : Nat) : Nat → Nat → Nat
  | 0, t => if t = st then 1 else 0
  | k + 1, t => wayStep nx I (ways st k) t

/-- Of some numbers, each as often as its state is come to, in the midst of the summing. -/
def partG (g : Nat → Nat → Nat) (f : Nat → Nat) (s i : Nat) : Nat := sumN (fun s' => sumN (fun j => g s' j * f s') I) s + sumN (fun j => g s j * f s) i
def allG (g : Nat → Nat → Nat) (f : Nat → Nat) : Nat := sumN (fun s => sumN (fun j => g s j * f s) I) 16
theorem partG_succ (g : Nat → Nat → Nat) (f : Nat → Nat) (s i : Nat) : partG I g f s (i + 1) = partG I g f s i + g s i * f s := by unfold partG; rw [sumN]; omega
theorem partG_next (g : Nat → Nat → Nat) (f : Nat → Nat) (s : Nat) : partG I g f s I = partG I g f (s + 1) 0 := by unfold partG; simp [sumN]
theorem partG_all (g : Nat → Nat → Nat) (f : Nat → Nat) : partG I g f 16 0 = allG I g f := by unfold partG allG; simp [sumN]
theorem partG_skip (g : Nat → Nat → Nat) (f : Nat → Nat) (s : Nat) (h : f s = 0) : partG I g f (s + 1) 0 = partG I g f s 0 := by
  have : sumN (fun j => g s j * f s) I = 0 := by rw [sumN_congr I (g := fun _ => 0) (fun j _ => by simp [h]), sumN_zero]
  unfold partG
  simp only [sumN, this]
theorem wayStep_G (f : Nat → Nat) (t : Nat) : wayStep nx I f t = allG I (fun s i => if nx s i = t then 1 else 0) f := by
  unfold wayStep allG
  exact sumN_congr _ (fun s _ => sumN_congr _ (fun i _ => by by_cases e : nx s i = t <;> simp [e]))
theorem partW_G (f : Nat → Nat) (s i t : Nat) : partW nx I f s i t = partG I (fun s i => if nx s i = t then 1 else 0) f s i := by
  unfold partW partG
  rw [sumN_congr s (fun s _ => sumN_congr I (fun i _ => show (if nx s i = t then f s else 0) = (if nx s i = t then 1 else 0) * f s by by_cases e : nx s i = t <;> simp [e])),
    sumN_congr i (fun i _ => show (if nx s i = t then f s else 0) = (if nx s i = t then 1 else 0) * f s by by_cases e : nx s i = t <;> simp [e])]

theorem allG_le {g : Nat → Nat → Nat} (hg : ∀ s i, g s i ≤ 1) (f : Nat → Nat) : allG I g f ≤ I * sumN f 16 := by
  unfold allG
  rw [← sumN_mul]
  refine sumN_le 16 (fun s _ => ?_)
  rw [← sumN_const (f s) I]
  exact sumN_le I (fun i _ => by have := hg s i; calc g s i * f s ≤ 1 * f s := Nat.mul_le_mul_right _ this
                                                     _ = f s := Nat.one_mul _)
theorem partG_le {g : Nat → Nat → Nat} {f : Nat → Nat} {s i : Nat} (hs : s < 16) (hi : i ≤ I) : partG I g f s i ≤ allG I g f := by
  unfold allG
  have h1 : sumN (fun j => g s j * f s) i ≤ sumN (fun j => g s j * f s) I := sumN_mono _ hi
  have h2 : sumN (fun s' => sumN (fun j => g s' j * f s') I) (s + 1) ≤ sumN (fun s' => sumN (fun j => g s' j * f s') I) 16 := sumN_mono _ (by omega)
  rw [sumN] at h2
  unfold partG
  omega
/-- All ways together. -/
theorem ways_sum (hnx : ∀ s i, nx s i < 16) (st : Nat) (hst : st < 16) : ∀ k, sumN (ways nx I st k) 16 = I ^ k
  | 0 => by
    have : sumN (ways nx I st 0) 16 = sumN (fun t => if st = t then 1 else 0) 16 := sumN_congr _ (fun t _ => by simp [ways, eq_comm])
    rw [this, sumN_one, if_pos hst, Nat.pow_zero]
  | k + 1 => by
    have e : sumN (ways nx I st (k + 1)) 16 = sumN (fun t => sumN (fun s => sumN (fun i => if nx s i = t then ways nx I st k s else 0) I) 16) 16 := rfl
    rw [e, sumN_comm]
    have : sumN (fun s => sumN (fun t => sumN (fun i => if nx s i = t then ways nx I st k s else 0) I) 16) 16 = sumN (fun s => I * ways nx I st k s) 16 := by
      refine sumN_congr _ (fun s _ => ?_)
      rw [sumN_comm, ← sumN_const]
      refine sumN_congr _ (fun i _ => ?_)
      rw [sumN_one, if_pos (hnx s i)]
    rw [this, sumN_mul, ways_sum hnx st hst k, Nat.pow_succ, Nat.mul_comm]
theorem ways_le (hnx : ∀ s i, nx s i < 16) (st : Nat) (hst : st < 16) (k t : Nat) (ht : t < 16) : ways nx I st k t ≤ I ^ k := by
  rw [← ways_sum nx I hnx st hst k]
  exact mem_le_sum _ ht

/-- The state ahead of step k, the inputs being the digits of x. -/
def digitI (x k : Nat) : Nat := x / I ^ k % I
def stA (st x : Nat) : Nat → Nat
  | 0 => st
  | k + 1 => nx (stA st x k) (digitI I x k)
theorem digit_low {k j y i : Nat} (hI : 0 < I) (hj : j < k) : digitI I (I ^ k * i + y) j = digitI I y j := by
  unfold digitI
  obtain ⟨c, rfl⟩ : ∃ c, k = j + 1 + c := ⟨k - j - 1, by omega⟩
  have e : I ^ (j + 1 + c) * i + y = I ^ j * (I * (I ^ c * i)) + y := by rw [Nat.pow_add, Nat.pow_succ, Nat.mul_assoc, Nat.mul_assoc]
  rw [e, Nat.mul_add_div (Nat.pow_pos hI), Nat.mul_add_mod]
theorem digit_top {k y i : Nat} (hI : 0 < I) (hy : y < I ^ k) (hi : i < I) : digitI I (I ^ k * i + y) k = i := by
  unfold digitI
  rw [Nat.mul_add_div (Nat.pow_pos hI), Nat.div_eq_of_lt hy, Nat.add_zero, Nat.mod_eq_of_lt hi]
theorem stA_low {k y i st : Nat} (hI : 0 < I) : ∀ j, j ≤ k → stA nx I st (I ^ k * i + y) j = stA nx I st y j
  | 0, _ => rfl
  | j + 1, h => by rw [stA, stA, stA_low hI j (by omega), digit_low I hI (by omega)]
/-- Counting all inputs gives the sums. -/
theorem count_G (hI : 0 < I) (hnx : ∀ s i, nx s i < 16) {st : Nat} (hst : st < 16) (g : Nat → Nat → Nat) {k : Nat} (hP : ∀ t, t < 16 → sumN (fun x => if stA nx I st x k = t then 1 else 0) (I ^ k) = ways nx I st k t) :
    sumN (fun x => g (stA nx I st x k) (digitI I x k)) (I ^ (k + 1)) = allG I g (ways nx I st k) := by
  have hlt : ∀ x, stA nx I st x k < 16 := fun x => by
    cases k with
    | zero => exact hst
    | succ k => exact hnx _ _
  rw [Nat.pow_succ, sumN_prod]
  have e1 : ∀ i, i < I → sumN (fun y => g (stA nx I st (I ^ k * i + y) k) (digitI I (I ^ k * i + y) k)) (I ^ k) = sumN (fun s => g s i * ways nx I st k s) 16 := by
    intro i hi
    have a : sumN (fun y => g (stA nx I st (I ^ k * i + y) k) (digitI I (I ^ k * i + y) k)) (I ^ k) = sumN (fun y => sumN (fun s => if stA nx I st y k = s then g s i else 0) 16) (I ^ k) := by
      refine sumN_congr _ (fun y hy => ?_)
      rw [stA_low nx I hI k (Nat.le_refl _), digit_top I hI hy hi, sumN_pick (fun s => g s i), if_pos (hlt y)]
    rw [a, sumN_comm]
    refine sumN_congr _ (fun s hs => ?_)
    rw [← hP s hs, ← sumN_mul]
    exact sumN_congr _ (fun y _ => by by_cases e : stA nx I st y k = s <;> simp [e])
  rw [sumN_congr I e1]
  unfold allG
  rw [sumN_comm]
theorem count_ways (hI : 0 < I) (hnx : ∀ s i, nx s i < 16) {st : Nat} (hst : st < 16) : ∀ k t, t < 16 → sumN (fun x => if stA nx I st x k = t then 1 else 0) (I ^ k) = ways nx I st k t
  | 0, t, _ => by
    show 0 + (if st = t then 1 else 0) = if t = st then 1 else 0
    by_cases e : st = t
    · simp [e]
    · rw [if_neg e, if_neg (Ne.symm e)]
  | k + 1, t, _ => by
    have := count_G nx I hI hnx hst (fun s i => if nx s i = t then 1 else 0) (count_ways hI hnx hst k)
    rw [show ways nx I st (k + 1) t = wayStep nx I (ways nx I st k) t from rfl, wayStep_G, ← this]
    rfl
theorem count_all (hI : 0 < I) (hnx : ∀ s i, nx s i < 16) {st : Nat} (hst : st < 16) (g : Nat → Nat → Nat) (k : Nat) :
    sumN (fun x => g (stA nx I st x k) (digitI I x k)) (I ^ (k + 1)) = allG I g (ways nx I st k) := count_G nx I hI hnx hst g (count_ways nx I hI hnx hst k)
end

/-- k divided by 2 to e. -/
def fq (k e : Nat) : Nat := flw (k * uP (1074 - e))
theorem fit_q {k e : Nat} (hk : k < 9007199254740992) : FitU (k * uP (1074 - e)) := ⟨k, 1074 - e, rfl, hk, by omega⟩
theorem fq_add {k l e : Nat} (hk : k < 9007199254740992) (hl : l < 9007199254740992) : Ieee.double.add (fq k e) (fq l e) = some (fq (k + l) e) := by
  unfold fq
  rw [flw_add (fit_q hk) (fit_q hl), Nat.add_mul]
theorem fq_order {k l e : Nat} (hk : k < 9007199254740992) (hl : l < 9007199254740992) : Ieee.double.order (fq k e) (fq l e) = some (compare k l) := by
  unfold fq
  rw [flw_order (fit_q hk) (fit_q hl)]
  have hp := uP_pos (1074 - e)
  congr 1
  simp only [compare, compareOfLessAndEq]
  rcases Nat.lt_trichotomy k l with h | h | h
  · rw [if_pos h, if_pos (Nat.mul_lt_mul_of_pos_right h hp)]
  · subst h; simp
  · have h2 := Nat.mul_lt_mul_of_pos_right h hp
    rw [if_neg (by omega), if_neg (by omega), if_neg (by omega), if_neg (by omega)]
theorem fq_int (n : Nat) : floatOfInt .f64 (n : Int) = fq n 0 := ofInt_flw n
theorem fq_div {k e a : Nat} (ha : a ≤ 60) (he : e + a ≤ 100) (hk : k < 9007199254740992) : Ieee.double.div (fq k e) (fq (2 ^ a) 0) = some (fq k (e + a)) := by
  unfold fq
  refine flw_div ha (fit_q hk) ?_ ?_
  · rw [Nat.mul_assoc, ← uP_add]
    exact congrArg (fun q => k * uP q) (by omega)
  · rcases Nat.eq_zero_or_pos k with h | h
    · exact .inl (by rw [h, Nat.zero_mul])
    · refine .inr ?_
      rw [show 1074 - e = 900 + (174 - e) by omega, uP_add]
      obtain ⟨U, hU⟩ : ∃ U, U = uP 900 := ⟨_, rfl⟩
      rw [← hU]
      have h1 : 1 * (U * 1) ≤ k * (U * uP (174 - e)) := Nat.mul_le_mul h (Nat.mul_le_mul_left U (uP_pos (174 - e)))
      omega
theorem fq_same {k e a : Nat} (he : e + a ≤ 1074) : fq (k * 2 ^ a) (e + a) = fq k e := by
  unfold fq
  show flw (k * uP a * uP (1074 - (e + a))) = _
  rw [Nat.mul_assoc, ← uP_add]
  exact congrArg (fun q => flw (k * uP q)) (by omega)

end Go.Proofs.YtgpaajdfkekjiaaGreatDoor
