/-
  Plain mathematics of float64: whole numbers divided by a power of two are told to the bit, and so are their sums and what is left of a division by a power of two.
-/
import Derived.Laws.FloatArith
namespace Go.Proofs.Ytgpaajdfkekjiab
open Ieee

/-- The word of so many units of the least place. -/
def flw (N : Nat) : Nat := double.nearest false N (-1074)

theorem log2_scale (m q : Nat) (hm : m ≠ 0) : (m * 2 ^ q).log2 = m.log2 + q := by
  have h0 : m * 2 ^ q ≠ 0 := Nat.mul_ne_zero hm (Nat.ne_of_gt (Nat.two_pow_pos q))
  have a : m.log2 + q ≤ (m * 2 ^ q).log2 := (Nat.le_log2 h0).2 (by rw [Nat.pow_add]; exact Nat.mul_le_mul_right _ ((Nat.le_log2 hm).1 (Nat.le_refl _)))
  have b : (m * 2 ^ q).log2 < m.log2 + q + 1 := (Nat.log2_lt h0).2 (by
    rw [show m.log2 + q + 1 = (m.log2 + 1) + q by omega, Nat.pow_add]
    exact Nat.mul_lt_mul_of_pos_right ((Nat.log2_lt hm).1 (Nat.lt_succ_self _)) (Nat.two_pow_pos q))
  omega
theorem cut_scale (m d q : Nat) (hm : m ≠ 0) : Toward.even.cut false (m * 2 ^ q) (d + q) = Toward.even.cut false m d := by
  unfold Toward.cut
  dsimp only
  rw [log2_scale m q hm, show min (d + q) (m.log2 + q + 2) = min d (m.log2 + 2) + q by omega]
  obtain ⟨e, he⟩ : ∃ e, e = min d (m.log2 + 2) := ⟨_, rfl⟩
  rw [← he]
  have hg : 1 <<< (e + q) = 1 <<< e * 2 ^ q := by rw [Nat.shiftLeft_eq, Nat.shiftLeft_eq, Nat.pow_add, Nat.one_mul, Nat.one_mul]
  have hp := Nat.two_pow_pos q
  have hge : 0 < 1 <<< e := by rw [Nat.shiftLeft_eq, Nat.one_mul]; exact Nat.two_pow_pos e
  obtain ⟨gap, hgap⟩ : ∃ g, g = 1 <<< e := ⟨_, rfl⟩
  rw [hg, ← hgap, Nat.mul_div_mul_right _ _ hp, Nat.mul_mod_mul_right]
  congr 2
  have c1 : decide (gap * 2 ^ q < 2 * (m % gap * 2 ^ q)) = decide (gap < 2 * (m % gap)) := by
    apply decide_eq_decide.2
    rw [← Nat.mul_assoc]
    exact Nat.mul_lt_mul_right hp
  have c2 : (gap * 2 ^ q == 2 * (m % gap * 2 ^ q)) = (gap == 2 * (m % gap)) := by
    rw [← Nat.mul_assoc]
    apply Bool.eq_iff_iff.2
    simp only [beq_iff_eq]
    exact ⟨fun h => Nat.eq_of_mul_eq_mul_right hp h, fun h => congrArg (· * 2 ^ q) h⟩
  rw [c1, c2]
theorem cut_none (k : Nat) : Toward.even.cut false k 0 = k := by
  unfold Toward.cut
  have : min 0 (k.log2 + 2) = 0 := by omega
  simp [this, Nat.mod_one]
theorem cut_exact (k d : Nat) : Toward.even.cut false (k * 2 ^ d) d = k := by
  by_cases h : k = 0
  · subst h
    simp [Toward.cut]
  · have := cut_scale k 0 d h
    rw [Nat.zero_add] at this
    rw [this, cut_none]

/-- A number at any place is so many units of the least one. -/
theorem nearest_flw (m : Nat) (p : Int) (hp : -1074 ≤ p) : double.nearest false m p = flw (m * 2 ^ (p + 1074).toNat) := by
  unfold flw Format.nearest
  by_cases hm : m = 0
  · subst hm; simp
  obtain ⟨q, hq⟩ : ∃ q : Nat, q = (p + 1074).toNat := ⟨_, rfl⟩
  have h0 : m * 2 ^ q ≠ 0 := Nat.mul_ne_zero hm (Nat.ne_of_gt (Nat.two_pow_pos q))
  rw [← hq, if_neg hm, if_neg h0]
  have hlp : double.leastPlace = -1074 := by decide
  have hfb : (double.fractionBits : Int) = 52 := rfl
  dsimp only
  rw [log2_scale m q hm, hlp, hfb]
  obtain ⟨last, hlast⟩ : ∃ last : Int, last = max (p + (m.log2 : Int) - 52) (-1074) := ⟨_, rfl⟩
  have hl2 : max (-1074 + ((m.log2 + q : Nat) : Int) - 52) (-1074) = last := by rw [hlast]; omega
  rw [hl2, ← hlast]
  have hge : -1074 ≤ last := by omega
  have e0 : ((-1074 : Int) - last).toNat = 0 := by omega
  have key : Toward.even.cut false (m <<< (p - last).toNat) (last - p).toNat = Toward.even.cut false ((m * 2 ^ q) <<< ((-1074 : Int) - last).toNat) (last - -1074).toNat := by
    rw [e0, Nat.shiftLeft_zero]
    by_cases hc : p ≤ last
    · have e1 : (p - last).toNat = 0 := by omega
      have e2 : (last - -1074).toNat = (last - p).toNat + q := by omega
      rw [e1, Nat.shiftLeft_zero, e2, cut_scale _ _ _ hm]
    · have e1 : (last - p).toNat = 0 := by omega
      obtain ⟨u, hu⟩ : ∃ u, u = (p - last).toNat := ⟨_, rfl⟩
      obtain ⟨v, hv⟩ : ∃ v, v = (last - -1074).toNat := ⟨_, rfl⟩
      have e2 : q = u + v := by omega
      rw [e1, ← hu, ← hv, Nat.shiftLeft_eq, e2, Nat.pow_add, ← Nat.mul_assoc, cut_exact, cut_none]
  rw [key]

/-- A power of two that is not reckoned. -/
def uP (q : Nat) : Nat := 2 ^ q
theorem uP_pos (q : Nat) : 0 < uP q := Nat.two_pow_pos q
theorem uP_add (p q : Nat) : uP (p + q) = uP p * uP q := Nat.pow_add 2 p q

theorem le_log2_uP {A q : Nat} (h0 : A ≠ 0) (h : uP q ≤ A) : q ≤ A.log2 := (Nat.le_log2 h0).2 h
theorem nearest_uP (m : Nat) (p : Int) (hp : -1074 ≤ p) : double.nearest false m p = flw (m * uP (p + 1074).toNat) := nearest_flw m p hp

theorem flw_zero : flw 0 = 0 := by simp [flw, Format.nearest, Format.word]
theorem read_zero : double.read (flw 0) = .number false 0 (-1074) := by rw [flw_zero]; decide

/-- So many units as a float64 has. -/
def FitU (N : Nat) : Prop := ∃ k j, N = k * 2 ^ j ∧ k < 2 ^ 53 ∧ j ≤ 1100

theorem rung_parts (B d k : Nat) (hB : 0 < B) (h1 : B ≤ k) (h2 : k < 2 * B) : (d * B + k) / B = d + 1 ∧ (d * B + k) % B = k - B := by
  have e : d * B + k = B * (d + 1) + (k - B) := by rw [Nat.mul_add, Nat.mul_comm B d]; omega
  rw [e, Nat.mul_add_div hB, Nat.mul_add_mod, Nat.div_eq_of_lt (by omega), Nat.mod_eq_of_lt (by omega)]
  exact ⟨by omega, rfl⟩
theorem double_consts : ∃ B : Nat, double.binade = B ∧ double.infRung = 2047 * B ∧ double.signWeight = 2048 * B ∧ 0 < B ∧ (∀ k : Nat, k ≠ 0 → k.log2 < 53 → k < 2 * B) ∧ (∀ k : Nat, k ≠ 0 → 52 ≤ k.log2 → B ≤ k) :=
  ⟨4503599627370496, by decide, by decide, by decide, by decide, fun k h0 h => (Nat.log2_lt (k := 53) h0).1 h, fun k h0 h => (Nat.le_log2 (k := 52) h0).1 h⟩
theorem read_flw {N : Nat} (h0 : N ≠ 0) {k d : Nat} (hd : d = N.log2 - 52) (hN : N = k * 2 ^ d) (hb : d ≤ 1900) : double.read (flw N) = .number false k (-1074 + d) := by
  have hlp : double.leastPlace = -1074 := by decide
  have hfb : (double.fractionBits : Int) = 52 := rfl
  obtain ⟨B, hbin, hinf, hsw, hB, hB2, hB1⟩ := double_consts
  have hk0 : k ≠ 0 := fun e => h0 (by rw [hN, e, Nat.zero_mul])
  have hlog : N.log2 = k.log2 + d := by rw [hN]; exact log2_scale k d hk0
  have hk53 : k < 2 * B := hB2 k hk0 (by omega)
  have hk52 : 0 < d → B ≤ k := fun h => hB1 k hk0 (by omega)
  have hX : d * B ≤ 1900 * B := Nat.mul_le_mul_right B hb
  have hw : flw N = min (d * B + k) (2047 * B) := by
    unfold flw Format.nearest
    rw [if_neg h0]
    dsimp only
    rw [hlp, hfb, hbin, hinf]
    have hl : max (-1074 + (N.log2 : Int) - 52) (-1074) = -1074 + (d : Int) := by omega
    rw [hl]
    have e0 : ((-1074 : Int) - (-1074 + (d : Int))).toNat = 0 := by omega
    have e1 : (-1074 + (d : Int) - -1074).toNat = d := by omega
    rw [e0, e1, Nat.shiftLeft_zero]
    have : Toward.even.cut false N d = k := by rw [hN]; exact cut_exact k d
    rw [this, Format.word, if_neg (by decide)]
  rw [Nat.min_eq_left (by omega)] at hw
  rw [hw]
  unfold Format.read
  rw [hsw, hbin, hinf, hlp]
  dsimp only
  have e1 : (d * B + k) % (2048 * B) = d * B + k := Nat.mod_eq_of_lt (by omega)
  have e2 : (d * B + k) / (2048 * B) = 0 := Nat.div_eq_of_lt (by omega)
  rw [e1, e2]
  by_cases hs : d * B + k < B
  · rw [if_pos hs]
    have hd0 : d = 0 := by
      rcases Nat.eq_zero_or_pos d with h | h
      · exact h
      · have := hk52 h; omega
    subst hd0
    simp
  · rw [if_neg hs, if_pos (show d * B + k < 2047 * B by omega)]
    have hk : B ≤ k := by
      by_cases h : 0 < d
      · exact hk52 h
      · obtain rfl : d = 0 := by omega
        omega
    obtain ⟨e3, e4⟩ := rung_parts B d k hB hk hk53
    rw [e3, e4]
    have e5 : B + (k - B) = k := by omega
    rw [e5]
    simp

theorem FitU.read {N : Nat} (h : FitU N) : ∃ (m : Nat) (p : Int), double.read (flw N) = .number false m p ∧ -1074 ≤ p ∧ m * 2 ^ (p + 1074).toNat = N := by
  obtain ⟨k, j, hN, hk, hj⟩ := h
  by_cases h0 : N = 0
  · subst h0
    exact ⟨0, -1074, read_zero, by omega, by simp⟩
  · have hk0 : k ≠ 0 := fun e => h0 (by rw [hN, e, Nat.zero_mul])
    have hlog : N.log2 = k.log2 + j := by rw [hN]; exact log2_scale k j hk0
    have hkl : k.log2 < 53 := (Nat.log2_lt hk0).2 hk
    obtain ⟨d, hd⟩ : ∃ d, d = N.log2 - 52 := ⟨_, rfl⟩
    have hdj : d ≤ j := by omega
    have hN2 : N = (k * 2 ^ (j - d)) * 2 ^ d := by rw [hN, Nat.mul_assoc, ← Nat.pow_add, Nat.sub_add_cancel hdj]
    refine ⟨_, _, read_flw h0 hd hN2 (by omega), by omega, ?_⟩
    rw [show (-1074 + (d : Int) + 1074).toNat = d by omega, ← hN2]

theorem flw_add {A B : Nat} (hA : FitU A) (hB : FitU B) : double.add (flw A) (flw B) = some (flw (A + B)) := by
  obtain ⟨m, i, r1, p1, e1⟩ := hA.read
  obtain ⟨n, j, r2, p2, e2⟩ := hB.read
  unfold Format.add
  rw [r1, r2]
  unfold Datum.sum
  dsimp only
  obtain ⟨base, hbase⟩ : ∃ b, b = min i j := ⟨_, rfl⟩
  rw [← hbase]
  obtain ⟨T, hT⟩ : ∃ T : Nat, T = m * 2 ^ (i - base).toNat + n * 2 ^ (j - base).toNat := ⟨_, rfl⟩
  have hs : signed false m (i - base).toNat + signed false n (j - base).toNat = (T : Int) := by
    rw [hT]
    simp only [signed, Bool.false_eq_true, if_false, Nat.shiftLeft_eq]
    omega
  rw [hs]
  have hn : (if (T : Int) = 0 then (false && false) else decide ((T : Int) < 0)) = false := by
    split
    · rfl
    · exact decide_eq_false (by omega)
  rw [hn]
  simp only [Option.map_some, Format.write, Int.natAbs_natCast]
  rw [nearest_flw T base (by omega)]
  congr 2
  rw [hT, Nat.add_mul, Nat.mul_assoc, Nat.mul_assoc, ← Nat.pow_add, ← Nat.pow_add]
  rw [show (i - base).toNat + (base + 1074).toNat = (i + 1074).toNat by omega, show (j - base).toNat + (base + 1074).toNat = (j + 1074).toNat by omega, e1, e2]

theorem flw_order {A B : Nat} (hA : FitU A) (hB : FitU B) : double.order (flw A) (flw B) = some (compare A B) := by
  obtain ⟨m, i, r1, p1, e1⟩ := hA.read
  obtain ⟨n, j, r2, p2, e2⟩ := hB.read
  unfold Format.order
  rw [r1, r2]
  unfold Datum.order
  dsimp only
  obtain ⟨base, hbase⟩ : ∃ b, b = min i j := ⟨_, rfl⟩
  rw [← hbase]
  congr 1
  simp only [signed, Bool.false_eq_true, if_false, Nat.shiftLeft_eq]
  have a1 : A = (m * 2 ^ (i - base).toNat) * 2 ^ (base + 1074).toNat := by
    rw [Nat.mul_assoc, ← Nat.pow_add, show (i - base).toNat + (base + 1074).toNat = (i + 1074).toNat by omega, e1]
  have a2 : B = (n * 2 ^ (j - base).toNat) * 2 ^ (base + 1074).toNat := by
    rw [Nat.mul_assoc, ← Nat.pow_add, show (j - base).toNat + (base + 1074).toNat = (j + 1074).toNat by omega, e2]
  have hp := Nat.two_pow_pos (base + 1074).toNat
  rw [a1, a2]
  obtain ⟨x, hx⟩ : ∃ x, x = m * 2 ^ (i - base).toNat := ⟨_, rfl⟩
  obtain ⟨y, hy⟩ : ∃ y, y = n * 2 ^ (j - base).toNat := ⟨_, rfl⟩
  rw [← hx, ← hy]
  simp only [compare, compareOfLessAndEq]
  rcases Nat.lt_trichotomy x y with h | h | h
  · rw [if_pos (by omega), if_pos (Nat.mul_lt_mul_of_pos_right h hp)]
  · subst h; simp
  · have h2 := Nat.mul_lt_mul_of_pos_right h hp
    rw [if_neg (by omega), if_neg (by omega), if_neg (by omega), if_neg (by omega)]

/-- 'float64(n)'. -/
theorem ofInt_flw (n : Nat) : floatOfInt .f64 (n : Int) = flw (n * uP 1074) := by
  unfold floatOfInt FloatKind.nearest FloatKind.encode
  show double.write (.number (decide ((n : Int) < 0)) (n : Int).natAbs 0) = _
  rw [decide_eq_false (by omega), Int.natAbs_natCast]
  have h := nearest_uP n 0 (by omega)
  rw [show ((0 : Int) + 1074).toNat = 1074 by omega] at h
  exact h

theorem read_pow (a : Nat) (ha : a ≤ 60) : double.read (flw (uP a * uP 1074)) = .number false 4503599627370496 ((a : Int) - 52) := by
  have h0 : uP a * uP 1074 ≠ 0 := Nat.mul_ne_zero (Nat.ne_of_gt (uP_pos a)) (Nat.ne_of_gt (uP_pos 1074))
  have hl : (uP a * uP 1074).log2 = a + 1074 := by rw [← uP_add, uP, Nat.log2_two_pow]
  have h52 : (4503599627370496 : Nat) = uP 52 := by decide
  have := read_flw (N := uP a * uP 1074) (k := uP 52) (d := a + 1022) h0 (by omega) (by rw [← uP_add]; show _ = uP 52 * uP (a + 1022); rw [← uP_add]; exact congrArg uP (by omega)) (by omega)
  have e : (-1074 + ((a + 1022 : Nat) : Int)) = (a : Int) - 52 := by omega
  rw [this, e, ← h52]

/-- Divided by 2 to a. -/
theorem flw_div {A B a : Nat} (ha : a ≤ 60) (hA : FitU A) (hAB : A = B * uP a) (hbig : A = 0 ∨ uP 900 ≤ A) : double.div (flw A) (flw (uP a * uP 1074)) = some (flw B) := by
  unfold Format.div
  rw [read_pow a ha]
  have hfb : double.fractionBits = 52 := rfl
  have l52 : Nat.log2 4503599627370496 = 52 := Nat.log2_two_pow (n := 52)
  by_cases h0 : A = 0
  · subst h0
    have hB : B = 0 := by
      rcases Nat.mul_eq_zero.1 hAB.symm with h | h
      · exact h
      · exact absurd h (Nat.ne_of_gt (uP_pos a))
    subst hB
    rw [read_zero]
    unfold Datum.quotient
    dsimp only
    rw [if_neg (by decide)]
    simp [Format.write, Format.nearest, flw, Nat.shiftLeft_eq]
  · obtain ⟨k, j, hN, hk, hj⟩ := hA
    have hk0 : k ≠ 0 := fun e => h0 (by rw [hN, e, Nat.zero_mul])
    have hlog : A.log2 = k.log2 + j := by rw [hN]; exact log2_scale k j hk0
    have hkl : k.log2 < 53 := (Nat.log2_lt hk0).2 hk
    have hbl : 900 ≤ A.log2 := le_log2_uP h0 (hbig.resolve_left h0)
    obtain ⟨d, hd⟩ : ∃ d, d = A.log2 - 52 := ⟨_, rfl⟩
    have hdj : d ≤ j := by omega
    obtain ⟨m, hm⟩ : ∃ m, m = k * 2 ^ (j - d) := ⟨_, rfl⟩
    have hN2 : A = m * 2 ^ d := by rw [hm, hN, Nat.mul_assoc, ← Nat.pow_add, Nat.sub_add_cancel hdj]
    have hm0 : m ≠ 0 := fun e => h0 (by rw [hN2, e, Nat.zero_mul])
    have hml : m.log2 = 52 := by
      have := log2_scale m d hm0
      rw [← hN2] at this
      omega
    rw [read_flw h0 hd hN2 (by omega), hfb]
    unfold Datum.quotient
    dsimp only
    rw [if_neg (by decide), hml, l52]
    have e1 : m <<< (52 + 2 + 52 - 52) = (m * 4) * 4503599627370496 := by
      rw [Nat.shiftLeft_eq]
      omega
    rw [e1, Nat.mul_div_cancel _ (by decide), Nat.mul_mod_left]
    simp only [bne_self_eq_false, Bool.toNat_false, Nat.add_zero, Option.map_some, Format.write]
    rw [nearest_uP _ _ (by omega)]
    refine congrArg (fun x => some (flw x)) ?_
    have hB : B * uP a = m * uP d := by rw [← hAB, hN2, uP]
    apply Nat.eq_of_mul_eq_mul_right (uP_pos a)
    rw [hB]
    rw [Nat.mul_assoc, ← uP_add, show 2 * (m * 4) = m * uP 3 by rw [show uP 3 = 8 by decide]; omega, Nat.mul_assoc, ← uP_add]
    refine congrArg (fun q => m * uP q) ?_
    omega

end Go.Proofs.Ytgpaajdfkekjiab
