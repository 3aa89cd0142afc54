/-
  Chances in plain words: what is counted of a circuit, and what is answered; bounds.
-/
import Derived.Test.YtgpaajdfkekjiabChP
import Derived.Test.YtgpaajdfkekjiabDuoC
namespace Go.Proofs.Ytgpaajdfkekjiab

/-- The state behind a step; an output's bit. -/
def nxF (n : Nat) (ls gs : List (Int × Int)) (s i : Nat) : Nat := nextOf ls (vals n ls.length gs s i) ls.length
def obF (n : Nat) (ls gs : List (Int × Int)) (os : List Int) (k s i : Nat) : Nat := outOf os (vals n ls.length gs s i) os.length / 2 ^ k % 2
/-- In how many ways a state is come to; in how many an output is 1. -/
def chW (n : Nat) (ls gs : List (Int × Int)) (k t : Nat) : Nat := ways (nxF n ls gs) (2 ^ n) (startOf ls ls.length) k t
def chN (n : Nat) (ls gs : List (Int × Int)) (os : List Int) (k i : Nat) : Nat := allG (2 ^ n) (obF n ls gs os i) (chW n ls gs k)
/-- What Chances answers of a right circuit. -/
def chL (n : Nat) (ls gs : List (Int × Int)) (os : List Int) (steps : Nat) : List Nat := (List.range os.length).map fun i => fq (chN n ls gs os (steps - 1) i) (n * steps)
theorem chL_len (n : Nat) (ls gs : List (Int × Int)) (os : List Int) (steps : Nat) : (chL n ls gs os steps).length = os.length := by simp [chL]

section
variable {n : Nat} {ls gs : List (Int × Int)} {os : List Int}
theorem pow40 {n k : Nat} (hn : n ≤ 4) (hk : k ≤ 10) : (2 ^ n) ^ k ≤ 1099511627776 := by
  rw [← Nat.pow_mul]
  have : n * k ≤ 40 := Nat.le_trans (Nat.mul_le_mul hn hk) (by omega)
  exact Nat.le_trans (Nat.pow_le_pow_right (by omega) this) (by decide)
theorem nxF_lt (hl : ls.length ≤ 4) (s i : Nat) : nxF n ls gs s i < 16 := next_lt16 _ hl
theorem obF_le (k s i : Nat) : obF n ls gs os k s i ≤ 1 := by unfold obF; omega
theorem chW_zero (t : Nat) : chW n ls gs 0 t = if t = startOf ls ls.length then 1 else 0 := rfl
theorem chW_succ (k t : Nat) : chW n ls gs (k + 1) t = wayStep (nxF n ls gs) (2 ^ n) (chW n ls gs k) t := rfl
theorem chW_sum (hl : ls.length ≤ 4) (k : Nat) : sumN (chW n ls gs k) 16 = (2 ^ n) ^ k := ways_sum _ _ (nxF_lt hl) _ (start_lt16 hl) k
theorem chW_le (hn : n ≤ 4) (hl : ls.length ≤ 4) {k t : Nat} (hk : k ≤ 10) (ht : t < 16) : chW n ls gs k t ≤ 1099511627776 :=
  Nat.le_trans (ways_le _ _ (nxF_lt hl) _ (start_lt16 hl) k t ht) (pow40 hn hk)
theorem allG_le40 {g : Nat → Nat → Nat} (hg : ∀ s i, g s i ≤ 1) (hn : n ≤ 4) (hl : ls.length ≤ 4) {k : Nat} (hk : k + 1 ≤ 10) : allG (2 ^ n) g (chW n ls gs k) ≤ 1099511627776 := by
  refine Nat.le_trans (allG_le (2 ^ n) hg _) ?_
  rw [chW_sum hl, Nat.mul_comm, ← Nat.pow_succ]
  exact pow40 hn hk
theorem partG_le40 {g : Nat → Nat → Nat} (hg : ∀ s i, g s i ≤ 1) (hn : n ≤ 4) (hl : ls.length ≤ 4) {k s i : Nat} (hk : k + 1 ≤ 10) (hs : s < 16) (hi : i ≤ 2 ^ n) : partG (2 ^ n) g (chW n ls gs k) s i ≤ 1099511627776 :=
  Nat.le_trans (partG_le (2 ^ n) hs hi) (allG_le40 hg hn hl hk)
theorem partW_le40 (hn : n ≤ 4) (hl : ls.length ≤ 4) {k s i : Nat} (hk : k + 1 ≤ 10) (hs : s < 16) (hi : i ≤ 2 ^ n) (t : Nat) : partW (nxF n ls gs) (2 ^ n) (chW n ls gs k) s i t ≤ 1099511627776 := by
  rw [partW_G]
  exact partG_le40 (fun s i => by by_cases e : nxF n ls gs s i = t <;> simp [e]) hn hl hk hs hi
theorem chN_le (hn : n ≤ 4) (hl : ls.length ≤ 4) {k : Nat} (hk : k + 1 ≤ 10) (i : Nat) : chN n ls gs os k i ≤ 1099511627776 := allG_le40 (fun s j => obF_le i s j) hn hl hk
/-- Each answer is the same as itself. -/
theorem chL_self (hn : n ≤ 4) (hl : ls.length ≤ 4) {steps : Nat} (h1 : 1 ≤ steps) (hs : steps ≤ 10) : ∀ i, i < (chL n ls gs os steps).length → Ieee.double.order ((chL n ls gs os steps).getD i 0) ((chL n ls gs os steps).getD i 0) = some .eq := fun i hi => by
  rw [chL_len] at hi
  have hle := chN_le (os := os) (gs := gs) hn hl (k := steps - 1) (by omega) i
  have e : (chL n ls gs os steps).getD i 0 = fq (chN n ls gs os (steps - 1) i) (n * steps) := by simp [chL, hi]
  rw [e, fq_order (by omega) (by omega)]
  simp
end

end Go.Proofs.Ytgpaajdfkekjiab
