/-
  Plain mathematics of circuits, with no program in it: what a right circuit is, what a step and a run tell; bits of numbers.
-/
import Derived.WalkKit
import Derived.Laws.BitsAllLaws
namespace Go.Proofs.Ytgpaajdfkekjiab

theorem wrap_i64' (n : Int) : IntKind.i64.wrap n = (n + 9223372036854775808) % 18446744073709551616 - 9223372036854775808 := by
  simp [IntKind.wrap, IntKind.bits, IntKind.signed]; omega

theorem i64_and_nat (a b : Nat) (ha : a < 9223372036854775808) (hb : b < 9223372036854775808) : bits .and .i64 (a : Int) (b : Int) = ((a &&& b : Nat) : Int) := by
  have hx : a &&& b < 2 ^ 63 := Nat.and_lt_two_pow _ (by omega)
  show IntKind.i64.wrap ((BitVec.ofInt 64 (a : Int) &&& BitVec.ofInt 64 (b : Int)).toNat : Int) = _
  rw [BitVec.toNat_and, ofInt_u64 a (by omega), ofInt_u64 b (by omega), wrap_i64']
  omega
theorem i64_or_nat (a b : Nat) (ha : a < 9223372036854775808) (hb : b < 9223372036854775808) : bits .or .i64 (a : Int) (b : Int) = ((a ||| b : Nat) : Int) := by
  have hx : a ||| b < 2 ^ 63 := Nat.or_lt_two_pow (by omega) (by omega)
  show IntKind.i64.wrap ((BitVec.ofInt 64 (a : Int) ||| BitVec.ofInt 64 (b : Int)).toNat : Int) = _
  rw [BitVec.toNat_or, ofInt_u64 a (by omega), ofInt_u64 b (by omega), wrap_i64']
  omega
theorem i64_xor_nat (a b : Nat) (ha : a < 9223372036854775808) (hb : b < 9223372036854775808) : bits .xor .i64 (a : Int) (b : Int) = ((a ^^^ b : Nat) : Int) := by
  have hx : a ^^^ b < 2 ^ 63 := Nat.xor_lt_two_pow (by omega) (by omega)
  show IntKind.i64.wrap ((BitVec.ofInt 64 (a : Int) ^^^ BitVec.ofInt 64 (b : Int)).toNat : Int) = _
  rw [BitVec.toNat_xor, ofInt_u64 a (by omega), ofInt_u64 b (by omega), wrap_i64']
  omega
theorem i64_and1 (a : Nat) (ha : a < 9223372036854775808) : bits .and .i64 (a : Int) 1 = ((a % 2 : Nat) : Int) := by
  have := i64_and_nat a 1 ha (by omega)
  rw [nat_mask1] at this
  simpa using this

/-- 'inB n m': n is one of 0 to m. -/
def inB (n m : Int) : Bool := decide (0 ≤ n ∧ n ≤ m)
theorem inB_pos {n m : Int} (h : inB n m = true) : 0 ≤ n ∧ n ≤ m := by simpa [inB] using h
theorem inB_mk {n m : Int} (h0 : 0 ≤ n) (h1 : n ≤ m) : inB n m = true := by simp [inB, h0, h1]
theorem inB_neg {n m : Int} (h : inB n m = false) : n < 0 ∨ m < n := by simp [inB] at h; omega

def sizesB (i l o g : Int) : Bool := inB i 4 && inB l 4 && inB o 4 && inB g 30

/-- A signal's value, out of the variables' values. -/
def sigv (s : Int) (vs : List Nat) : Nat := (vs.getD (s / 2).toNat 0 + s.toNat % 2) % 2

def latchOk (last : Int) (p : Int × Int) : Bool := inB p.1 (2 * last + 1) && inB p.2 1
def gateOk (before : Int) (p : Int × Int) : Bool := inB p.1 (2 * before + 1) && inB p.2 (2 * before + 1)
def latchesB (last : Int) (ls : List (Int × Int)) : Bool := decide (∀ i, i < ls.length → latchOk last (ls.getD i (0, 0)) = true)
def gatesB (before : Int) (gs : List (Int × Int)) : Bool := decide (∀ i, i < gs.length → gateOk (before + i) (gs.getD i (0, 0)) = true)
def outsB (last : Int) (os : List Int) : Bool := decide (∀ i, i < os.length → inB (os.getD i 0) (2 * last + 1) = true)
/-- Is the circuit right? -/
def rightB (n : Int) (ls gs : List (Int × Int)) (os : List Int) : Bool :=
  sizesB n ls.length os.length gs.length && latchesB (n + ls.length + gs.length) ls && gatesB (n + ls.length) gs && outsB (n + ls.length + gs.length) os

theorem latchesB_false {last : Int} {ls : List (Int × Int)} {k : Nat} (hk : k < ls.length) (h : latchOk last (ls.getD k (0, 0)) = false) : latchesB last ls = false := by
  unfold latchesB; rw [decide_eq_false_iff_not]; intro hh; have := hh k hk; rw [h] at this; cases this
theorem gatesB_false {b : Int} {gs : List (Int × Int)} {k : Nat} (hk : k < gs.length) (h : gateOk (b + k) (gs.getD k (0, 0)) = false) : gatesB b gs = false := by
  unfold gatesB; rw [decide_eq_false_iff_not]; intro hh; have := hh k hk; rw [h] at this; cases this
theorem outsB_false {last : Int} {os : List Int} {k : Nat} (hk : k < os.length) (h : inB (os.getD k 0) (2 * last + 1) = false) : outsB last os = false := by
  unfold outsB; rw [decide_eq_false_iff_not]; intro hh; have := hh k hk; rw [h] at this; cases this

/-- Bits put together: bit k is 'f k'. -/
def packN (f : Nat → Nat) : Nat → Nat
  | 0 => 0
  | n + 1 => packN f n + f n * 2 ^ n
theorem packN_lt (f : Nat → Nat) (hf : ∀ k, f k ≤ 1) (n : Nat) : packN f n < 2 ^ n := by
  induction n with
  | zero => simp [packN]
  | succ n ih =>
    have := hf n
    simp only [packN, Nat.pow_succ]
    have h2 : f n * 2 ^ n ≤ 1 * 2 ^ n := Nat.mul_le_mul_right _ this
    omega
theorem packN_or (f : Nat → Nat) (hf : ∀ k, f k ≤ 1) (n : Nat) : packN f n ||| f n * 2 ^ n = packN f (n + 1) := by
  rw [Nat.or_comm, nat_join n (f n * 2 ^ n) (packN f n) (Nat.mul_mod_left _ _) (packN_lt f hf n)]
  simp only [packN]; omega

theorem sigv_le (s : Int) (vs : List Nat) : sigv s vs ≤ 1 := by unfold sigv; omega

/-- The values of the inputs and the latches. -/
def baseVals (n : Nat) (nl : Nat) (state inp : Nat) : List Nat :=
  0 :: ((List.range n).map (fun k => inp / 2 ^ k % 2) ++ (List.range nl).map (fun k => state / 2 ^ k % 2))
/-- .. and of the first gates. -/
def gateVals (gs : List (Int × Int)) (vs : List Nat) : Nat → List Nat
  | 0 => vs
  | k + 1 => gateVals gs vs k ++ [sigv (gs.getD k (0, 0)).1 (gateVals gs vs k) * sigv (gs.getD k (0, 0)).2 (gateVals gs vs k)]
def vals (n : Nat) (nl : Nat) (gs : List (Int × Int)) (state inp : Nat) : List Nat := gateVals gs (baseVals n nl state inp) gs.length

theorem baseVals_len (n nl st inp : Nat) : (baseVals n nl st inp).length = n + nl + 1 := by simp [baseVals]
theorem gateVals_len (gs : List (Int × Int)) (vs : List Nat) (k : Nat) : (gateVals gs vs k).length = vs.length + k := by
  induction k with
  | zero => rfl
  | succ k ih => simp [gateVals, ih]; omega
theorem baseVals_01 (n nl st inp : Nat) : ∀ x ∈ baseVals n nl st inp, x ≤ 1 := by
  intro x hx
  simp only [baseVals, List.mem_cons, List.mem_append, List.mem_map] at hx
  rcases hx with rfl | ⟨k, _, rfl⟩ | ⟨k, _, rfl⟩ <;> omega
theorem gateVals_01 (gs : List (Int × Int)) (vs : List Nat) (h : ∀ x ∈ vs, x ≤ 1) (k : Nat) : ∀ x ∈ gateVals gs vs k, x ≤ 1 := by
  induction k with
  | zero => exact h
  | succ k ih =>
    intro x hx
    simp only [gateVals, List.mem_append, List.mem_singleton] at hx
    rcases hx with hx | rfl
    · exact ih x hx
    · have a := sigv_le (gs.getD k (0, 0)).1 (gateVals gs vs k)
      have b := sigv_le (gs.getD k (0, 0)).2 (gateVals gs vs k)
      exact Nat.le_trans (Nat.mul_le_mul a b) (by omega)

def outOf (os : List Int) (vs : List Nat) (k : Nat) : Nat := packN (fun i => sigv (os.getD i 0) vs) k
def nextOf (ls : List (Int × Int)) (vs : List Nat) (k : Nat) : Nat := packN (fun i => sigv (ls.getD i (0, 0)).1 vs) k
def startOf (ls : List (Int × Int)) (k : Nat) : Nat := packN (fun i => (ls.getD i (0, 0)).2.toNat % 2) k

/-- The state ahead of step k, with these inputs. -/
def stateAt (n : Nat) (ls gs : List (Int × Int)) (ins : List Int) : Nat → Nat
  | 0 => startOf ls ls.length
  | k + 1 => nextOf ls (vals n ls.length gs (stateAt n ls gs ins k) (ins.getD k 0).toNat) ls.length
/-- The outputs of step k. -/
def outAt (n : Nat) (ls gs : List (Int × Int)) (os : List Int) (ins : List Int) (k : Nat) : Nat :=
  outOf os (vals n ls.length gs (stateAt n ls gs ins k) (ins.getD k 0).toNat) os.length

def inputsB (n : Nat) (ins : List Int) : Bool := decide (ins.length ≤ 50 ∧ ∀ i, i < ins.length → inB (ins.getD i 0) (2 ^ n - 1) = true)

end Go.Proofs.Ytgpaajdfkekjiab
