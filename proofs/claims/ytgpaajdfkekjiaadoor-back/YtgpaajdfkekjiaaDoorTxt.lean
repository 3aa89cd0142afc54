/-
  The text of a right circuit, line by line, in plain bytes.
-/
import Derived.Test.YtgpaajdfkekjiaaDoorLine
import Derived.Test.YtgpaajdfkekjiaaDoorRight2
namespace Go.Proofs.YtgpaajdfkekjiaaDoor
open Go.RowKit

def txtHead (n l g o : Nat) : List UInt8 := [97, 97, 103, 32] ++ lineB [n + l + g, n, l, o, g]
def txtIn : Nat → List UInt8
  | 0 => []
  | k + 1 => txtIn k ++ lineB [2 * k + 2]
def txtLatch (n : Nat) (ls : List (Int × Int)) : Nat → List UInt8
  | 0 => []
  | k + 1 => txtLatch n ls k ++ lineB [2 * (n + k) + 2, (ls.getD k (0, 0)).1.toNat, (ls.getD k (0, 0)).2.toNat]
def txtOut (os : List Int) : Nat → List UInt8
  | 0 => []
  | k + 1 => txtOut os k ++ lineB [(os.getD k 0).toNat]
def txtGate (m : Nat) (gs : List (Int × Int)) : Nat → List UInt8
  | 0 => []
  | k + 1 => txtGate m gs k ++ lineB [2 * (m + k) + 2, (gs.getD k (0, 0)).1.toNat, (gs.getD k (0, 0)).2.toNat]
def txt (n : Nat) (ls gs : List (Int × Int)) (os : List Int) : List UInt8 :=
  txtHead n ls.length gs.length os.length ++ txtIn n ++ txtLatch n ls ls.length ++ txtOut os os.length ++ txtGate (n + ls.length) gs gs.length

theorem lineB_len (ns : List Nat) (h : ∀ i, i < ns.length → ns.getD i 0 < 100) : (lineB ns).length ≤ 3 * ns.length + 1 := by
  have := numsTo_len ns ns.length h
  simp only [lineB, List.length_append, List.length_cons, List.length_nil]
  omega

theorem all1 {a : Nat} (ha : a < 100) : ∀ i, i < [a].length → [a].getD i 0 < 100 := fun i hi => by
  match i, hi with
  | 0, _ => exact ha
theorem all3 {a b c : Nat} (ha : a < 100) (hb : b < 100) (hc : c < 100) : ∀ i, i < [a, b, c].length → [a, b, c].getD i 0 < 100 := fun i hi => by
  match i, hi with
  | 0, _ => exact ha
  | 1, _ => exact hb
  | 2, _ => exact hc
theorem all5 {a b c d e : Nat} (ha : a < 100) (hb : b < 100) (hc : c < 100) (hd : d < 100) (he : e < 100) : ∀ i, i < [a, b, c, d, e].length → [a, b, c, d, e].getD i 0 < 100 := fun i hi => by
  match i, hi with
  | 0, _ => exact ha
  | 1, _ => exact hb
  | 2, _ => exact hc
  | 3, _ => exact hd
  | 4, _ => exact he

/-- The numbers of a right circuit, as naturals below a hundred. -/
structure Small (n : Nat) (ls gs : List (Int × Int)) (os : List Int) : Prop where
  n4 : n ≤ 4
  l4 : ls.length ≤ 4
  o4 : os.length ≤ 4
  g30 : gs.length ≤ 30
  l1 : ∀ i, i < ls.length → ((((ls.getD i (0, 0)).1.toNat : Nat) : Int) = (ls.getD i (0, 0)).1 ∧ (ls.getD i (0, 0)).1.toNat < 100)
  l2 : ∀ i, i < ls.length → ((((ls.getD i (0, 0)).2.toNat : Nat) : Int) = (ls.getD i (0, 0)).2 ∧ (ls.getD i (0, 0)).2.toNat < 100)
  o1 : ∀ i, i < os.length → ((((os.getD i 0).toNat : Nat) : Int) = os.getD i 0 ∧ (os.getD i 0).toNat < 100)
  g1 : ∀ i, i < gs.length → ((((gs.getD i (0, 0)).1.toNat : Nat) : Int) = (gs.getD i (0, 0)).1 ∧ (gs.getD i (0, 0)).1.toNat < 100)
  g2 : ∀ i, i < gs.length → ((((gs.getD i (0, 0)).2.toNat : Nat) : Int) = (gs.getD i (0, 0)).2 ∧ (gs.getD i (0, 0)).2.toNat < 100)

theorem small_of {n : Nat} {ls gs : List (Int × Int)} {os : List Int} (hr : rightB n ls gs os = true) : Small n ls gs os := by
  obtain ⟨⟨_, hn4, hl4, ho4, hg30⟩, hokl, hokg, hoko⟩ := rightB_pos hr
  refine ⟨by omega, hl4, ho4, hg30, fun i hi => ?_, fun i hi => ?_, fun i hi => ?_, fun i hi => ?_, fun i hi => ?_⟩
  · have h := hokl i hi
    simp only [latchOk, Bool.and_eq_true] at h
    have := inB_pos h.1
    omega
  · have h := hokl i hi
    simp only [latchOk, Bool.and_eq_true] at h
    have := inB_pos h.2
    omega
  · have := inB_pos (hoko i hi)
    omega
  · have h := hokg i hi
    simp only [gateOk, Bool.and_eq_true] at h
    have := inB_pos h.1
    omega
  · have h := hokg i hi
    simp only [gateOk, Bool.and_eq_true] at h
    have := inB_pos h.2
    omega

theorem txtHead_len {n : Nat} {ls gs : List (Int × Int)} {os : List Int} (s : Small n ls gs os) : (txtHead n ls.length gs.length os.length).length ≤ 20 := by
  have := lineB_len [n + ls.length + gs.length, n, ls.length, os.length, gs.length] (all5 (by have := s.n4; have := s.l4; have := s.g30; omega) (by have := s.n4; omega) (by have := s.l4; omega) (by have := s.o4; omega) (by have := s.g30; omega))
  simp only [txtHead, List.length_append, List.length_cons, List.length_nil] at this ⊢
  omega
theorem txtIn_len (k : Nat) (h : k ≤ 4) : (txtIn k).length ≤ 4 * k := by
  induction k with
  | zero => simp [txtIn]
  | succ k ih =>
    have h1 := ih (by omega)
    have := lineB_len [2 * k + 2] (all1 (by omega))
    simp only [txtIn, List.length_append, List.length_cons, List.length_nil] at this ⊢
    omega
theorem txtLatch_len {n : Nat} {ls gs : List (Int × Int)} {os : List Int} (s : Small n ls gs os) (k : Nat) (h : k ≤ ls.length) : (txtLatch n ls k).length ≤ 10 * k := by
  induction k with
  | zero => simp [txtLatch]
  | succ k ih =>
    have h1 := ih (by omega)
    have := lineB_len [2 * (n + k) + 2, (ls.getD k (0, 0)).1.toNat, (ls.getD k (0, 0)).2.toNat] (all3 (by have := s.n4; have := s.l4; omega) (s.l1 k (by omega)).2 (s.l2 k (by omega)).2)
    simp only [txtLatch, List.length_append, List.length_cons, List.length_nil] at this ⊢
    omega
theorem txtOut_len {n : Nat} {ls gs : List (Int × Int)} {os : List Int} (s : Small n ls gs os) (k : Nat) (h : k ≤ os.length) : (txtOut os k).length ≤ 10 * k := by
  induction k with
  | zero => simp [txtOut]
  | succ k ih =>
    have h1 := ih (by omega)
    have := lineB_len [(os.getD k 0).toNat] (all1 (s.o1 k (by omega)).2)
    simp only [txtOut, List.length_append, List.length_cons, List.length_nil] at this ⊢
    omega
theorem txtGate_len {n : Nat} {ls gs : List (Int × Int)} {os : List Int} (s : Small n ls gs os) (k : Nat) (h : k ≤ gs.length) : (txtGate (n + ls.length) gs k).length ≤ 10 * k := by
  induction k with
  | zero => simp [txtGate]
  | succ k ih =>
    have h1 := ih (by omega)
    have := lineB_len [2 * (n + ls.length + k) + 2, (gs.getD k (0, 0)).1.toNat, (gs.getD k (0, 0)).2.toNat] (all3 (by have := s.n4; have := s.l4; have := s.g30; omega) (s.g1 k (by omega)).2 (s.g2 k (by omega)).2)
    simp only [txtGate, List.length_append, List.length_cons, List.length_nil] at this ⊢
    omega

end Go.Proofs.YtgpaajdfkekjiaaDoor
