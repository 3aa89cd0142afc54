/-
  A line of numbers below a hundred: what text.writeLine writes behind a builder's bytes.
  The text of a right circuit, line by line, in plain bytes.
-/
import Derived.Test.YtgpaajdfkekjiaaDoorBuild
import Derived.Test.YtgpaajdfkekjiaaDoorBase
import Derived.Test.YtgpaajdfkekjiaaDoorNums
import Derived.Test.YtgpaajdfkekjiaaDoorMRight
namespace Go.Proofs.YtgpaajdfkekjiaaDoor
open Go.RowKit

theorem ivals_cell {w : World} {nb : Nat} {ns : List Nat} {fz : Nat × Nat} {T : TypeId} (hn : w.heap[nb]? = some (.cells (ivals ns).toArray T fz)) (k : Nat) (hk : k < ns.length) : w.cell? ⟨nb, k, none⟩ = some (.int .i64 (ns.getD k 0 : Nat)) := by
  rw [Lib.cell_of_heap hn]
  simp [ivals, hk]

set_option maxHeartbeats 1000000 in
set_option maxRecDepth 100000 in
theorem writeLine_any (B b nb : Nat) (acc : List UInt8) (ns : List Nat) (fz : Nat × Nat) (w : World) (hI : Lib.IsBuilderF 67 5 B b (Lib.byteCells acc) w) (hB : B ≤ w.heap.size)
    (hn : w.heap[nb]? = some (.cells (ivals ns).toArray 3 fz)) (hnb : nb ≠ b) (h100 : ∀ i, i < ns.length → ns.getD i 0 < 100) (h5 : ns.length ≤ 5) (ha : acc.length ≤ 100000) :
    Calls Tryd.prog 32 #[.pointer (some ⟨b, 0, none⟩), .slice (some ⟨nb, 0, none⟩) ns.length ns.length] w fun e w' =>
      e = .returned (.tuple #[]) ∧ Lib.IsBuilderF 67 5 B b (Lib.byteCells (acc ++ lineB ns)) w' ∧ Below B w w' ∧ Lib.OthersKept 5 (some b) w w' := by
  go_enter Tryd.func32, Tryd.ntmps32
  go_wp2
  go_loopw [4, 5, 8] (fun _ _ i wr => ∃ k : Nat, k ≤ ns.length ∧ i = .int .i64 k ∧ Lib.IsBuilderF 67 5 B b (Lib.byteCells (acc ++ numsTo ns k)) wr ∧ Below B w wr ∧ Lib.OthersKept 5 (some b) w wr)
    (fun _ _ i _ => ns.length - (intOf i).toNat)
  case atStart => exact ⟨0, Nat.zero_le _, rfl, by simpa [numsTo] using hI, Below.refl _ _, Lib.OthersKept.refl _ _ _⟩
  case round =>
    obtain ⟨k, hk, rfl, hI1, hbel, hoth⟩ := hrel
    have hBr : B ≤ wr.heap.size := Nat.le_trans hB hbel.size
    have hlen := numsTo_len ns k (fun i hi => h100 i (by omega))
    have hnr : wr.heap[nb]? = some (.cells (ivals ns).toArray 3 fz) := hoth nb _ hn (by simpa using hnb) (fun c fz' h => by simp at h)
    by_cases hk2 : k < ns.length
    · have hc := ivals_cell hnr k hk2
      obtain ⟨X, hX⟩ : ∃ X, X = ns.getD k 0 := ⟨_, rfl⟩
      have hX1 : X < 100 := by rw [hX]; exact h100 k hk2
      have hXl := dec_len X hX1
      rw [← hX] at hc
      by_cases hk0 : 0 < k
      · have HX : Hid (acc ++ numsTo ns (k + 1) = acc ++ numsTo ns k ++ [32] ++ Lib.decDigits X) := by unfold Hid; rw [numsTo_next ns k hk0, ← hX]; simp
        clear hX
        go_wp2_with (first | (go_at_call 55; refine (writeByte B b _ 32 _ hI1 (by simp; omega) hBr 32 rfl).mono ?_; rintro e w1 ⟨rfl, hI2, b2, o2⟩; have hB1 : B ≤ w1.heap.size := Nat.le_trans hBr b2.size) | (go_at_call 56; refine (itoa_is X hX1 _).mono ?_; rintro e w2 ⟨rfl, hw2⟩; have hw2 := hw2.symm; subst hw2) | (go_at_call 31; refine (writeString B b _ (Lib.decDigits X) _ hI2 (by simp; omega) hB1).mono ?_; rintro e w3 ⟨rfl, hI3, b3, o3⟩))
        go_roundw
        case rel => exact ⟨k + 1, by omega, by go_num, by rw [HX.out]; exact hI3, (hbel.trans b2).trans b3, (hoth.trans o2).trans o3⟩
        case measure => simp [intOf]; omega
      · obtain rfl : k = 0 := by omega
        have HX : Hid (acc ++ numsTo ns (0 + 1) = acc ++ numsTo ns 0 ++ Lib.decDigits X) := by unfold Hid; rw [numsTo_first ns, ← hX]; simp [numsTo]
        clear hX
        go_wp2_with (first | (go_at_call 56; refine (itoa_is X hX1 _).mono ?_; rintro e w2 ⟨rfl, hw2⟩; have hw2 := hw2.symm; subst hw2) | (go_at_call 31; refine (writeString B b _ (Lib.decDigits X) _ hI1 (by simp; omega) hBr).mono ?_; rintro e w3 ⟨rfl, hI3, b3, o3⟩))
        go_roundw
        case rel => exact ⟨0 + 1, by omega, by go_num, by rw [HX.out]; exact hI3, hbel.trans b3, hoth.trans o3⟩
        case measure => simp [intOf]; omega
    · obtain rfl : k = ns.length := by omega
      go_wp2_with (go_at_call 55; refine (writeByte B b _ 10 _ hI1 (by simp; omega) hBr 10 rfl).mono ?_; rintro e w1 ⟨rfl, hI2, b2, o2⟩)
      go_end0
      exact ⟨rfl, by rw [lineB, ← List.append_assoc]; exact hI2, hbel.trans b2, hoth.trans o2⟩

end Go.Proofs.YtgpaajdfkekjiaaDoor

namespace Go.Proofs.YtgpaajdfkekjiaaDoor
open Go.RowKit

def txtHead (n l g o : Nat) : List UInt8 := [97, 97, 103, 32] ++ lineB [n + l + g, n, l, o, g]
def txtIn : Nat → List UInt8
  | 0 => []
  | k + 1 => txtIn k ++ lineB [2 * k + 2]
def txtLatch (n : Nat) (ls : List (Int × Int)) : Nat → List UInt8
  | 0 => []
  | k + 1 => txtLatch n ls k ++ lineB [2 * (n + k) + 2, (ls.getD k (0, 0)).1.toNat, (ls.getD k (0, 0)).2.toNat]
def txtOut (os : List Int) : Nat → List UInt8
  | 0 => []
  | k + 1 => txtOut os k ++ lineB [(os.getD k 0).toNat]
def txtGate (m : Nat) (gs : List (Int × Int)) : Nat → List UInt8
  | 0 => []
  | k + 1 => txtGate m gs k ++ lineB [2 * (m + k) + 2, (gs.getD k (0, 0)).1.toNat, (gs.getD k (0, 0)).2.toNat]
def txt (n : Nat) (ls gs : List (Int × Int)) (os : List Int) : List UInt8 :=
  txtHead n ls.length gs.length os.length ++ txtIn n ++ txtLatch n ls ls.length ++ txtOut os os.length ++ txtGate (n + ls.length) gs gs.length

theorem lineB_len (ns : List Nat) (h : ∀ i, i < ns.length → ns.getD i 0 < 100) : (lineB ns).length ≤ 3 * ns.length + 1 := by
  have := numsTo_len ns ns.length h
  simp only [lineB, List.length_append, List.length_cons, List.length_nil]
  omega

theorem all1 {a : Nat} (ha : a < 100) : ∀ i, i < [a].length → [a].getD i 0 < 100 := fun i hi => by
  match i, hi with
  | 0, _ => exact ha
theorem all3 {a b c : Nat} (ha : a < 100) (hb : b < 100) (hc : c < 100) : ∀ i, i < [a, b, c].length → [a, b, c].getD i 0 < 100 := fun i hi => by
  match i, hi with
  | 0, _ => exact ha
  | 1, _ => exact hb
  | 2, _ => exact hc
theorem all5 {a b c d e : Nat} (ha : a < 100) (hb : b < 100) (hc : c < 100) (hd : d < 100) (he : e < 100) : ∀ i, i < [a, b, c, d, e].length → [a, b, c, d, e].getD i 0 < 100 := fun i hi => by
  match i, hi with
  | 0, _ => exact ha
  | 1, _ => exact hb
  | 2, _ => exact hc
  | 3, _ => exact hd
  | 4, _ => exact he

/-- The numbers of a right circuit, as naturals below a hundred. -/
structure Small (n : Nat) (ls gs : List (Int × Int)) (os : List Int) : Prop where
  n4 : n ≤ 4
  l4 : ls.length ≤ 4
  o4 : os.length ≤ 4
  g30 : gs.length ≤ 30
  l1 : ∀ i, i < ls.length → ((((ls.getD i (0, 0)).1.toNat : Nat) : Int) = (ls.getD i (0, 0)).1 ∧ (ls.getD i (0, 0)).1.toNat < 100)
  l2 : ∀ i, i < ls.length → ((((ls.getD i (0, 0)).2.toNat : Nat) : Int) = (ls.getD i (0, 0)).2 ∧ (ls.getD i (0, 0)).2.toNat < 100)
  o1 : ∀ i, i < os.length → ((((os.getD i 0).toNat : Nat) : Int) = os.getD i 0 ∧ (os.getD i 0).toNat < 100)
  g1 : ∀ i, i < gs.length → ((((gs.getD i (0, 0)).1.toNat : Nat) : Int) = (gs.getD i (0, 0)).1 ∧ (gs.getD i (0, 0)).1.toNat < 100)
  g2 : ∀ i, i < gs.length → ((((gs.getD i (0, 0)).2.toNat : Nat) : Int) = (gs.getD i (0, 0)).2 ∧ (gs.getD i (0, 0)).2.toNat < 100)

theorem small_of {n : Nat} {ls gs : List (Int × Int)} {os : List Int} (hr : rightB n ls gs os = true) : Small n ls gs os := by
  obtain ⟨⟨_, hn4, hl4, ho4, hg30⟩, hokl, hokg, hoko⟩ := rightB_pos hr
  refine ⟨by omega, hl4, ho4, hg30, fun i hi => ?_, fun i hi => ?_, fun i hi => ?_, fun i hi => ?_, fun i hi => ?_⟩
  · have h := hokl i hi
    simp only [latchOk, Bool.and_eq_true] at h
    have := inB_pos h.1
    omega
  · have h := hokl i hi
    simp only [latchOk, Bool.and_eq_true] at h
    have := inB_pos h.2
    omega
  · have := inB_pos (hoko i hi)
    omega
  · have h := hokg i hi
    simp only [gateOk, Bool.and_eq_true] at h
    have := inB_pos h.1
    omega
  · have h := hokg i hi
    simp only [gateOk, Bool.and_eq_true] at h
    have := inB_pos h.2
    omega

theorem txtHead_len {n : Nat} {ls gs : List (Int × Int)} {os : List Int} (s : Small n ls gs os) : (txtHead n ls.length gs.length os.length).length ≤ 20 := by
  have := lineB_len [n + ls.length + gs.length, n, ls.length, os.length, gs.length] (all5 (by have := s.n4; have := s.l4; have := s.g30; omega) (by have := s.n4; omega) (by have := s.l4; omega) (by have := s.o4; omega) (by have := s.g30; omega))
  simp only [txtHead, List.length_append, List.length_cons, List.length_nil] at this ⊢
  omega
theorem txtIn_len (k : Nat) (h : k ≤ 4) : (txtIn k).length ≤ 4 * k := by
  induction k with
  | zero => simp [txtIn]
  | succ k ih =>
    have h1 := ih (by omega)
    have := lineB_len [2 * k + 2] (all1 (by omega))
    simp only [txtIn, List.length_append, List.length_cons, List.length_nil] at this ⊢
    omega
theorem txtLatch_len {n : Nat} {ls gs : List (Int × Int)} {os : List Int} (s : Small n ls gs os) (k : Nat) (h : k ≤ ls.length) : (txtLatch n ls k).length ≤ 10 * k := by
  induction k with
  | zero => simp [txtLatch]
  | succ k ih =>
    have h1 := ih (by omega)
    have := lineB_len [2 * (n + k) + 2, (ls.getD k (0, 0)).1.toNat, (ls.getD k (0, 0)).2.toNat] (all3 (by have := s.n4; have := s.l4; omega) (s.l1 k (by omega)).2 (s.l2 k (by omega)).2)
    simp only [txtLatch, List.length_append, List.length_cons, List.length_nil] at this ⊢
    omega
theorem txtOut_len {n : Nat} {ls gs : List (Int × Int)} {os : List Int} (s : Small n ls gs os) (k : Nat) (h : k ≤ os.length) : (txtOut os k).length ≤ 10 * k := by
  induction k with
  | zero => simp [txtOut]
  | succ k ih =>
    have h1 := ih (by omega)
    have := lineB_len [(os.getD k 0).toNat] (all1 (s.o1 k (by omega)).2)
    simp only [txtOut, List.length_append, List.length_cons, List.length_nil] at this ⊢
    omega
theorem txtGate_len {n : Nat} {ls gs : List (Int × Int)} {os : List Int} (s : Small n ls gs os) (k : Nat) (h : k ≤ gs.length) : (txtGate (n + ls.length) gs k).length ≤ 10 * k := by
  induction k with
  | zero => simp [txtGate]
  | succ k ih =>
    have h1 := ih (by omega)
    have := lineB_len [2 * (n + ls.length + k) + 2, (gs.getD k (0, 0)).1.toNat, (gs.getD k (0, 0)).2.toNat] (all3 (by have := s.n4; have := s.l4; have := s.g30; omega) (s.g1 k (by omega)).2 (s.g2 k (by omega)).2)
    simp only [txtGate, List.length_append, List.length_cons, List.length_nil] at this ⊢
    omega

end Go.Proofs.YtgpaajdfkekjiaaDoor
