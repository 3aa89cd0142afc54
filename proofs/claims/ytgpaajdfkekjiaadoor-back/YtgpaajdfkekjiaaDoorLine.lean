/-
  A line of numbers below a hundred: what text.writeLine writes behind a builder's bytes.
-/
import Derived.Test.YtgpaajdfkekjiaaDoorBuild
import Derived.Test.YtgpaajdfkekjiaaDoorBase
import Derived.Test.YtgpaajdfkekjiaaDoorNums
namespace Go.Proofs.YtgpaajdfkekjiaaDoor
open Go.RowKit

theorem ivals_cell {w : World} {nb : Nat} {ns : List Nat} {fz : Nat × Nat} {T : TypeId} (hn : w.heap[nb]? = some (.cells (ivals ns).toArray T fz)) (k : Nat) (hk : k < ns.length) : w.cell? ⟨nb, k, none⟩ = some (.int .i64 (ns.getD k 0 : Nat)) := by
  rw [Lib.cell_of_heap hn]
  simp [ivals, hk]

set_option maxHeartbeats 1000000 in
set_option maxRecDepth 100000 in
theorem writeLine_any (B b nb : Nat) (acc : List UInt8) (ns : List Nat) (fz : Nat × Nat) (w : World) (hI : Lib.IsBuilderF 67 5 B b (Lib.byteCells acc) w) (hB : B ≤ w.heap.size)
    (hn : w.heap[nb]? = some (.cells (ivals ns).toArray 3 fz)) (hnb : nb ≠ b) (h100 : ∀ i, i < ns.length → ns.getD i 0 < 100) (h5 : ns.length ≤ 5) (ha : acc.length ≤ 100000) :
    Calls Tryd.prog 32 #[.pointer (some ⟨b, 0, none⟩), .slice (some ⟨nb, 0, none⟩) ns.length ns.length] w fun e w' =>
      e = .returned (.tuple #[]) ∧ Lib.IsBuilderF 67 5 B b (Lib.byteCells (acc ++ lineB ns)) w' ∧ Below B w w' ∧ Lib.OthersKept 5 (some b) w w' := by
  go_enter Tryd.func32, Tryd.ntmps32
  go_wp2
  go_loopw [4, 5, 8] (fun _ _ i wr => ∃ k : Nat, k ≤ ns.length ∧ i = .int .i64 k ∧ Lib.IsBuilderF 67 5 B b (Lib.byteCells (acc ++ numsTo ns k)) wr ∧ Below B w wr ∧ Lib.OthersKept 5 (some b) w wr)
    (fun _ _ i _ => ns.length - (intOf i).toNat)
  case atStart => exact ⟨0, Nat.zero_le _, rfl, by simpa [numsTo] using hI, Below.refl _ _, Lib.OthersKept.refl _ _ _⟩
  case round =>
    obtain ⟨k, hk, rfl, hI1, hbel, hoth⟩ := hrel
    have hBr : B ≤ wr.heap.size := Nat.le_trans hB hbel.size
    have hlen := numsTo_len ns k (fun i hi => h100 i (by omega))
    have hnr : wr.heap[nb]? = some (.cells (ivals ns).toArray 3 fz) := hoth nb _ hn (by simpa using hnb) (fun c fz' h => by simp at h)
    by_cases hk2 : k < ns.length
    · have hc := ivals_cell hnr k hk2
      obtain ⟨X, hX⟩ : ∃ X, X = ns.getD k 0 := ⟨_, rfl⟩
      have hX1 : X < 100 := by rw [hX]; exact h100 k hk2
      have hXl := dec_len X hX1
      rw [← hX] at hc
      by_cases hk0 : 0 < k
      · have HX : Hid (acc ++ numsTo ns (k + 1) = acc ++ numsTo ns k ++ [32] ++ Lib.decDigits X) := by unfold Hid; rw [numsTo_next ns k hk0, ← hX]; simp
        clear hX
        go_wp2_with (first | (go_at_call 55; refine (writeByte B b _ 32 _ hI1 (by simp; omega) hBr 32 rfl).mono ?_; rintro e w1 ⟨rfl, hI2, b2, o2⟩; have hB1 : B ≤ w1.heap.size := Nat.le_trans hBr b2.size) | (go_at_call 56; refine (itoa_is X hX1 _).mono ?_; rintro e w2 ⟨rfl, hw2⟩; have hw2 := hw2.symm; subst hw2) | (go_at_call 31; refine (writeString B b _ (Lib.decDigits X) _ hI2 (by simp; omega) hB1).mono ?_; rintro e w3 ⟨rfl, hI3, b3, o3⟩))
        go_roundw
        case rel => exact ⟨k + 1, by omega, by go_num, by rw [HX.out]; exact hI3, (hbel.trans b2).trans b3, (hoth.trans o2).trans o3⟩
        case measure => simp [intOf]; omega
      · obtain rfl : k = 0 := by omega
        have HX : Hid (acc ++ numsTo ns (0 + 1) = acc ++ numsTo ns 0 ++ Lib.decDigits X) := by unfold Hid; rw [numsTo_first ns, ← hX]; simp [numsTo]
        clear hX
        go_wp2_with (first | (go_at_call 56; refine (itoa_is X hX1 _).mono ?_; rintro e w2 ⟨rfl, hw2⟩; have hw2 := hw2.symm; subst hw2) | (go_at_call 31; refine (writeString B b _ (Lib.decDigits X) _ hI1 (by simp; omega) hBr).mono ?_; rintro e w3 ⟨rfl, hI3, b3, o3⟩))
        go_roundw
        case rel => exact ⟨0 + 1, by omega, by go_num, by rw [HX.out]; exact hI3, hbel.trans b3, hoth.trans o3⟩
        case measure => simp [intOf]; omega
    · obtain rfl : k = ns.length := by omega
      go_wp2_with (go_at_call 55; refine (writeByte B b _ 10 _ hI1 (by simp; omega) hBr 10 rfl).mono ?_; rintro e w1 ⟨rfl, hI2, b2, o2⟩)
      go_end0
      exact ⟨rfl, by rw [lineB, ← List.append_assoc]; exact hI2, hbel.trans b2, hoth.trans o2⟩

end Go.Proofs.YtgpaajdfkekjiaaDoor
