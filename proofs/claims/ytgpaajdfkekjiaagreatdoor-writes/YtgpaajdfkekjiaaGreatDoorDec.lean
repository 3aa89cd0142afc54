/-
  latchref's decimal and line, of numbers below a hundred.
-/
import Derived.Test.YtgpaajdfkekjiaaGreatDoorLine
import Derived.Test.YtgpaajdfkekjiaaGreatDoorRun
import Derived.Laws.IdiomStrings
namespace Go.Proofs.YtgpaajdfkekjiaaGreatDoor
open Go.RowKit

def digit (n : Nat) : UInt8 := UInt8.ofNat (48 + n % 10)
theorem digit_cell (n : Nat) : (48 + (n : Int) % 10) = ((digit n).toNat : Int) := by
  have : (digit n).toNat = 48 + n % 10 := by simp [digit]; omega
  rw [this]; omega
theorem digit_str (n : Nat) (w : World) : (convert 123 9 (.slice (some ⟨w.heap.size, 0, none⟩) 1 1)).run Tryz.prog (w.alloc (.cells #[.int .u8 (48 + (n : Int) % 10)] 5)) =
    .ok (.string ⟨#[digit n]⟩) (w.alloc (.cells #[.int .u8 (48 + (n : Int) % 10)] 5)) := by
  refine run_convert_bytes_back _ 123 9 5 ⟨w.heap.size, 0, none⟩ 1 [digit n] Tryz.underlying123 Tryz.underlying5 Tryz.underlying9 (fun j hj => ?_)
  match j, hj with
  | 0, _ =>
    rw [digit_cell]
    simp [Addr.add]

theorem str_app (a b : List UInt8) : (⟨a.toArray⟩ : ByteArray) ++ (⟨b.toArray⟩ : ByteArray) = ⟨(a ++ b).toArray⟩ := by
  apply ByteArray.ext
  simp

theorem dec_one (n : Nat) (h : n < 10) : Lib.decDigits n = [digit n] := by
  rw [Lib.decDigits, dif_pos h, digit, Nat.mod_eq_of_lt h]
theorem dec_more (n : Nat) (h : ¬ n < 10) : Lib.decDigits n = Lib.decDigits (n / 10) ++ [digit n] := by
  rw [Lib.decDigits, dif_neg h, digit]

set_option maxHeartbeats 1000000 in
set_option maxRecDepth 100000 in
theorem decimal_one (z : Int) (n : Nat) (hz : z = n) (h : n < 10) (w : World) :
    Calls Tryz.prog 75 #[.int .i64 z] w fun e w' => e = .returned (.string ⟨(Lib.decDigits n).toArray⟩) ∧ Below w.heap.size w w' := by
  subst hz
  have hc := digit_str n w
  rw [dec_one n h]
  have h2 : (n : Int) < 10 := by omega
  go_enter Tryz.func75, Tryz.ntmps75
  go_wp2
  go_ret
  exact ⟨rfl, (Below.refl _ _).alloc (Nat.le_refl _) _⟩

set_option maxHeartbeats 1000000 in
set_option maxRecDepth 100000 in
theorem decimal_any (z : Int) (n : Nat) (hz : z = n) (h : n < 100) (w : World) :
    Calls Tryz.prog 75 #[.int .i64 z] w fun e w' => e = .returned (.string ⟨(Lib.decDigits n).toArray⟩) ∧ Below w.heap.size w w' := by
  by_cases h1 : n < 10
  · exact decimal_one z n hz h1 w
  subst hz
  have hc := digit_str n w
  have h2 : ¬ (n : Int) < 10 := by omega
  have hl : (Lib.decDigits (n / 10)).length ≤ 2 := dec_len _ (by omega)
  rw [dec_more n h1, ← str_app]
  go_enter Tryz.func75, Tryz.ntmps75
  go_wp2_with (go_at_call 75; refine (decimal_one _ (n / 10) (by omega) (by omega) _).mono ?_; rintro e w1 ⟨rfl, b1⟩)
  go_ret
  exact ⟨rfl, ((Below.refl _ _).alloc (Nat.le_refl _) _).trans (b1.mono (by simp))⟩

set_option maxHeartbeats 1000000 in
set_option maxRecDepth 100000 in
theorem line_any (a : Option Addr) (cap : Nat) (ns : List Nat) (w : World) (hI : IntsAt w a (ns.map fun x => ((x : Nat) : Int))) (h100 : ∀ i, i < ns.length → ns.getD i 0 < 100) (h5 : ns.length ≤ 5) :
    Calls Tryz.prog 47 #[.slice a ns.length cap] w fun e w' => e = .returned (.string ⟨(lineB ns).toArray⟩) ∧ Below w.heap.size w w' := by
  go_enter Tryz.func47, Tryz.ntmps47
  go_wp2
  go_loopw [3, 4] (fun s i wr => ∃ k : Nat, k ≤ ns.length ∧ i = .int .i64 k ∧ s = .string ⟨(numsTo ns k).toArray⟩ ∧ Below w.heap.size w wr)
    (fun _ i _ => ns.length - (intOf i).toNat)
  case atStart => exact ⟨0, Nat.zero_le _, rfl, rfl, Below.refl _ _⟩
  case round =>
    obtain ⟨k, hk, rfl, rfl, hbel⟩ := hrel
    have hlen := numsTo_len ns k (fun i hi => h100 i (by omega))
    by_cases hk2 : k < ns.length
    · obtain ⟨b, off, rfl, hlt, hc⟩ := hI.get (by simp; omega)
      obtain ⟨X, hX⟩ : ∃ X, X = ns.getD k 0 := ⟨_, rfl⟩
      have hX1 : X < 100 := by rw [hX]; exact h100 k hk2
      have hXl := dec_len X hX1
      have hcy : wr.cell? ⟨b, off + k, none⟩ = some (.int .i64 (X : Int)) := by
        rw [hX]; refine (hbel.cell (p := ⟨b, _, none⟩) hlt).trans ((hc k (by simpa using hk2)).trans ?_)
        simp [hk2]
      by_cases hk0 : 0 < k
      · have HX : Hid (numsTo ns (k + 1) = numsTo ns k ++ [32] ++ Lib.decDigits X) := by unfold Hid; rw [numsTo_next ns k hk0, ← hX]
        clear hX hc
        go_wp2_with (go_at_call 75; refine (decimal_any _ X rfl hX1 _).mono ?_; rintro e w1 ⟨rfl, b1⟩)
        go_roundw
        case rel => exact ⟨k + 1, by omega, by go_num, by rw [HX.out, ← str_app, ← str_app], hbel.trans (b1.mono (by first | omega | exact hbel.size))⟩
        case measure => simp [intOf]; omega
      · obtain rfl : k = 0 := by omega
        have hcy0 : wr.cell? ⟨b, off, none⟩ = some (.int .i64 (X : Int)) := hcy
        have HX : Hid (numsTo ns (0 + 1) = numsTo ns 0 ++ Lib.decDigits X) := by unfold Hid; rw [numsTo_first ns, ← hX]; simp [numsTo]
        clear hX hc
        go_wp2_with (go_at_call 75; refine (decimal_any _ X rfl hX1 _).mono ?_; rintro e w1 ⟨rfl, b1⟩)
        go_roundw
        case rel => exact ⟨0 + 1, by omega, by go_num, by rw [HX.out, ← str_app], hbel.trans (b1.mono hbel.size)⟩
        case measure => simp [intOf]; omega
    · obtain rfl : k = ns.length := by omega
      go_wp2
      go_ret
      exact ⟨by rw [lineB, ← str_app]; rfl, hbel⟩

end Go.Proofs.YtgpaajdfkekjiaaGreatDoor
