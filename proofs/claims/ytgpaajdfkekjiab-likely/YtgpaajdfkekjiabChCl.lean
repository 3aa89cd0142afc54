/-
  The closures of package chances: what a call of each does.
-/
import Derived.Test.YtgpaajdfkekjiabChA
import Derived.Test.YtgpaajdfkekjiabFltB
import Derived.Test.YtgpaajdfkekjiabKeeps
import Derived.Test.YtgpaajdfkekjiabVals
import Derived.Laws.FloatArith
import Derived.Deep.OwnRows
namespace Go.Proofs.Ytgpaajdfkekjiab
open Go.RowKit

set_option maxHeartbeats 1000000 in
set_option maxRecDepth 100000 in
/-- behind's closure: a chance is added. -/
theorem behindCl (o : Int) (t c y z b : Nat) (w : World) (ht : t < 16) (hc : w.cell? ⟨b, t, none⟩ = some (.float .f64 y)) (hf : w.frozen? ⟨b, t, none⟩ = false) (hz : Ieee.double.add y c = some z) :
    Calls Try.prog 30 #[.int .i64 o, .int .i64 t, .float .f64 c, .pointer (some ⟨b, 0, none⟩)] w fun e w' => e = .returned (.tuple #[]) ∧ w' = w.setCell ⟨b, t, none⟩ (.float .f64 z) := by
  have hadd : ∀ W : World, (binOp .add 34 (.float .f64 y) (.float .f64 c)).run Try.prog W = .ok (.float .f64 z) W := fun W => run_float_arith W .add _ .f64 _ _ z hz
  have htI : (t : Int) < 16 := by omega
  have ht0 : (0 : Int) ≤ (t : Int) := by omega
  have hst := @run_store_flt Try.prog
  go_enter Try.func30, Try.ntmps30
  go_wp2
  refine bodyPost_end (results_none rfl _ _ _) rfl ⟨rfl, rfl⟩

/-- The chances so far, of the first k outputs a step further. -/
def onF (fl : Nat → Nat) (o x E k j : Nat) : Value := .float .f64 (fq (fl j + if j < k then o / 2 ^ j % 2 * x else 0) E)

set_option maxHeartbeats 2000000 in
set_option maxRecDepth 100000 in
/-- outputs' closure: a chance is added to each output that is 1. -/
theorem outputsCl (o m b g x E : Nat) (nv : Int) (fl : Nat → Nat) (w : World) (ho : o < 16) (hm : m ≤ 4) (hbox : w.cell? ⟨b, 0, none⟩ = some (.slice (some ⟨g, 0, none⟩) m m)) (hbg : b ≠ g)
    (hrow : w.rowIs g 34 m (onF fl o x E 0)) (hfl : ∀ k, k < m → fl k < 9007199254740992) (hx : x < 9007199254740992) :
    Calls Try.prog 31 #[.int .i64 o, .int .i64 nv, .float .f64 (fq x E), .pointer (some ⟨b, 0, none⟩)] w fun e w' => e = .returned (.tuple #[]) ∧ w'.rowIs g 34 m (onF fl o x E m) ∧ Keeps (fun q => q = g) w w' := by
  have hst := @run_store_flt Try.prog
  go_enter Try.func31, Try.ntmps31
  go_wp2_with fail
  go_loopw [10] (fun i wr => ∃ k : Nat, k ≤ m ∧ i = .int .i64 k ∧ wr.rowIs g 34 m (onF fl o x E k) ∧ Keeps (fun q => q = g) w wr) (fun i _ => m - (intOf i).toNat)
  case atStart => exact ⟨0, Nat.zero_le _, rfl, hrow, ⟨rfl, rfl, rfl, Nat.le_refl _, fun _ _ _ => rfl⟩⟩
  case round =>
    clear hrow
    obtain ⟨k, hk, rfl, row, kp⟩ := hrel
    by_cases hk2 : k < m
    · have hkI : (k : Int) < (m : Int) := by omega
      have hk0 : (0 : Int) ≤ (k : Int) := by omega
      have hbr := (kp.cell (p := ⟨b, 0, none⟩) (World.block_lt_of_cell? _ _ hbox) hbg).trans hbox
      obtain ⟨X, hX⟩ : ∃ X, X = o / 2 ^ k % 2 := ⟨_, rfl⟩
      have hbit := shr_and1 o k X ho hX
      have nxt : ∀ j, j ≠ k → onF fl o x E k j = onF fl o x E (k + 1) j := fun j hj => by
        unfold onF
        by_cases h : j < k
        · rw [if_pos h, if_pos (by omega)]
        · rw [if_neg h, if_neg (by omega)]
      have NXT := hidK nxt
      have HX := hidK hX
      clear hX nxt
      by_cases h1 : X = 1
      · have hXI : ((X : Int) == 1) = true := by simp; omega
        have c0 : wr.cell? ⟨g, k, none⟩ = some (.float .f64 (fq (fl k) E)) := by
          have h := row.cell hk2
          rw [show onF fl o x E k k = .float .f64 (fq (fl k) E) by unfold onF; rw [if_neg (by omega), Nat.add_zero]] at h
          exact h
        have f0 := row.frozen k
        obtain ⟨z, hz⟩ : ∃ z, z = fq (fl k + x) E := ⟨_, rfl⟩
        have hadd : ∀ W : World, (binOp .add 34 (.float .f64 (fq (fl k) E)) (.float .f64 (fq x E))).run Try.prog W = .ok (.float .f64 z) W := fun W => run_float_arith W .add _ .f64 _ _ z (by rw [hz]; exact fq_add (hfl k hk2) hx)
        have X9 := hidK ((row.set k (.float .f64 z)).congr (g := onF fl o x E (k + 1)) (fun j _ => by
          by_cases e : j = k
          · rw [if_pos e, e, hz]
            unfold onF
            rw [if_pos (by omega), ← HX.out, h1, Nat.one_mul]
          · rw [if_neg e, NXT.out j e]))
        have K9 : Keeps (fun q => q = g) w (wr.setCell ⟨g, k, none⟩ (.float .f64 z)) := ⟨kp.os, kp.tape, kp.output, by rw [Deep.nblk_setCell]; exact kp.size, fun j hj hn => (Deep.blk_setCell_other _ _ _ _ hn).trans (kp.block j hj hn)⟩
        have HK9 := hidK K9
        clear hz h1 K9
        go_wp2
        go_roundw
        case rel => exact ⟨k + 1, by omega, by go_num, X9.out, HK9.out⟩
        case measure => simp [intOf]; omega
      · have hXI : ((X : Int) == 1) = false := by simp; omega
        have X9 := hidK (row.congr (g := onF fl o x E (k + 1)) (fun j _ => by
          by_cases e : j = k
          · rw [e]
            unfold onF
            rw [if_neg (by omega), if_pos (by omega), ← HX.out, show X = 0 by have := HX.out; omega, Nat.zero_mul]
          · exact NXT.out j e))
        clear h1
        go_wp2
        go_roundw
        case rel => exact ⟨k + 1, by omega, by go_num, X9.out, kp⟩
        case measure => simp [intOf]; omega
    · have hkI : ¬ ((k : Int) < (m : Int)) := by omega
      have hkm : k = m := by omega
      have X9 := hidK (show wr.rowIs g 34 m (onF fl o x E m) by rw [← hkm]; rw [← hkm] at row; exact row)
      clear hkm
      go_wp2
      refine bodyPost_end (results_none rfl _ _ _) rfl ⟨rfl, X9.out, kp⟩

end Go.Proofs.Ytgpaajdfkekjiab
