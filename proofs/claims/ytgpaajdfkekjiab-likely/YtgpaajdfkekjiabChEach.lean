/-
  eachStep of package chances: each step that may come is told.
-/
import Derived.Test.YtgpaajdfkekjiabChCl
import Derived.Test.YtgpaajdfkekjiabStep
import Derived.Test.YtgpaajdfkekjiabMem
import Derived.Deep.Cut
namespace Go.Proofs.Ytgpaajdfkekjiab
open Go.RowKit

/-- The sixteen states' chances as a value. -/
def arr16 (f : Nat → Nat) (E : Nat) : Array Value := #[.float .f64 (fq (f 0) E), .float .f64 (fq (f 1) E), .float .f64 (fq (f 2) E), .float .f64 (fq (f 3) E), .float .f64 (fq (f 4) E), .float .f64 (fq (f 5) E), .float .f64 (fq (f 6) E), .float .f64 (fq (f 7) E), .float .f64 (fq (f 8) E), .float .f64 (fq (f 9) E), .float .f64 (fq (f 10) E), .float .f64 (fq (f 11) E), .float .f64 (fq (f 12) E), .float .f64 (fq (f 13) E), .float .f64 (fq (f 14) E), .float .f64 (fq (f 15) E)]
theorem arr16_index (f : Nat → Nat) (E S : Nat) (hS : S < 16) (x : Nat) (hg : (arr16 f E)[S]? = some (.float .f64 x)) (W : World) : (Instr.index 52 (.agg (arr16 f E)) (.int .i64 (S : Int))).run Try.prog W = .ok (.float .f64 x) W := by
  have hn : 0 ≤ (S : Int) ∧ (S : Int) < 16 := by omega
  simp [Instr.index, run_underlying Try.underlying52, asIntOf, hn, go_sem, hg]
  intro h
  omega
theorem arr16_get (f : Nat → Nat) (E : Nat) : ∀ s, s < 16 → (arr16 f E)[s]? = some (.float .f64 (fq (f s) E))
  | 0, _ => rfl
  | 1, _ => rfl
  | 2, _ => rfl
  | 3, _ => rfl
  | 4, _ => rfl
  | 5, _ => rfl
  | 6, _ => rfl
  | 7, _ => rfl
  | 8, _ => rfl
  | 9, _ => rfl
  | 10, _ => rfl
  | 11, _ => rfl
  | 12, _ => rfl
  | 13, _ => rfl
  | 14, _ => rfl
  | 15, _ => rfl
  | s + 16, h => by omega

set_option maxHeartbeats 4000000 in
set_option maxRecDepth 100000 in
theorem eachStep_behind (n E : Nat) (la ga oa : Option Addr) (lc gc oc : Nat) (ls gs : List (Int × Int)) (os : List Int) (f : Nat → Nat) (q : Nat) (nx ou : Nat → Nat → Nat) (cap : Value) (Inv : Nat → Nat → World → Prop) (w : World)
    (hn4 : n ≤ 4) (hq : q = 2 ^ n) (hE : E + n ≤ 100) (hfl : ∀ s, s < 16 → f s < 9007199254740992)
    (hstep : ∀ (W : World) (s j : Nat), s < 16 → j < q → Inv s j W → Calls Try.prog 15 #[.agg #[.int .i64 n, .slice la ls.length lc, .slice ga gs.length gc, .slice oa os.length oc], .int .i64 s, .int .i64 j] W fun e w' => e = .returned (.tuple #[.int .i64 (ou s j : Nat), .int .i64 (nx s j : Nat)]) ∧ Inv s j w')
    (htell : ∀ (W : World) (s j : Nat), s < 16 → j < q → 0 < f s → Inv s j W → Calls Try.prog 30 #[.int .i64 (ou s j : Nat), .int .i64 (nx s j : Nat), .float .f64 (fq (f s) (E + n)), cap] W fun e w' => e = .returned (.tuple #[]) ∧ Inv s (j + 1) w')
    (hnext : ∀ (W : World) (s : Nat), s < 16 → Inv s q W → Inv (s + 1) 0 W) (hskip : ∀ (W : World) (s : Nat), s < 16 → f s = 0 → Inv s 0 W → Inv (s + 1) 0 W)
    (hbox : ∀ (W : World) (s j : Nat), Inv s j W → W.heap[w.heap.size]? = some (.cells #[.int .i64 n, .slice la ls.length lc, .slice ga gs.length gc, .slice oa os.length oc] 26 (0, 0)))
    (h0 : Inv 0 0 ((w.alloc (.cells #[.int .i64 n, .slice la ls.length lc, .slice ga gs.length gc, .slice oa os.length oc] 26)).alloc (.cells (arr16 f E) 52))) :
    Calls Try.prog 29 #[.agg #[.int .i64 n, .slice la ls.length lc, .slice ga gs.length gc, .slice oa os.length oc], .agg (arr16 f E), .func (.func 30) #[] #[cap]] w fun e w' => e = .returned (.tuple #[]) ∧ Inv 16 0 w' := by
  obtain ⟨W2, hW2⟩ : ∃ W2, W2 = (w.alloc (.cells #[.int .i64 n, .slice la ls.length lc, .slice ga gs.length gc, .slice oa os.length oc] 26)).alloc (.cells (arr16 f E) 52) := ⟨_, rfl⟩
  rw [← hW2] at h0
  have x2 : W2.heap[w.heap.size + 1]? = some (.cells (arr16 f E) 52 (0, 0)) := by rw [hW2]; exact alloc_blk _ _ _ (by simp)
  have d0 : W2.cell? ⟨w.heap.size + 1, 0, none⟩ = some (.float .f64 (fq (f 0) E)) := by rw [cell_of_row _ _ _ _ _ _ x2]; rfl
  have d1 : W2.cell? ⟨w.heap.size + 1, 1, none⟩ = some (.float .f64 (fq (f 1) E)) := by rw [cell_of_row _ _ _ _ _ _ x2]; rfl
  have d2 : W2.cell? ⟨w.heap.size + 1, 2, none⟩ = some (.float .f64 (fq (f 2) E)) := by rw [cell_of_row _ _ _ _ _ _ x2]; rfl
  have d3 : W2.cell? ⟨w.heap.size + 1, 3, none⟩ = some (.float .f64 (fq (f 3) E)) := by rw [cell_of_row _ _ _ _ _ _ x2]; rfl
  have d4 : W2.cell? ⟨w.heap.size + 1, 4, none⟩ = some (.float .f64 (fq (f 4) E)) := by rw [cell_of_row _ _ _ _ _ _ x2]; rfl
  have d5 : W2.cell? ⟨w.heap.size + 1, 5, none⟩ = some (.float .f64 (fq (f 5) E)) := by rw [cell_of_row _ _ _ _ _ _ x2]; rfl
  have d6 : W2.cell? ⟨w.heap.size + 1, 6, none⟩ = some (.float .f64 (fq (f 6) E)) := by rw [cell_of_row _ _ _ _ _ _ x2]; rfl
  have d7 : W2.cell? ⟨w.heap.size + 1, 7, none⟩ = some (.float .f64 (fq (f 7) E)) := by rw [cell_of_row _ _ _ _ _ _ x2]; rfl
  have d8 : W2.cell? ⟨w.heap.size + 1, 8, none⟩ = some (.float .f64 (fq (f 8) E)) := by rw [cell_of_row _ _ _ _ _ _ x2]; rfl
  have d9 : W2.cell? ⟨w.heap.size + 1, 9, none⟩ = some (.float .f64 (fq (f 9) E)) := by rw [cell_of_row _ _ _ _ _ _ x2]; rfl
  have d10 : W2.cell? ⟨w.heap.size + 1, 10, none⟩ = some (.float .f64 (fq (f 10) E)) := by rw [cell_of_row _ _ _ _ _ _ x2]; rfl
  have d11 : W2.cell? ⟨w.heap.size + 1, 11, none⟩ = some (.float .f64 (fq (f 11) E)) := by rw [cell_of_row _ _ _ _ _ _ x2]; rfl
  have d12 : W2.cell? ⟨w.heap.size + 1, 12, none⟩ = some (.float .f64 (fq (f 12) E)) := by rw [cell_of_row _ _ _ _ _ _ x2]; rfl
  have d13 : W2.cell? ⟨w.heap.size + 1, 13, none⟩ = some (.float .f64 (fq (f 13) E)) := by rw [cell_of_row _ _ _ _ _ _ x2]; rfl
  have d14 : W2.cell? ⟨w.heap.size + 1, 14, none⟩ = some (.float .f64 (fq (f 14) E)) := by rw [cell_of_row _ _ _ _ _ _ x2]; rfl
  have d15 : W2.cell? ⟨w.heap.size + 1, 15, none⟩ = some (.float .f64 (fq (f 15) E)) := by rw [cell_of_row _ _ _ _ _ _ x2]; rfl
  have q0 : W2.cell? ⟨w.heap.size, 0, none⟩ = some (.int .i64 n) := by rw [cell_of_row _ _ _ _ _ _ (hbox W2 0 0 h0)]; rfl
  have hq16 : q ≤ 16 := by rw [hq]; exact pow_le16 hn4
  have hqI : (q : Int) = (2 : Int) ^ n := by rw [hq]; simp
  have hsh : IntKind.i64.wrap ((2 : Int) ^ n) = (q : Int) := by rw [← hqI, wrap_i64']; omega
  have HQ := hidK hq
  clear hq hqI
  go_enter Try.func29, Try.ntmps29
  go_upto_region 1 with fail
  rw [← hW2]
  clear hW2 x2
  go_wp2_with fail
  have hfold : (#[.float .f64 (fq (f 0) E), .float .f64 (fq (f 1) E), .float .f64 (fq (f 2) E), .float .f64 (fq (f 3) E), .float .f64 (fq (f 4) E), .float .f64 (fq (f 5) E), .float .f64 (fq (f 6) E), .float .f64 (fq (f 7) E), .float .f64 (fq (f 8) E), .float .f64 (fq (f 9) E), .float .f64 (fq (f 10) E), .float .f64 (fq (f 11) E), .float .f64 (fq (f 12) E), .float .f64 (fq (f 13) E), .float .f64 (fq (f 14) E), .float .f64 (fq (f 15) E)] : Array Value) = arr16 f E := rfl
  rw [hfold]
  clear d0 d1 d2 d3 d4 d5 d6 d7 d8 d9 d10 d11 d12 d13 d14 d15 hfold q0
  go_loopw [16] (fun sv wr => ∃ S : Nat, S ≤ 16 ∧ sv = .int .i64 S ∧ Inv S 0 wr) (fun sv _ => 16 - (intOf sv).toNat)
  case atStart => exact ⟨0, by omega, rfl, h0⟩
  case round =>
    clear h0
    obtain ⟨S, hS, rfl, I⟩ := hrel
    by_cases hS2 : S < 16
    · have hSI : (S : Int) < 16 := by omega
      have hS0 : (0 : Int) ≤ (S : Int) := by omega
      have hg := arr16_get f E S hS2
      have hx9 := hfl S hS2
      obtain ⟨x, hx⟩ : ∃ x, x = f S := ⟨_, rfl⟩
      have HX := hidK hx
      rw [← hx] at hg hx9
      have ho : FloatKind.f64.format.order (fq x E) 0 = some (compare x 0) := by
        have h := fq_order (k := x) (l := 0) (e := E) hx9 (by omega)
        have hz : fq 0 E = 0 := by unfold fq; rw [Nat.zero_mul]; exact flw_zero
        rw [hz] at h
        exact h
      have hidx := arr16_index f E S hS2 _ hg
      clear hx hg
      by_cases hx0 : x = 0
      · have hc : compare x 0 = .eq := by rw [hx0]; rfl
        rw [hc] at ho
        have I9 := hidK (hskip wr S hS2 (by rw [← HX.out]; exact hx0) I)
        clear hx0 hc
        go_wp2
        go_roundw
        case rel => exact ⟨S + 1, by omega, by go_num, I9.out⟩
        case measure => simp [intOf]; omega
      · have hc : compare x 0 = .gt := by rw [Nat.compare_eq_gt]; omega
        rw [hc] at ho
        have hxp : 0 < f S := by rw [← HX.out]; omega
        clear hx0 hc
        go_wp2_with fail
        go_loopw [23] (fun jv wr => ∃ J : Nat, J ≤ q ∧ jv = .int .i64 J ∧ Inv S J wr) (fun jv _ => q - (intOf jv).toNat)
        case atStart => exact ⟨0, Nat.zero_le _, rfl, I⟩
        case round =>
          clear I
          obtain ⟨J, hJ, rfl, I⟩ := hrel
          by_cases hJ2 : J < q
          · have hJI : (J : Int) < (q : Int) := by omega
            have c0 : wr.cell? ⟨w.heap.size, 0, none⟩ = some (.int .i64 n) := by rw [cell_of_row _ _ _ _ _ _ (hbox wr S J I)]; rfl
            have c1 : wr.cell? ⟨w.heap.size, 1, none⟩ = some (.slice la ls.length lc) := by rw [cell_of_row _ _ _ _ _ _ (hbox wr S J I)]; rfl
            have c2 : wr.cell? ⟨w.heap.size, 2, none⟩ = some (.slice ga gs.length gc) := by rw [cell_of_row _ _ _ _ _ _ (hbox wr S J I)]; rfl
            have c3 : wr.cell? ⟨w.heap.size, 3, none⟩ = some (.slice oa os.length oc) := by rw [cell_of_row _ _ _ _ _ _ (hbox wr S J I)]; rfl
            have call := hstep wr S J hS2 hJ2 I
            obtain ⟨o, hoe⟩ : ∃ o, o = ou S J := ⟨_, rfl⟩
            obtain ⟨t, hte⟩ : ∃ t, t = nx S J := ⟨_, rfl⟩
            have tell := htell
            rw [← hoe, ← hte] at call
            obtain ⟨z, hz⟩ : ∃ z, z = fq x (E + n) := ⟨_, rfl⟩
            have hquo : ∀ W : World, (binOp .quo 34 (.float .f64 (fq x E)) (.float .f64 (floatOfInt .f64 (q : Int)))).run Try.prog W = .ok (.float .f64 z) W := fun W => run_float_arith W .quo _ .f64 _ _ z (by
              rw [fq_int, HQ.out, hz]
              exact fq_div (by omega) hE hx9)
            have tl : ∀ W, Inv S J W → Calls Try.prog 30 #[.int .i64 (o : Nat), .int .i64 (t : Nat), .float .f64 z, cap] W fun e w' => e = .returned (.tuple #[]) ∧ Inv S (J + 1) w' := fun W hW => by
              have h := tell W S J hS2 hJ2 hxp hW
              rw [← HX.out, ← hz, ← hoe, ← hte] at h
              exact h
            have TL := hidK tl
            clear hoe hte hz tell tl
            go_wp2_with fail
            refine call.mono ?_
            rintro e w7 ⟨rfl, I7⟩
            clear call c0 c1 c2 c3
            go_wp2_with fail
            refine (TL.out w7 I7).mono ?_
            rintro e w8 ⟨rfl, I8⟩
            go_wp2
            go_roundw
            case rel => exact ⟨J + 1, by omega, by go_num, I8⟩
            case measure => simp [intOf]; omega
          · have hJI : ¬ ((J : Int) < (q : Int)) := by omega
            have I9 := hidK (hnext wr S hS2 (by rw [← show J = q by omega]; exact I))
            go_wp2
            go_roundw
            case rel => exact ⟨S + 1, by omega, by go_num, I9.out⟩
            case measure => simp [intOf]; omega
    · have hSI : ¬ ((S : Int) < 16) := by omega
      have I9 := hidK (show Inv 16 0 wr by rw [← show S = 16 by omega]; exact I)
      go_wp2
      refine bodyPost_end (results_none rfl _ _ _) rfl ⟨rfl, I9.out⟩

set_option maxHeartbeats 4000000 in
set_option maxRecDepth 100000 in
theorem eachStep_outputs (n E : Nat) (la ga oa : Option Addr) (lc gc oc : Nat) (ls gs : List (Int × Int)) (os : List Int) (f : Nat → Nat) (q : Nat) (nx ou : Nat → Nat → Nat) (cap : Value) (Inv : Nat → Nat → World → Prop) (w : World)
    (hn4 : n ≤ 4) (hq : q = 2 ^ n) (hE : E + n ≤ 100) (hfl : ∀ s, s < 16 → f s < 9007199254740992)
    (hstep : ∀ (W : World) (s j : Nat), s < 16 → j < q → Inv s j W → Calls Try.prog 15 #[.agg #[.int .i64 n, .slice la ls.length lc, .slice ga gs.length gc, .slice oa os.length oc], .int .i64 s, .int .i64 j] W fun e w' => e = .returned (.tuple #[.int .i64 (ou s j : Nat), .int .i64 (nx s j : Nat)]) ∧ Inv s j w')
    (htell : ∀ (W : World) (s j : Nat), s < 16 → j < q → 0 < f s → Inv s j W → Calls Try.prog 31 #[.int .i64 (ou s j : Nat), .int .i64 (nx s j : Nat), .float .f64 (fq (f s) (E + n)), cap] W fun e w' => e = .returned (.tuple #[]) ∧ Inv s (j + 1) w')
    (hnext : ∀ (W : World) (s : Nat), s < 16 → Inv s q W → Inv (s + 1) 0 W) (hskip : ∀ (W : World) (s : Nat), s < 16 → f s = 0 → Inv s 0 W → Inv (s + 1) 0 W)
    (hbox : ∀ (W : World) (s j : Nat), Inv s j W → W.heap[w.heap.size]? = some (.cells #[.int .i64 n, .slice la ls.length lc, .slice ga gs.length gc, .slice oa os.length oc] 26 (0, 0)))
    (h0 : Inv 0 0 ((w.alloc (.cells #[.int .i64 n, .slice la ls.length lc, .slice ga gs.length gc, .slice oa os.length oc] 26)).alloc (.cells (arr16 f E) 52))) :
    Calls Try.prog 29 #[.agg #[.int .i64 n, .slice la ls.length lc, .slice ga gs.length gc, .slice oa os.length oc], .agg (arr16 f E), .func (.func 31) #[] #[cap]] w fun e w' => e = .returned (.tuple #[]) ∧ Inv 16 0 w' := by
  obtain ⟨W2, hW2⟩ : ∃ W2, W2 = (w.alloc (.cells #[.int .i64 n, .slice la ls.length lc, .slice ga gs.length gc, .slice oa os.length oc] 26)).alloc (.cells (arr16 f E) 52) := ⟨_, rfl⟩
  rw [← hW2] at h0
  have x2 : W2.heap[w.heap.size + 1]? = some (.cells (arr16 f E) 52 (0, 0)) := by rw [hW2]; exact alloc_blk _ _ _ (by simp)
  have d0 : W2.cell? ⟨w.heap.size + 1, 0, none⟩ = some (.float .f64 (fq (f 0) E)) := by rw [cell_of_row _ _ _ _ _ _ x2]; rfl
  have d1 : W2.cell? ⟨w.heap.size + 1, 1, none⟩ = some (.float .f64 (fq (f 1) E)) := by rw [cell_of_row _ _ _ _ _ _ x2]; rfl
  have d2 : W2.cell? ⟨w.heap.size + 1, 2, none⟩ = some (.float .f64 (fq (f 2) E)) := by rw [cell_of_row _ _ _ _ _ _ x2]; rfl
  have d3 : W2.cell? ⟨w.heap.size + 1, 3, none⟩ = some (.float .f64 (fq (f 3) E)) := by rw [cell_of_row _ _ _ _ _ _ x2]; rfl
  have d4 : W2.cell? ⟨w.heap.size + 1, 4, none⟩ = some (.float .f64 (fq (f 4) E)) := by rw [cell_of_row _ _ _ _ _ _ x2]; rfl
  have d5 : W2.cell? ⟨w.heap.size + 1, 5, none⟩ = some (.float .f64 (fq (f 5) E)) := by rw [cell_of_row _ _ _ _ _ _ x2]; rfl
  have d6 : W2.cell? ⟨w.heap.size + 1, 6, none⟩ = some (.float .f64 (fq (f 6) E)) := by rw [cell_of_row _ _ _ _ _ _ x2]; rfl
  have d7 : W2.cell? ⟨w.heap.size + 1, 7, none⟩ = some (.float .f64 (fq (f 7) E)) := by rw [cell_of_row _ _ _ _ _ _ x2]; rfl
  have d8 : W2.cell? ⟨w.heap.size + 1, 8, none⟩ = some (.float .f64 (fq (f 8) E)) := by rw [cell_of_row _ _ _ _ _ _ x2]; rfl
  have d9 : W2.cell? ⟨w.heap.size + 1, 9, none⟩ = some (.float .f64 (fq (f 9) E)) := by rw [cell_of_row _ _ _ _ _ _ x2]; rfl
  have d10 : W2.cell? ⟨w.heap.size + 1, 10, none⟩ = some (.float .f64 (fq (f 10) E)) := by rw [cell_of_row _ _ _ _ _ _ x2]; rfl
  have d11 : W2.cell? ⟨w.heap.size + 1, 11, none⟩ = some (.float .f64 (fq (f 11) E)) := by rw [cell_of_row _ _ _ _ _ _ x2]; rfl
  have d12 : W2.cell? ⟨w.heap.size + 1, 12, none⟩ = some (.float .f64 (fq (f 12) E)) := by rw [cell_of_row _ _ _ _ _ _ x2]; rfl
  have d13 : W2.cell? ⟨w.heap.size + 1, 13, none⟩ = some (.float .f64 (fq (f 13) E)) := by rw [cell_of_row _ _ _ _ _ _ x2]; rfl
  have d14 : W2.cell? ⟨w.heap.size + 1, 14, none⟩ = some (.float .f64 (fq (f 14) E)) := by rw [cell_of_row _ _ _ _ _ _ x2]; rfl
  have d15 : W2.cell? ⟨w.heap.size + 1, 15, none⟩ = some (.float .f64 (fq (f 15) E)) := by rw [cell_of_row _ _ _ _ _ _ x2]; rfl
  have q0 : W2.cell? ⟨w.heap.size, 0, none⟩ = some (.int .i64 n) := by rw [cell_of_row _ _ _ _ _ _ (hbox W2 0 0 h0)]; rfl
  have hq16 : q ≤ 16 := by rw [hq]; exact pow_le16 hn4
  have hqI : (q : Int) = (2 : Int) ^ n := by rw [hq]; simp
  have hsh : IntKind.i64.wrap ((2 : Int) ^ n) = (q : Int) := by rw [← hqI, wrap_i64']; omega
  have HQ := hidK hq
  clear hq hqI
  go_enter Try.func29, Try.ntmps29
  go_upto_region 1 with fail
  rw [← hW2]
  clear hW2 x2
  go_wp2_with fail
  have hfold : (#[.float .f64 (fq (f 0) E), .float .f64 (fq (f 1) E), .float .f64 (fq (f 2) E), .float .f64 (fq (f 3) E), .float .f64 (fq (f 4) E), .float .f64 (fq (f 5) E), .float .f64 (fq (f 6) E), .float .f64 (fq (f 7) E), .float .f64 (fq (f 8) E), .float .f64 (fq (f 9) E), .float .f64 (fq (f 10) E), .float .f64 (fq (f 11) E), .float .f64 (fq (f 12) E), .float .f64 (fq (f 13) E), .float .f64 (fq (f 14) E), .float .f64 (fq (f 15) E)] : Array Value) = arr16 f E := rfl
  rw [hfold]
  clear d0 d1 d2 d3 d4 d5 d6 d7 d8 d9 d10 d11 d12 d13 d14 d15 hfold q0
  go_loopw [16] (fun sv wr => ∃ S : Nat, S ≤ 16 ∧ sv = .int .i64 S ∧ Inv S 0 wr) (fun sv _ => 16 - (intOf sv).toNat)
  case atStart => exact ⟨0, by omega, rfl, h0⟩
  case round =>
    clear h0
    obtain ⟨S, hS, rfl, I⟩ := hrel
    by_cases hS2 : S < 16
    · have hSI : (S : Int) < 16 := by omega
      have hS0 : (0 : Int) ≤ (S : Int) := by omega
      have hg := arr16_get f E S hS2
      have hx9 := hfl S hS2
      obtain ⟨x, hx⟩ : ∃ x, x = f S := ⟨_, rfl⟩
      have HX := hidK hx
      rw [← hx] at hg hx9
      have ho : FloatKind.f64.format.order (fq x E) 0 = some (compare x 0) := by
        have h := fq_order (k := x) (l := 0) (e := E) hx9 (by omega)
        have hz : fq 0 E = 0 := by unfold fq; rw [Nat.zero_mul]; exact flw_zero
        rw [hz] at h
        exact h
      have hidx := arr16_index f E S hS2 _ hg
      clear hx hg
      by_cases hx0 : x = 0
      · have hc : compare x 0 = .eq := by rw [hx0]; rfl
        rw [hc] at ho
        have I9 := hidK (hskip wr S hS2 (by rw [← HX.out]; exact hx0) I)
        clear hx0 hc
        go_wp2
        go_roundw
        case rel => exact ⟨S + 1, by omega, by go_num, I9.out⟩
        case measure => simp [intOf]; omega
      · have hc : compare x 0 = .gt := by rw [Nat.compare_eq_gt]; omega
        rw [hc] at ho
        have hxp : 0 < f S := by rw [← HX.out]; omega
        clear hx0 hc
        go_wp2_with fail
        go_loopw [23] (fun jv wr => ∃ J : Nat, J ≤ q ∧ jv = .int .i64 J ∧ Inv S J wr) (fun jv _ => q - (intOf jv).toNat)
        case atStart => exact ⟨0, Nat.zero_le _, rfl, I⟩
        case round =>
          clear I
          obtain ⟨J, hJ, rfl, I⟩ := hrel
          by_cases hJ2 : J < q
          · have hJI : (J : Int) < (q : Int) := by omega
            have c0 : wr.cell? ⟨w.heap.size, 0, none⟩ = some (.int .i64 n) := by rw [cell_of_row _ _ _ _ _ _ (hbox wr S J I)]; rfl
            have c1 : wr.cell? ⟨w.heap.size, 1, none⟩ = some (.slice la ls.length lc) := by rw [cell_of_row _ _ _ _ _ _ (hbox wr S J I)]; rfl
            have c2 : wr.cell? ⟨w.heap.size, 2, none⟩ = some (.slice ga gs.length gc) := by rw [cell_of_row _ _ _ _ _ _ (hbox wr S J I)]; rfl
            have c3 : wr.cell? ⟨w.heap.size, 3, none⟩ = some (.slice oa os.length oc) := by rw [cell_of_row _ _ _ _ _ _ (hbox wr S J I)]; rfl
            have call := hstep wr S J hS2 hJ2 I
            obtain ⟨o, hoe⟩ : ∃ o, o = ou S J := ⟨_, rfl⟩
            obtain ⟨t, hte⟩ : ∃ t, t = nx S J := ⟨_, rfl⟩
            have tell := htell
            rw [← hoe, ← hte] at call
            obtain ⟨z, hz⟩ : ∃ z, z = fq x (E + n) := ⟨_, rfl⟩
            have hquo : ∀ W : World, (binOp .quo 34 (.float .f64 (fq x E)) (.float .f64 (floatOfInt .f64 (q : Int)))).run Try.prog W = .ok (.float .f64 z) W := fun W => run_float_arith W .quo _ .f64 _ _ z (by
              rw [fq_int, HQ.out, hz]
              exact fq_div (by omega) hE hx9)
            have tl : ∀ W, Inv S J W → Calls Try.prog 31 #[.int .i64 (o : Nat), .int .i64 (t : Nat), .float .f64 z, cap] W fun e w' => e = .returned (.tuple #[]) ∧ Inv S (J + 1) w' := fun W hW => by
              have h := tell W S J hS2 hJ2 hxp hW
              rw [← HX.out, ← hz, ← hoe, ← hte] at h
              exact h
            have TL := hidK tl
            clear hoe hte hz tell tl
            go_wp2_with fail
            refine call.mono ?_
            rintro e w7 ⟨rfl, I7⟩
            clear call c0 c1 c2 c3
            go_wp2_with fail
            refine (TL.out w7 I7).mono ?_
            rintro e w8 ⟨rfl, I8⟩
            go_wp2
            go_roundw
            case rel => exact ⟨J + 1, by omega, by go_num, I8⟩
            case measure => simp [intOf]; omega
          · have hJI : ¬ ((J : Int) < (q : Int)) := by omega
            have I9 := hidK (hnext wr S hS2 (by rw [← show J = q by omega]; exact I))
            go_wp2
            go_roundw
            case rel => exact ⟨S + 1, by omega, by go_num, I9.out⟩
            case measure => simp [intOf]; omega
    · have hSI : ¬ ((S : Int) < 16) := by omega
      have I9 := hidK (show Inv 16 0 wr by rw [← show S = 16 by omega]; exact I)
      go_wp2
      refine bodyPost_end (results_none rfl _ _ _) rfl ⟨rfl, I9.out⟩

end Go.Proofs.Ytgpaajdfkekjiab
