/-
  What the small functions of package latchkeep answer: sameInts, delay, inputs, ran.
  What ran of package latchkeep answers.
-/
import Derived.Test.YtgpaajdfkekjiaaDoorMRun
import Derived.Test.YtgpaajdfkekjiaaDoorMKBox
import Derived.Test.YtgpaajdfkekjiaaDoorMRight
namespace Go.Proofs.YtgpaajdfkekjiaaDoor
open Go.RowKit

theorem ints_eq_of {xs ys : List Int} (hl : xs.length = ys.length) (h : ∀ j, j < xs.length → xs.getD j 0 = ys.getD j 0) : xs = ys := by
  apply List.ext_getElem hl
  intro i h1 h2
  have := h i h1
  simpa [h1, h2] using this

set_option maxHeartbeats 1000000 in
set_option maxRecDepth 100000 in
theorem sameInts_any (aa ba : Option Addr) (ac bc : Nat) (xs ys : List Int) (w : World) (hx : xs.length ≤ maxLen) (hy : ys.length ≤ maxLen) (hX : IntsAt w aa xs) (hY : IntsAt w ba ys) :
    Calls Tryd.prog 16 #[.slice aa xs.length ac, .slice ba ys.length bc] w fun e w' => e = .returned (.bool (decide (xs = ys))) ∧ Below w.heap.size w w' := by
  unfold maxLen at hx hy
  by_cases hl : xs.length = ys.length
  · have HL : Hid (xs.length = ys.length) := hl
    clear hl
    have hln : ((xs.length : Int) != (ys.length : Int)) = false := by rw [HL.out]; simp
    go_enter Tryd.func16, Tryd.ntmps16
    go_wp2
    go_loopw [5] (fun i wr => ∃ k : Nat, k ≤ xs.length ∧ i = .int .i64 k ∧ (∀ j, j < k → xs.getD j 0 = ys.getD j 0) ∧ Below w.heap.size w wr) (fun i _ => xs.length - (intOf i).toNat)
    case atStart => exact ⟨0, Nat.zero_le _, rfl, fun j hj => absurd hj (Nat.not_lt_zero j), Below.refl _ _⟩
    case round =>
      obtain ⟨k, hk, rfl, hall, hbel⟩ := hrel
      have HA : Hid (∀ j, j < k → xs.getD j 0 = ys.getD j 0) := hall
      clear hall
      by_cases hk2 : k < xs.length
      · have hk3 : k < ys.length := by rw [← HL.out]; exact hk2
        obtain ⟨b, off, rfl, hlt, hc⟩ := hX.get (by omega)
        obtain ⟨b', off', rfl, hlt', hc'⟩ := hY.get (by omega)
        have hcy : wr.cell? ⟨b, off + k, none⟩ = some (.int .i64 (xs.getD k 0)) := (hbel.cell (p := ⟨b, _, none⟩) hlt).trans (hc k hk2)
        have hcz : wr.cell? ⟨b', off' + k, none⟩ = some (.int .i64 (ys.getD k 0)) := (hbel.cell (p := ⟨b', _, none⟩) hlt').trans (hc' k hk3)
        obtain ⟨x, hx'⟩ : ∃ x, x = xs.getD k 0 := ⟨_, rfl⟩
        obtain ⟨y, hy'⟩ : ∃ y, y = ys.getD k 0 := ⟨_, rfl⟩
        rw [← hx'] at hcy
        rw [← hy'] at hcz
        have HX : Hid (x = xs.getD k 0) := hx'
        have HY : Hid (y = ys.getD k 0) := hy'
        have k1 : (k : Int) < (xs.length : Int) := by omega
        have k2 : (k : Int) < (ys.length : Int) := by omega
        clear hx' hy' hc hc' hln
        by_cases hq : x = y
        · subst hq
          go_wp2
          go_quiet (fail)
          go_wp2
          go_roundw
          case rel => exact ⟨k + 1, by omega, by go_num, all_succ HA.out (by rw [← HX.out, ← HY.out]), by first | exact hbel.drew | exact below_drewN hbel _⟩
          case measure => simp [intOf]; omega
        · have hq2 : (x != y) = true := by simp [hq]
          go_wp2
          go_quiet (fail)
          go_wp2
          go_ret
          exact ⟨ret_bool (decide_eq_false (fun e => hq (by rw [HX.out, HY.out, e]))).symm, by first | exact hbel.drew | exact below_drewN hbel _⟩
      · clear hln
        go_wp2
        go_ret
        exact ⟨ret_bool (decide_eq_true (ints_eq_of HL.out (fun i hi => HA.out i (by omega)))).symm, hbel⟩
  · have hln : ((xs.length : Int) != (ys.length : Int)) = true := by simp; omega
    go_enter Tryd.func16, Tryd.ntmps16
    go_wp2
    go_ret
    exact ⟨ret_bool (decide_eq_false (fun e => hl (by rw [e]))).symm, Below.refl _ _⟩

set_option maxHeartbeats 400000 in
set_option maxRecDepth 100000 in
theorem delay_any (i : Int) (w : World) :
    Calls Tryd.prog 21 #[.int .i64 i] w fun e w' => ∃ la oa, e = .returned (.agg #[.int .i64 1, .slice la 1 1, .slice none 0 0, .slice oa 1 1]) ∧
      PairsAt w' la [(2, i)] ∧ IntsAt w' oa [4] ∧ Below w.heap.size w w' := by
  go_enter Tryd.func21, Tryd.ntmps21
  go_wp2
  refine bodyPost_ret (v := .agg #[.int .i64 1, .slice (some ⟨w.heap.size + 1, 0, none⟩) 1 1, .slice none 0 0, .slice (some ⟨w.heap.size + 1 + 1, 0, none⟩) 1 1]) (by simp [results, Tryd.results21, go_sem, World.cell?_alloc_past]) rfl ⟨_, _, rfl, ?_, ?_, ?_⟩
  · refine pairs_of_block (alloc_old (alloc_blk _ _ _ (by simp))) (fun j hj => ?_)
    match j, hj with
    | 0, _ => exact ⟨rfl, rfl⟩
  · refine ints_of_block (alloc_blk _ _ _ (by simp)) (fun j hj => ?_)
    match j, hj with
    | 0, _ => rfl
  · exact (((Below.refl _ _).alloc (Nat.le_refl _) _).alloc (by simp) _).alloc (by simp; omega) _

end Go.Proofs.YtgpaajdfkekjiaaDoor

namespace Go.Proofs.YtgpaajdfkekjiaaDoor
open Go.RowKit

def ints (vs : List Nat) : List Int := vs.map fun x => ((x : Nat) : Int)
theorem own_ints {w : World} {base g len cap : Nat} {vs : List Nat} (h : w.ownsRow base 3 1 (.slice (some ⟨g, 0, none⟩) len cap) len (ivals vs)) : IntsAt w (some ⟨g, 0, none⟩) (ints vs) := by
  have hl : vs.length = len := by have := h.1; rw [ivals_len] at this; omega
  refine .inr ⟨g, 0, rfl, (h.lt g rfl).2, fun i hi => ?_⟩
  have hi' : i < vs.length := by simpa [ints] using hi
  rw [own_cells h i (by omega)]
  simp [ints, hi']

theorem outs_len (n : Nat) (ls gs : List (Int × Int)) (os ins : List Int) : (outs n ls gs os ins).length = ins.length := by simp [outs]

/-- DOC.md's second example, run. -/
theorem ran_run (la oa ia : Option Addr) (w : World) (hL : PairsAt w la [(2, 0)]) (hO : IntsAt w oa [4]) (hI : IntsAt w ia [1, 0, 1]) :
    Calls Tryd.prog 13 #[.agg #[.int .i64 1, .slice la 1 1, .slice none 0 0, .slice oa 1 1], .slice ia 3 3] w fun e w' =>
      ∃ g, e = .returned (.tuple #[.slice (some ⟨g, 0, none⟩) 3 3, .int .i64 0]) ∧ IntsAt w' (some ⟨g, 0, none⟩) [0, 1, 0] ∧ Below w.heap.size w w' := by
  refine (run_ok 1 la none oa ia 1 0 1 3 [(2, 0)] [] [4] [1, 0, 1] w (by simp [maxLen]) hL (.inl rfl) hO hI (by decide) (by decide)).mono fun e w' h => ?_
  obtain ⟨g, he, hown, hb⟩ := h
  exact ⟨g, he, own_ints hown, hb⟩

theorem IntsAt.alloc_any {w : World} {a : Option Addr} {xs : List Int} (h : IntsAt w a xs) (o : Obj) : IntsAt (w.alloc o) a xs := h.below ((Below.refl _ _).alloc (Nat.le_refl _) _)
theorem PairsAt.alloc_any {w : World} {a : Option Addr} {xs : List (Int × Int)} (h : PairsAt w a xs) (o : Obj) : PairsAt (w.alloc o) a xs := h.below ((Below.refl _ _).alloc (Nat.le_refl _) _)

theorem ints3 (w : World) (x y z : Int) (B : Nat) (hB : B = w.heap.size) : IntsAt (w.alloc (.cells #[.int .i64 x, .int .i64 y, .int .i64 z] 3)) (some ⟨B, 0, none⟩) [x, y, z] := by
  refine ints_of_block (alloc_blk _ _ _ hB) (fun j hj => ?_)
  match j, hj with
  | 0, _ => rfl
  | 1, _ => rfl
  | 2, _ => rfl

theorem sameInts_010 (aa ba : Option Addr) (w : World) (hX : IntsAt w aa [0, 1, 0]) (hY : IntsAt w ba [0, 1, 0]) :
    Calls Tryd.prog 16 #[.slice aa 3 3, .slice ba 3 3] w fun e w' => e = .returned (.bool true) ∧ Below w.heap.size w w' :=
  (sameInts_any aa ba 3 3 [0, 1, 0] [0, 1, 0] w (by simp [maxLen]) (by simp [maxLen]) hX hY).mono fun e w' h => ⟨h.1, h.2⟩

set_option maxHeartbeats 400000 in
set_option maxRecDepth 100000 in
theorem ran_any (w : World) : Calls Tryd.prog 11 #[] w fun e w' => e = .returned (.bool true) ∧ Below w.heap.size w w' := by
  go_enter Tryd.func11, Tryd.ntmps11
  go_wp2_with (first | (go_at_call 21; refine (delay_any _ _).mono ?_; rintro e w1 ⟨la, oa, rfl, hL, hO, b1⟩) | (go_at_call 13; refine (ran_run la oa _ _ (hL.alloc_any _) (hO.alloc_any _) (ints3 _ _ _ _ _ rfl)).mono ?_; rintro e w2 ⟨g, rfl, hR, b2⟩) | (go_at_call 16; refine (sameInts_010 _ _ _ (hR.alloc_any _) (ints3 _ _ _ _ _ rfl)).mono ?_; rintro e w3 ⟨rfl, b3⟩))
  go_ret
  have s1 := b1.size
  have s2 := b2.size
  simp at s2
  refine ⟨rfl, (((b1.alloc (by omega) _).trans (b2.mono (by simp; omega))).alloc (by omega) _).trans (b3.mono (by simp; omega))⟩

end Go.Proofs.YtgpaajdfkekjiaaDoor
