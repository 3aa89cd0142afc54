/-
  What the small functions of package latchkeep answer: sameInts, delay, inputs, ran.
-/
import Derived.Test.YtgpaajdfkekjiabRunOk
import Derived.Test.YtgpaajdfkekjiabPick
import Derived.Test.YtgpaajdfkekjiabMem
namespace Go.Proofs.Ytgpaajdfkekjiab
open Go.RowKit

theorem ints_eq_of {xs ys : List Int} (hl : xs.length = ys.length) (h : ∀ j, j < xs.length → xs.getD j 0 = ys.getD j 0) : xs = ys := by
  apply List.ext_getElem hl
  intro i h1 h2
  have := h i h1
  simpa [h1, h2] using this

set_option maxHeartbeats 1000000 in
set_option maxRecDepth 100000 in
theorem sameInts_any (aa ba : Option Addr) (ac bc : Nat) (xs ys : List Int) (w : World) (hx : xs.length ≤ maxLen) (hy : ys.length ≤ maxLen) (hX : IntsAt w aa xs) (hY : IntsAt w ba ys) :
    Calls Try.prog 10 #[.slice aa xs.length ac, .slice ba ys.length bc] w fun e w' => e = .returned (.bool (decide (xs = ys))) ∧ Below w.heap.size w w' := by
  unfold maxLen at hx hy
  by_cases hl : xs.length = ys.length
  · have HL : Hid (xs.length = ys.length) := hl
    clear hl
    have hln : ((xs.length : Int) != (ys.length : Int)) = false := by rw [HL.out]; simp
    go_enter Try.func10, Try.ntmps10
    go_wp2
    go_loopw [5] (fun i wr => ∃ k : Nat, k ≤ xs.length ∧ i = .int .i64 k ∧ (∀ j, j < k → xs.getD j 0 = ys.getD j 0) ∧ Below w.heap.size w wr) (fun i _ => xs.length - (intOf i).toNat)
    case atStart => exact ⟨0, Nat.zero_le _, rfl, fun j hj => absurd hj (Nat.not_lt_zero j), Below.refl _ _⟩
    case round =>
      obtain ⟨k, hk, rfl, hall, hbel⟩ := hrel
      have HA : Hid (∀ j, j < k → xs.getD j 0 = ys.getD j 0) := hall
      clear hall
      by_cases hk2 : k < xs.length
      · have hk3 : k < ys.length := by rw [← HL.out]; exact hk2
        obtain ⟨b, off, rfl, hlt, hc⟩ := hX.get (by omega)
        obtain ⟨b', off', rfl, hlt', hc'⟩ := hY.get (by omega)
        have hcy : wr.cell? ⟨b, off + k, none⟩ = some (.int .i64 (xs.getD k 0)) := (hbel.cell (p := ⟨b, _, none⟩) hlt).trans (hc k hk2)
        have hcz : wr.cell? ⟨b', off' + k, none⟩ = some (.int .i64 (ys.getD k 0)) := (hbel.cell (p := ⟨b', _, none⟩) hlt').trans (hc' k hk3)
        obtain ⟨x, hx'⟩ : ∃ x, x = xs.getD k 0 := ⟨_, rfl⟩
        obtain ⟨y, hy'⟩ : ∃ y, y = ys.getD k 0 := ⟨_, rfl⟩
        rw [← hx'] at hcy
        rw [← hy'] at hcz
        have HX : Hid (x = xs.getD k 0) := hx'
        have HY : Hid (y = ys.getD k 0) := hy'
        have k1 : (k : Int) < (xs.length : Int) := by omega
        have k2 : (k : Int) < (ys.length : Int) := by omega
        clear hx' hy' hc hc' hln
        by_cases hq : x = y
        · subst hq
          go_wp2
          go_quiet (fail)
          go_wp2
          go_roundw
          case rel => exact ⟨k + 1, by omega, by go_num, all_succ HA.out (by rw [← HX.out, ← HY.out]), by first | exact hbel.drew | exact below_drewN hbel _⟩
          case measure => simp [intOf]; omega
        · have hq2 : (x != y) = true := by simp [hq]
          go_wp2
          go_quiet (fail)
          go_wp2
          go_ret
          exact ⟨ret_bool (decide_eq_false (fun e => hq (by rw [HX.out, HY.out, e]))).symm, by first | exact hbel.drew | exact below_drewN hbel _⟩
      · clear hln
        go_wp2
        go_ret
        exact ⟨ret_bool (decide_eq_true (ints_eq_of HL.out (fun i hi => HA.out i (by omega)))).symm, hbel⟩
  · have hln : ((xs.length : Int) != (ys.length : Int)) = true := by simp; omega
    go_enter Try.func10, Try.ntmps10
    go_wp2
    go_ret
    exact ⟨ret_bool (decide_eq_false (fun e => hl (by rw [e]))).symm, Below.refl _ _⟩

set_option maxHeartbeats 400000 in
set_option maxRecDepth 100000 in
theorem delay_any (i : Int) (w : World) :
    Calls Try.prog 9 #[.int .i64 i] w fun e w' => ∃ la oa, e = .returned (.agg #[.int .i64 1, .slice la 1 1, .slice none 0 0, .slice oa 1 1]) ∧
      PairsAt w' la [(2, i)] ∧ IntsAt w' oa [4] ∧ Below w.heap.size w w' := by
  go_enter Try.func9, Try.ntmps9
  go_wp2
  refine bodyPost_ret (v := .agg #[.int .i64 1, .slice (some ⟨w.heap.size + 1, 0, none⟩) 1 1, .slice none 0 0, .slice (some ⟨w.heap.size + 1 + 1, 0, none⟩) 1 1]) (by simp [results, Try.results9, go_sem, World.cell?_alloc_past]) rfl ⟨_, _, rfl, ?_, ?_, ?_⟩
  · refine pairs_of_block (alloc_old (alloc_blk _ _ _ (by simp))) (fun j hj => ?_)
    match j, hj with
    | 0, _ => exact ⟨rfl, rfl⟩
  · refine ints_of_block (alloc_blk _ _ _ (by simp)) (fun j hj => ?_)
    match j, hj with
    | 0, _ => rfl
  · exact (((Below.refl _ _).alloc (Nat.le_refl _) _).alloc (by simp) _).alloc (by simp; omega) _

end Go.Proofs.Ytgpaajdfkekjiab
