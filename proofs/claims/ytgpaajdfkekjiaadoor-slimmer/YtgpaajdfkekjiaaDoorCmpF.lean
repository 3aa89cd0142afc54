/-
  Package heap at package compare's ways: down.
-/
import Derived.Test.YtgpaajdfkekjiaaDoorMCmpE
namespace Go.Proofs.YtgpaajdfkekjiaaDoor
open Go.RowKit

theorem swapE_far (es : List (List Nat × Value)) {i j : Nat} (k : Nat) (hi : k ≠ i) (hj : k ≠ j) : (swapE es i j).getD k noWay = es.getD k noWay := by
  unfold swapE
  simp only [List.getD_eq_getElem?_getD]
  rw [List.getElem?_set_ne (by omega), List.getElem?_set_ne (by omega)]

theorem belW {w w' : World} {n : Nat} (h : w' = w.drewN n) : Below w.heap.size w w' := by rw [h]; exact below_drewN (Below.refl _ _) n

set_option maxHeartbeats 4000000 in
set_option maxRecDepth 100000 in
theorem down_any (M : Duo) (B P : Nat) (hv : Value) (es : List (List Nat × Value)) (n : Nat) (w : World) (h : WaysAt M B w P hv es) (hg : GoodW es) (hnl : n ≤ es.length) (hn : es.length ≤ 10000) (hu : DownInv (keysE es) n 0) :
    Calls Tryd.prog 63 #[heapI P, .int .i64 0, .int .i64 n] w fun r w' => (∃ b, r = .returned (.bool b)) ∧ ∃ es', es'.Perm es ∧ (∀ k, n ≤ k → es'.getD k noWay = es.getD k noWay) ∧ WaysAt M B w' P hv es' ∧ IsHeap (keysE es') n ∧ Keeps (heapBlocks P hv) w w' := by
  unfold heapI
  go_enter Tryd.func63, Tryd.ntmps63
  go_wp2_with fail
  go_loopw [7, 8, 9, 10] (fun iv _ _ _ wr => ∃ (i : Nat) (es' : List (List Nat × Value)), iv = .int .i64 i ∧ i ≤ 10000 ∧ es'.Perm es ∧ (∀ k, n ≤ k → es'.getD k noWay = es.getD k noWay) ∧ WaysAt M B wr P hv es' ∧ DownInv (keysE es') n i ∧ Keeps (heapBlocks P hv) w wr) (fun iv _ _ _ _ => 10000 - (intOf iv).toNat)
  case atStart => exact ⟨0, es, rfl, Nat.zero_le _, List.Perm.refl _, fun _ _ => rfl, h, hu, Keeps.refl _ _⟩
  case round =>
    clear h hu
    obtain ⟨i, es', rfl, hi10, hp, hfar, h, hu, K⟩ := hrel
    have hlen : es'.length = es.length := hp.length_eq
    have cP := h.cell
    have HF := hideW hfar
    clear hfar
    by_cases hA : n ≤ 2 * i + 1
    · have hAI : (n : Int) ≤ 2 * (i : Int) + 1 := by omega
      have HD := hideW (hu.done (fun k k0 kn e => by omega))
      go_wp2
      go_ret
      exact ⟨⟨_, rfl⟩, es', hp, HF.out, h, HD.out, K⟩
    · obtain ⟨j1, hj1⟩ : ∃ j1 : Nat, 2 * i + 1 = j1 := ⟨_, rfl⟩
      obtain ⟨j2, hj2⟩ : ∃ j2 : Nat, j1 + 1 = j2 := ⟨_, rfl⟩
      have q1 : 2 * (i : Int) + 1 = (j1 : Int) := by omega
      have q2 : (j1 : Int) + 1 = (j2 : Int) := by omega
      have q3 : ¬ (n : Int) ≤ (j1 : Int) := by omega
      have q4 : ¬ (j1 : Int) < 0 := by omega
      have gd := hg.perm hp
      have il : i < es'.length := by omega
      have l1 : j1 < es'.length := by omega
      have gi := gd.at il
      have g1 := gd.at l1
      have mL := Tryd.mLess cP
      have ki := keyAt_E es' i
      have k1 := keyAt_E es' j1
      have hn10 : es'.length ≤ 10000 := by omega
      have HJ1 := hideW hj1
      have HJ2 := hideW hj2
      have HKI := hideW ki
      have HK1 := hideW k1
      have HU := hideW hu
      have HA := hideW hA
      have hi1 : i < 5000 := by omega
      clear hj1 hj2 ki k1 hu hA
      by_cases hB : j2 < n
      · have q5 : (j2 : Int) < (n : Int) := by omega
        have l2 : j2 < es'.length := by omega
        have g2 := gd.at l2
        have HK2 := hideW (keyAt_E es' j2)
        by_cases hc : code (es'.getD j2 noWay).1 < code (es'.getD j1 noWay).1
        · have lj := l2
          have gj := g2
          have HKJ := HK2
          have HLE := hideW (show ∀ k, 0 < k → k < n → (k - 1) / 2 = i → keyAt (keysE es') j2 ≤ keyAt (keysE es') k from fun k k0 kn e => by
            have a := HJ1.out
            have b := HJ2.out
            have : k = j1 ∨ k = j2 := by omega
            rcases this with rfl | rfl
            · rw [HK1.out, HK2.out]; omega
            · exact Nat.le_refl _)
          by_cases hlt : code (es'.getD j2 noWay).1 < code (es'.getD i noWay).1
          · have hK := HU.out.step (j := j2) (by have := HJ1.out; have := HJ2.out; omega) (by have := HJ1.out; have := HJ2.out; omega) (by have := HJ1.out; have := HJ2.out; omega) (by rw [keysE_len, hlen]; exact hnl) (by rw [HKI.out, HKJ.out]; exact hlt) HLE.out
            have HST := hideW hK
            clear hK
            go_wp2_with fail
            refine (less_is M B P hv es' j2 j1 _ h l2 l1 hn10 g2.1 g1.1 g2.2 (decide_eq_true hc)).mono ?_
            rintro e w0 ⟨rfl, n0, hw0⟩
            have bel0 : Below wr.heap.size wr w0 := by rw [hw0]; exact below_drewN (Below.refl _ _) n0
            clear hw0
            have hW := h.below bel0
            have mL2 := Tryd.mLess hW.cell
            have KW := K.trans (Keeps.of_below (S := heapBlocks P hv) bel0)
            go_wp2_with fail
            refine (less_is M B P hv es' j2 i _ hW lj il hn10 gj.1 gi.1 gj.2 (decide_eq_true hlt)).mono ?_
            rintro e w1 ⟨rfl, nq, hw1⟩
            have bel1 := belW hw1
            clear hw1
            have h1 := hW.below bel1
            have mS := Tryd.mSwap h1.cell
            go_wp2_with fail
            refine (swap_any M B P hv es' i j2 _ h1 il lj hn10).mono ?_
            rintro e w2 ⟨rfl, h2, K2⟩
            go_wp2
            go_roundw
            case rel =>
              have hst := HST.out
              rw [← keysE_swap] at hst
              exact ⟨j2, swapE es' i j2, rfl, by omega, (swapE_perm es' il lj).trans hp, fun k hk => by rw [swapE_far es' k (by have := HJ1.out; have := HJ2.out; omega) (by have := HJ1.out; have := HJ2.out; omega)]; exact HF.out k hk, h2, hst, (KW.trans (Keeps.of_below bel1)).trans K2⟩
            case measure => have := HJ1.out; have := HJ2.out; simp [intOf]; omega
          · have HST := hideW (HU.out.done (fun k k0 kn e => by have := HLE.out k k0 kn e; rw [HKJ.out] at this; rw [HKI.out]; omega))
            go_wp2_with fail
            refine (less_is M B P hv es' j2 j1 _ h l2 l1 hn10 g2.1 g1.1 g2.2 (decide_eq_true hc)).mono ?_
            rintro e w0 ⟨rfl, n0, hw0⟩
            have bel0 : Below wr.heap.size wr w0 := by rw [hw0]; exact below_drewN (Below.refl _ _) n0
            clear hw0
            have hW := h.below bel0
            have mL2 := Tryd.mLess hW.cell
            have KW := K.trans (Keeps.of_below (S := heapBlocks P hv) bel0)
            go_wp2_with fail
            refine (less_is M B P hv es' j2 i _ hW lj il hn10 gj.1 gi.1 gj.2 (decide_eq_false hlt)).mono ?_
            rintro e w1 ⟨rfl, nq, hw1⟩
            have bel1 := belW hw1
            clear hw1
            have h1 := hW.below bel1
            go_wp2
            go_ret
            exact ⟨⟨_, rfl⟩, es', hp, HF.out, h1, HST.out, KW.trans (Keeps.of_below bel1)⟩
        · have lj := l1
          have gj := g1
          have HKJ := HK1
          have HLE := hideW (show ∀ k, 0 < k → k < n → (k - 1) / 2 = i → keyAt (keysE es') j1 ≤ keyAt (keysE es') k from fun k k0 kn e => by
            have a := HJ1.out
            have b := HJ2.out
            have : k = j1 ∨ k = j2 := by omega
            rcases this with rfl | rfl
            · exact Nat.le_refl _
            · rw [HK1.out, HK2.out]; omega)
          by_cases hlt : code (es'.getD j1 noWay).1 < code (es'.getD i noWay).1
          · have hK := HU.out.step (j := j1) (by have := HJ1.out; have := HJ2.out; omega) (by have := HJ1.out; have := HJ2.out; omega) (by have := HJ1.out; have := HJ2.out; omega) (by rw [keysE_len, hlen]; exact hnl) (by rw [HKI.out, HKJ.out]; exact hlt) HLE.out
            have HST := hideW hK
            clear hK
            go_wp2_with fail
            refine (less_is M B P hv es' j2 j1 _ h l2 l1 hn10 g2.1 g1.1 g2.2 (decide_eq_false hc)).mono ?_
            rintro e w0 ⟨rfl, n0, hw0⟩
            have bel0 : Below wr.heap.size wr w0 := by rw [hw0]; exact below_drewN (Below.refl _ _) n0
            clear hw0
            have hW := h.below bel0
            have mL2 := Tryd.mLess hW.cell
            have KW := K.trans (Keeps.of_below (S := heapBlocks P hv) bel0)
            go_wp2_with fail
            refine (less_is M B P hv es' j1 i _ hW lj il hn10 gj.1 gi.1 gj.2 (decide_eq_true hlt)).mono ?_
            rintro e w1 ⟨rfl, nq, hw1⟩
            have bel1 := belW hw1
            clear hw1
            have h1 := hW.below bel1
            have mS := Tryd.mSwap h1.cell
            go_wp2_with fail
            refine (swap_any M B P hv es' i j1 _ h1 il lj hn10).mono ?_
            rintro e w2 ⟨rfl, h2, K2⟩
            go_wp2
            go_roundw
            case rel =>
              have hst := HST.out
              rw [← keysE_swap] at hst
              exact ⟨j1, swapE es' i j1, rfl, by omega, (swapE_perm es' il lj).trans hp, fun k hk => by rw [swapE_far es' k (by have := HJ1.out; have := HJ2.out; omega) (by have := HJ1.out; have := HJ2.out; omega)]; exact HF.out k hk, h2, hst, (KW.trans (Keeps.of_below bel1)).trans K2⟩
            case measure => have := HJ1.out; have := HJ2.out; simp [intOf]; omega
          · have HST := hideW (HU.out.done (fun k k0 kn e => by have := HLE.out k k0 kn e; rw [HKJ.out] at this; rw [HKI.out]; omega))
            go_wp2_with fail
            refine (less_is M B P hv es' j2 j1 _ h l2 l1 hn10 g2.1 g1.1 g2.2 (decide_eq_false hc)).mono ?_
            rintro e w0 ⟨rfl, n0, hw0⟩
            have bel0 : Below wr.heap.size wr w0 := by rw [hw0]; exact below_drewN (Below.refl _ _) n0
            clear hw0
            have hW := h.below bel0
            have mL2 := Tryd.mLess hW.cell
            have KW := K.trans (Keeps.of_below (S := heapBlocks P hv) bel0)
            go_wp2_with fail
            refine (less_is M B P hv es' j1 i _ hW lj il hn10 gj.1 gi.1 gj.2 (decide_eq_false hlt)).mono ?_
            rintro e w1 ⟨rfl, nq, hw1⟩
            have bel1 := belW hw1
            clear hw1
            have h1 := hW.below bel1
            go_wp2
            go_ret
            exact ⟨⟨_, rfl⟩, es', hp, HF.out, h1, HST.out, KW.trans (Keeps.of_below bel1)⟩
      · have q5 : ¬ (j2 : Int) < (n : Int) := by omega
        have lj := l1
        have gj := g1
        have HKJ := HK1
        have HLE := hideW (show ∀ k, 0 < k → k < n → (k - 1) / 2 = i → keyAt (keysE es') j1 ≤ keyAt (keysE es') k from fun k k0 kn e => by
          have a := HJ1.out
          have b := HJ2.out
          have : k = j1 := by omega
          rw [this]; exact Nat.le_refl _)
        by_cases hlt : code (es'.getD j1 noWay).1 < code (es'.getD i noWay).1
        · have hK := HU.out.step (j := j1) (by have := HJ1.out; have := HJ2.out; omega) (by have := HJ1.out; have := HJ2.out; omega) (by have := HJ1.out; have := HJ2.out; omega) (by rw [keysE_len, hlen]; exact hnl) (by rw [HKI.out, HKJ.out]; exact hlt) HLE.out
          have HST := hideW hK
          clear hK
          have hW := h
          have KW := K
          go_wp2_with fail
          refine (less_is M B P hv es' j1 i _ hW lj il hn10 gj.1 gi.1 gj.2 (decide_eq_true hlt)).mono ?_
          rintro e w1 ⟨rfl, nq, hw1⟩
          have bel1 := belW hw1
          clear hw1
          have h1 := hW.below bel1
          have mS := Tryd.mSwap h1.cell
          go_wp2_with fail
          refine (swap_any M B P hv es' i j1 _ h1 il lj hn10).mono ?_
          rintro e w2 ⟨rfl, h2, K2⟩
          go_wp2
          go_roundw
          case rel =>
            have hst := HST.out
            rw [← keysE_swap] at hst
            exact ⟨j1, swapE es' i j1, rfl, by omega, (swapE_perm es' il lj).trans hp, fun k hk => by rw [swapE_far es' k (by have := HJ1.out; have := HJ2.out; omega) (by have := HJ1.out; have := HJ2.out; omega)]; exact HF.out k hk, h2, hst, (KW.trans (Keeps.of_below bel1)).trans K2⟩
          case measure => have := HJ1.out; have := HJ2.out; simp [intOf]; omega
        · have HST := hideW (HU.out.done (fun k k0 kn e => by have := HLE.out k k0 kn e; rw [HKJ.out] at this; rw [HKI.out]; omega))
          have hW := h
          have KW := K
          go_wp2_with fail
          refine (less_is M B P hv es' j1 i _ hW lj il hn10 gj.1 gi.1 gj.2 (decide_eq_false hlt)).mono ?_
          rintro e w1 ⟨rfl, nq, hw1⟩
          have bel1 := belW hw1
          clear hw1
          have h1 := hW.below bel1
          go_wp2
          go_ret
          exact ⟨⟨_, rfl⟩, es', hp, HF.out, h1, HST.out, KW.trans (Keeps.of_below bel1)⟩

end Go.Proofs.YtgpaajdfkekjiaaDoor
