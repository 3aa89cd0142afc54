/-
  Package heap at package compare's ways: down.
  heap.Push and heap.Pop at package compare's ways: the least way first.
  heap.Pop at package compare's ways: the least way.
-/
import Derived.Test.YtgpaajdfkekjiaaGreatDoorCmpDME
import Derived.Test.YtgpaajdfkekjiaaGreatDoorSlimAll
namespace Go.Proofs.YtgpaajdfkekjiaaGreatDoor
open Go.RowKit

theorem swapE_far (es : List (List Nat × Value)) {i j : Nat} (k : Nat) (hi : k ≠ i) (hj : k ≠ j) : (swapE es i j).getD k noWay = es.getD k noWay := by
  unfold swapE
  simp only [List.getD_eq_getElem?_getD]
  rw [List.getElem?_set_ne (by omega), List.getElem?_set_ne (by omega)]

theorem belW {w w' : World} {n : Nat} (h : w' = w.drewN n) : Below w.heap.size w w' := by rw [h]; exact below_drewN (Below.refl _ _) n

set_option maxHeartbeats 4000000 in
set_option maxRecDepth 100000 in
theorem down_any (M : Duo) (B P : Nat) (hv : Value) (es : List (List Nat × Value)) (n : Nat) (w : World) (h : WaysAt M B w P hv es) (hg : GoodW es) (hnl : n ≤ es.length) (hn : es.length ≤ 10000) (hu : DownInv (keysE es) n 0) :
    Calls Tryz.prog 106 #[heapI P, .int .i64 0, .int .i64 n] w fun r w' => (∃ b, r = .returned (.bool b)) ∧ ∃ es', es'.Perm es ∧ (∀ k, n ≤ k → es'.getD k noWay = es.getD k noWay) ∧ WaysAt M B w' P hv es' ∧ IsHeap (keysE es') n ∧ Keeps (heapBlocks P hv) w w' := by
  unfold heapI
  go_enter Tryz.func106, Tryz.ntmps106
  go_wp2_with fail
  go_loopw [7, 8, 9, 10] (fun iv _ _ _ wr => ∃ (i : Nat) (es' : List (List Nat × Value)), iv = .int .i64 i ∧ i ≤ 10000 ∧ es'.Perm es ∧ (∀ k, n ≤ k → es'.getD k noWay = es.getD k noWay) ∧ WaysAt M B wr P hv es' ∧ DownInv (keysE es') n i ∧ Keeps (heapBlocks P hv) w wr) (fun iv _ _ _ _ => 10000 - (intOf iv).toNat)
  case atStart => exact ⟨0, es, rfl, Nat.zero_le _, List.Perm.refl _, fun _ _ => rfl, h, hu, Keeps.refl _ _⟩
  case round =>
    clear h hu
    obtain ⟨i, es', rfl, hi10, hp, hfar, h, hu, K⟩ := hrel
    have hlen : es'.length = es.length := hp.length_eq
    have cP := h.cell
    have HF := hideW hfar
    clear hfar
    by_cases hA : n ≤ 2 * i + 1
    · have hAI : (n : Int) ≤ 2 * (i : Int) + 1 := by omega
      have HD := hideW (hu.done (fun k k0 kn e => by omega))
      go_wp2
      go_ret
      exact ⟨⟨_, rfl⟩, es', hp, HF.out, h, HD.out, K⟩
    · obtain ⟨j1, hj1⟩ : ∃ j1 : Nat, 2 * i + 1 = j1 := ⟨_, rfl⟩
      obtain ⟨j2, hj2⟩ : ∃ j2 : Nat, j1 + 1 = j2 := ⟨_, rfl⟩
      have q1 : 2 * (i : Int) + 1 = (j1 : Int) := by omega
      have q2 : (j1 : Int) + 1 = (j2 : Int) := by omega
      have q3 : ¬ (n : Int) ≤ (j1 : Int) := by omega
      have q4 : ¬ (j1 : Int) < 0 := by omega
      have gd := hg.perm hp
      have il : i < es'.length := by omega
      have l1 : j1 < es'.length := by omega
      have gi := gd.at il
      have g1 := gd.at l1
      have mL := Tryz.mLess cP
      have ki := keyAt_E es' i
      have k1 := keyAt_E es' j1
      have hn10 : es'.length ≤ 10000 := by omega
      have HJ1 := hideW hj1
      have HJ2 := hideW hj2
      have HKI := hideW ki
      have HK1 := hideW k1
      have HU := hideW hu
      have HA := hideW hA
      have hi1 : i < 5000 := by omega
      clear hj1 hj2 ki k1 hu hA
      by_cases hB : j2 < n
      · have q5 : (j2 : Int) < (n : Int) := by omega
        have l2 : j2 < es'.length := by omega
        have g2 := gd.at l2
        have HK2 := hideW (keyAt_E es' j2)
        by_cases hc : code (es'.getD j2 noWay).1 < code (es'.getD j1 noWay).1
        · have lj := l2
          have gj := g2
          have HKJ := HK2
          have HLE := hideW (show ∀ k, 0 < k → k < n → (k - 1) / 2 = i → keyAt (keysE es') j2 ≤ keyAt (keysE es') k from fun k k0 kn e => by
            have a := HJ1.out
            have b := HJ2.out
            have : k = j1 ∨ k = j2 := by omega
            rcases this with rfl | rfl
            · rw [HK1.out, HK2.out]; omega
            · exact Nat.le_refl _)
          by_cases hlt : code (es'.getD j2 noWay).1 < code (es'.getD i noWay).1
          · have hK := HU.out.step (j := j2) (by have := HJ1.out; have := HJ2.out; omega) (by have := HJ1.out; have := HJ2.out; omega) (by have := HJ1.out; have := HJ2.out; omega) (by rw [keysE_len, hlen]; exact hnl) (by rw [HKI.out, HKJ.out]; exact hlt) HLE.out
            have HST := hideW hK
            clear hK
            go_wp2_with fail
            refine (less_is M B P hv es' j2 j1 _ h l2 l1 hn10 g2.1 g1.1 g2.2 (decide_eq_true hc)).mono ?_
            rintro e w0 ⟨rfl, n0, hw0⟩
            have bel0 : Below wr.heap.size wr w0 := by rw [hw0]; exact below_drewN (Below.refl _ _) n0
            clear hw0
            have hW := h.below bel0
            have mL2 := Tryz.mLess hW.cell
            have KW := K.trans (Keeps.of_below (S := heapBlocks P hv) bel0)
            go_wp2_with fail
            refine (less_is M B P hv es' j2 i _ hW lj il hn10 gj.1 gi.1 gj.2 (decide_eq_true hlt)).mono ?_
            rintro e w1 ⟨rfl, nq, hw1⟩
            have bel1 := belW hw1
            clear hw1
            have h1 := hW.below bel1
            have mS := Tryz.mSwap h1.cell
            go_wp2_with fail
            refine (swap_any M B P hv es' i j2 _ h1 il lj hn10).mono ?_
            rintro e w2 ⟨rfl, h2, K2⟩
            go_wp2
            go_roundw
            case rel =>
              have hst := HST.out
              rw [← keysE_swap] at hst
              exact ⟨j2, swapE es' i j2, rfl, by omega, (swapE_perm es' il lj).trans hp, fun k hk => by rw [swapE_far es' k (by have := HJ1.out; have := HJ2.out; omega) (by have := HJ1.out; have := HJ2.out; omega)]; exact HF.out k hk, h2, hst, (KW.trans (Keeps.of_below bel1)).trans K2⟩
            case measure => have := HJ1.out; have := HJ2.out; simp [intOf]; omega
          · have HST := hideW (HU.out.done (fun k k0 kn e => by have := HLE.out k k0 kn e; rw [HKJ.out] at this; rw [HKI.out]; omega))
            go_wp2_with fail
            refine (less_is M B P hv es' j2 j1 _ h l2 l1 hn10 g2.1 g1.1 g2.2 (decide_eq_true hc)).mono ?_
            rintro e w0 ⟨rfl, n0, hw0⟩
            have bel0 : Below wr.heap.size wr w0 := by rw [hw0]; exact below_drewN (Below.refl _ _) n0
            clear hw0
            have hW := h.below bel0
            have mL2 := Tryz.mLess hW.cell
            have KW := K.trans (Keeps.of_below (S := heapBlocks P hv) bel0)
            go_wp2_with fail
            refine (less_is M B P hv es' j2 i _ hW lj il hn10 gj.1 gi.1 gj.2 (decide_eq_false hlt)).mono ?_
            rintro e w1 ⟨rfl, nq, hw1⟩
            have bel1 := belW hw1
            clear hw1
            have h1 := hW.below bel1
            go_wp2
            go_ret
            exact ⟨⟨_, rfl⟩, es', hp, HF.out, h1, HST.out, KW.trans (Keeps.of_below bel1)⟩
        · have lj := l1
          have gj := g1
          have HKJ := HK1
          have HLE := hideW (show ∀ k, 0 < k → k < n → (k - 1) / 2 = i → keyAt (keysE es') j1 ≤ keyAt (keysE es') k from fun k k0 kn e => by
            have a := HJ1.out
            have b := HJ2.out
            have : k = j1 ∨ k = j2 := by omega
            rcases this with rfl | rfl
            · exact Nat.le_refl _
            · rw [HK1.out, HK2.out]; omega)
          by_cases hlt : code (es'.getD j1 noWay).1 < code (es'.getD i noWay).1
          · have hK := HU.out.step (j := j1) (by have := HJ1.out; have := HJ2.out; omega) (by have := HJ1.out; have := HJ2.out; omega) (by have := HJ1.out; have := HJ2.out; omega) (by rw [keysE_len, hlen]; exact hnl) (by rw [HKI.out, HKJ.out]; exact hlt) HLE.out
            have HST := hideW hK
            clear hK
            go_wp2_with fail
            refine (less_is M B P hv es' j2 j1 _ h l2 l1 hn10 g2.1 g1.1 g2.2 (decide_eq_false hc)).mono ?_
            rintro e w0 ⟨rfl, n0, hw0⟩
            have bel0 : Below wr.heap.size wr w0 := by rw [hw0]; exact below_drewN (Below.refl _ _) n0
            clear hw0
            have hW := h.below bel0
            have mL2 := Tryz.mLess hW.cell
            have KW := K.trans (Keeps.of_below (S := heapBlocks P hv) bel0)
            go_wp2_with fail
            refine (less_is M B P hv es' j1 i _ hW lj il hn10 gj.1 gi.1 gj.2 (decide_eq_true hlt)).mono ?_
            rintro e w1 ⟨rfl, nq, hw1⟩
            have bel1 := belW hw1
            clear hw1
            have h1 := hW.below bel1
            have mS := Tryz.mSwap h1.cell
            go_wp2_with fail
            refine (swap_any M B P hv es' i j1 _ h1 il lj hn10).mono ?_
            rintro e w2 ⟨rfl, h2, K2⟩
            go_wp2
            go_roundw
            case rel =>
              have hst := HST.out
              rw [← keysE_swap] at hst
              exact ⟨j1, swapE es' i j1, rfl, by omega, (swapE_perm es' il lj).trans hp, fun k hk => by rw [swapE_far es' k (by have := HJ1.out; have := HJ2.out; omega) (by have := HJ1.out; have := HJ2.out; omega)]; exact HF.out k hk, h2, hst, (KW.trans (Keeps.of_below bel1)).trans K2⟩
            case measure => have := HJ1.out; have := HJ2.out; simp [intOf]; omega
          · have HST := hideW (HU.out.done (fun k k0 kn e => by have := HLE.out k k0 kn e; rw [HKJ.out] at this; rw [HKI.out]; omega))
            go_wp2_with fail
            refine (less_is M B P hv es' j2 j1 _ h l2 l1 hn10 g2.1 g1.1 g2.2 (decide_eq_false hc)).mono ?_
            rintro e w0 ⟨rfl, n0, hw0⟩
            have bel0 : Below wr.heap.size wr w0 := by rw [hw0]; exact below_drewN (Below.refl _ _) n0
            clear hw0
            have hW := h.below bel0
            have mL2 := Tryz.mLess hW.cell
            have KW := K.trans (Keeps.of_below (S := heapBlocks P hv) bel0)
            go_wp2_with fail
            refine (less_is M B P hv es' j1 i _ hW lj il hn10 gj.1 gi.1 gj.2 (decide_eq_false hlt)).mono ?_
            rintro e w1 ⟨rfl, nq, hw1⟩
            have bel1 := belW hw1
            clear hw1
            have h1 := hW.below bel1
            go_wp2
            go_ret
            exact ⟨⟨_, rfl⟩, es', hp, HF.out, h1, HST.out, KW.trans (Keeps.of_below bel1)⟩
      · have q5 : ¬ (j2 : Int) < (n : Int) := by omega
        have lj := l1
        have gj := g1
        have HKJ := HK1
        have HLE := hideW (show ∀ k, 0 < k → k < n → (k - 1) / 2 = i → keyAt (keysE es') j1 ≤ keyAt (keysE es') k from fun k k0 kn e => by
          have a := HJ1.out
          have b := HJ2.out
          have : k = j1 := by omega
          rw [this]; exact Nat.le_refl _)
        by_cases hlt : code (es'.getD j1 noWay).1 < code (es'.getD i noWay).1
        · have hK := HU.out.step (j := j1) (by have := HJ1.out; have := HJ2.out; omega) (by have := HJ1.out; have := HJ2.out; omega) (by have := HJ1.out; have := HJ2.out; omega) (by rw [keysE_len, hlen]; exact hnl) (by rw [HKI.out, HKJ.out]; exact hlt) HLE.out
          have HST := hideW hK
          clear hK
          have hW := h
          have KW := K
          go_wp2_with fail
          refine (less_is M B P hv es' j1 i _ hW lj il hn10 gj.1 gi.1 gj.2 (decide_eq_true hlt)).mono ?_
          rintro e w1 ⟨rfl, nq, hw1⟩
          have bel1 := belW hw1
          clear hw1
          have h1 := hW.below bel1
          have mS := Tryz.mSwap h1.cell
          go_wp2_with fail
          refine (swap_any M B P hv es' i j1 _ h1 il lj hn10).mono ?_
          rintro e w2 ⟨rfl, h2, K2⟩
          go_wp2
          go_roundw
          case rel =>
            have hst := HST.out
            rw [← keysE_swap] at hst
            exact ⟨j1, swapE es' i j1, rfl, by omega, (swapE_perm es' il lj).trans hp, fun k hk => by rw [swapE_far es' k (by have := HJ1.out; have := HJ2.out; omega) (by have := HJ1.out; have := HJ2.out; omega)]; exact HF.out k hk, h2, hst, (KW.trans (Keeps.of_below bel1)).trans K2⟩
          case measure => have := HJ1.out; have := HJ2.out; simp [intOf]; omega
        · have HST := hideW (HU.out.done (fun k k0 kn e => by have := HLE.out k k0 kn e; rw [HKJ.out] at this; rw [HKI.out]; omega))
          have hW := h
          have KW := K
          go_wp2_with fail
          refine (less_is M B P hv es' j1 i _ hW lj il hn10 gj.1 gi.1 gj.2 (decide_eq_false hlt)).mono ?_
          rintro e w1 ⟨rfl, nq, hw1⟩
          have bel1 := belW hw1
          clear hw1
          have h1 := hW.below bel1
          go_wp2
          go_ret
          exact ⟨⟨_, rfl⟩, es', hp, HF.out, h1, HST.out, KW.trans (Keeps.of_below bel1)⟩

end Go.Proofs.YtgpaajdfkekjiaaGreatDoor

namespace Go.Proofs.YtgpaajdfkekjiaaGreatDoor
open Go.RowKit

theorem Keeps.trans' {S T : Nat → Prop} {a b c : World} (h : Keeps S a b) (k : Keeps T b c) (hT : ∀ i, i < a.heap.size → T i → S i) : Keeps S a c :=
  ⟨k.os.trans h.os, k.tape.trans h.tape, k.output.trans h.output, Nat.le_trans h.size k.size, fun i hi ho => (k.block i (Nat.lt_of_lt_of_le hi h.size) (fun t => ho (hT i hi t))).trans (h.block i hi ho)⟩
theorem keysE_snoc (es : List (List Nat × Value)) (e : List Nat × Value) : keysE (es ++ [e]) = keysE es ++ [e.1] := by simp [keysE]

set_option maxHeartbeats 2000000 in
set_option maxRecDepth 100000 in
theorem heapPush_any (M : Duo) (B P : Nat) (hv : Value) (es : List (List Nat × Value)) (e : List Nat × Value) (w : World) (h : WaysAt M B w P hv es) (hg : GoodW es) (hd : Dig e.1 ∧ e.1.length ≤ 500) (he : InAt w (inX B P hv) e.2 e.1) (hn : es.length ≤ 9000) (hB : B ≤ w.heap.size) (hH : IsHeap (keysE es) es.length) :
    Calls Tryz.prog 88 #[heapI P, .iface 148 (wayV M e)] w fun r w' => r = .returned (.tuple #[]) ∧ ∃ hv' es', es'.Perm (es ++ [e]) ∧ WaysAt M B w' P hv' es' ∧ IsHeap (keysE es') es'.length ∧ Keeps (heapBlocks P hv) w w' ∧ ∀ q, hv'.ownBlock = some q → hv.ownBlock = some q ∨ w.heap.size ≤ q := by
  have mP := Tryz.mPush P w
  have hu := UpInv.push (l := keysE es) (by rw [keysE_len]; exact hH) e.1
  rw [← keysE_snoc, keysE_len] at hu
  have HU := hideW hu
  have hgood : GoodW (es ++ [e]) := fun x hx => by
    rcases List.mem_append.1 hx with hx | hx
    · exact hg x hx
    · simp at hx; subst hx; exact hd
  have hl : (es ++ [e]).length = es.length + 1 := by simp
  have HL := hideW hl
  have HH := hideW hH
  clear hu hl hH
  unfold heapI
  go_enter Tryz.func88, Tryz.ntmps88
  go_wp2_with fail
  refine (push_any M B P hv es e _ h he (by omega) hB).mono ?_
  rintro r w1 ⟨rfl, hv1, ⟨h1, hnew⟩, K1⟩
  obtain ⟨g, cap, hsl, _⟩ := h1.slice (by rw [HL.out]; omega)
  rw [HL.out] at hsl
  have HS := hideW hsl
  clear hsl
  have mL := Tryz.mLen h1.cell
  have HN := hideW hnew
  clear hnew
  go_wp2_with fail
  refine (len_any hv1 _ _ _ _ HS.out).mono ?_
  rintro r w2 ⟨rfl, hw2⟩
  obtain rfl := hw2.symm
  have q1 : ((es.length + 1 : Nat) : Int) - 1 = (es.length : Int) := by omega
  have hup := up_any M B P hv1 (es ++ [e]) es.length w1 h1 hgood (by rw [HL.out]; omega) (by rw [HL.out]; omega) (by rw [HL.out]; exact HU.out)
  rw [HL.out] at hup
  unfold heapI at hup
  go_wp2_with fail
  refine hup.mono ?_
  rintro r w3 ⟨rfl, es', hp, h3, hh, K3⟩
  have fin := hideW (K1.trans' K3 (fun k hk hb => by
    rcases hb with hb | hb
    · exact .inl hb
    · rcases HN.out k hb with hb | hb
      · exact .inr hb
      · omega))
  go_wp2
  go_end0
  exact ⟨rfl, hv1, es', hp, h3, by rw [hp.length_eq, HL.out]; exact hh, fin.out, HN.out⟩

end Go.Proofs.YtgpaajdfkekjiaaGreatDoor

namespace Go.Proofs.YtgpaajdfkekjiaaGreatDoor
open Go.RowKit

theorem snoc_of_len {α : Type} (l : List α) (n : Nat) (d : α) (h : l.length = n + 1) : l = l.take n ++ [l.getD n d] := by
  have := take_getD l d n (by omega)
  rw [← this, List.take_of_length_le (by omega)]

set_option maxHeartbeats 2000000 in
set_option maxRecDepth 100000 in
theorem heapPop_any (M : Duo) (B P : Nat) (hv : Value) (es : List (List Nat × Value)) (w : World) (h : WaysAt M B w P hv es) (hg : GoodW es) (h0 : 0 < es.length) (hn : es.length ≤ 10000) (hH : IsHeap (keysE es) es.length) :
    Calls Tryz.prog 86 #[heapI P] w fun r w' => ∃ e es' hv', r = .returned (.iface 148 (wayV M e)) ∧ (e :: es').Perm es ∧ (∀ x ∈ es', code e.1 ≤ code x.1) ∧ WaysAt M B w' P hv' es' ∧ IsHeap (keysE es') es'.length ∧ InAt w' (inX B P hv') e.2 e.1 ∧ hv'.ownBlock = hv.ownBlock ∧ Keeps (heapBlocks P hv) w w' := by
  obtain ⟨n, hnl⟩ : ∃ n, es.length = n + 1 := ⟨es.length - 1, by omega⟩
  obtain ⟨g, cap, hsl, _⟩ := h.slice h0
  rw [hnl] at hsl hH
  have HS := hideW hsl
  have HL := hideW hnl
  have hdn := DownInv.pop (l := keysE es) (n := n) hH (by rw [keysE_len]; exact hnl)
  rw [← keysE_swap] at hdn
  have HD := hideW hdn
  have HH := hideW hH
  have mL := Tryz.mLen h.cell
  have mS := Tryz.mSwap h.cell
  have q1 : ((n + 1 : Nat) : Int) - 1 = (n : Int) := by omega
  have hn' : n ≤ 10000 := by omega
  clear hsl hnl hdn hH
  unfold heapI
  go_enter Tryz.func86, Tryz.ntmps86
  go_wp2_with fail
  refine (len_any hv _ _ _ _ HS.out).mono ?_
  rintro r w2 ⟨rfl, hw2⟩
  obtain rfl := hw2.symm
  have hsw := swap_any M B P hv es 0 n w h h0 (by rw [HL.out]; omega) hn
  rw [show ((0 : Nat) : Int) = 0 from rfl] at hsw
  go_wp2_with fail
  refine hsw.mono ?_
  clear hsw
  rintro r w3 ⟨rfl, h3, K3⟩
  have hdc := down_any M B P hv (swapE es 0 n) n w3 h3 (hg.perm (swapE_perm es h0 (by rw [HL.out]; omega))) (by rw [swapE_len, HL.out]; omega) (by rw [swapE_len]; exact hn) HD.out
  unfold heapI at hdc
  go_wp2_with fail
  refine hdc.mono ?_
  rintro r w4 ⟨⟨bb, rfl⟩, es2, hp2, hfar, h4, hh, K4⟩
  clear hdc
  have hl2 : es2.length = n + 1 := by rw [hp2.length_eq, swapE_len, HL.out]
  have hsn := snoc_of_len es2 n noWay hl2
  have he0 : es2.getD n noWay = es.getD 0 noWay := by
    rw [hfar n (Nat.le_refl _)]
    unfold swapE
    have : n < es.length := by rw [HL.out]; omega
    simp only [List.getD_eq_getElem?_getD]
    rw [List.getElem?_set_self (by simpa using this)]
    rfl
  obtain ⟨e, hE⟩ : ∃ e, e = es2.getD n noWay := ⟨_, rfl⟩
  obtain ⟨es3, hE3⟩ : ∃ es3, es3 = es2.take n := ⟨_, rfl⟩
  rw [← hE, ← hE3] at hsn
  rw [hsn] at h4 hp2 hh
  have hl3 : es3.length = n := by rw [hE3, List.length_take]; omega
  have HP2 := hideW hp2
  have HHh := hideW hh
  have HE := hideW (hE.trans he0)
  have HL3 := hideW hl3
  have mP := Tryz.mPop P w4
  clear hsn hE hE3 he0 hfar hl2 hp2 hh
  go_wp2_with fail
  refine (pop_any M B P hv es3 e w4 h4 (by rw [HL3.out]; rw [HL.out] at hn; omega)).mono ?_
  rintro r w5 ⟨rfl, hv5, h5, hob, K5⟩
  have HO := hideW hob
  clear hob
  have hperm : (e :: es3).Perm es := (List.perm_append_comm (l₁ := [e]) (l₂ := es3)).trans (HP2.out.trans (swapE_perm es h0 (by rw [HL.out]; omega)))
  have HPm := hideW hperm
  have hmin : ∀ x ∈ es3, code e.1 ≤ code x.1 := fun x hx => by
    have hxe : x ∈ es := HPm.out.mem_iff.1 (List.mem_cons_of_mem _ hx)
    obtain ⟨k, hk, rfl⟩ := List.getElem_of_mem hxe
    have := HH.out.least k (by rw [HL.out] at hk; omega)
    rw [keyAt_E, keyAt_E, ← HE.out] at this
    have e2 : es.getD k noWay = es[k] := by rw [List.getD_eq_getElem?_getD, List.getElem?_eq_getElem hk]; rfl
    rw [e2] at this
    exact this
  have HM := hideW hmin
  have hin := (h4.ins e (by simp)).keeps K5 (fun k hk => .inl (.inl hk))
  have HI := hideW (hin.mono (Y := inX B P hv5) (fun k _ hk => by
    rcases hk with (hk | hk) | hk
    · exact .inl (.inl hk)
    · exact .inl (.inr (by rw [← HO.out]; exact hk))
    · exact .inr hk))
  have hheap : IsHeap (keysE es3) es3.length := fun k k0 kn => by
    rw [HL3.out] at kn
    have := HHh.out k k0 kn
    rw [keyAt_E, keyAt_E] at this ⊢
    rw [getD_snoc_lt (by rw [HL3.out]; omega), getD_snoc_lt (by rw [HL3.out]; omega)] at this
    exact this
  have HHp := hideW hheap
  have KF := hideW ((K3.trans K4).trans' K5 (fun k _ hk => .inl hk))
  clear hperm hmin hin hheap
  go_wp2
  go_ret
  exact ⟨e, es3, hv5, rfl, HPm.out, HM.out, h5, HHp.out, HI.out, HO.out, KF.out⟩

end Go.Proofs.YtgpaajdfkekjiaaGreatDoor
