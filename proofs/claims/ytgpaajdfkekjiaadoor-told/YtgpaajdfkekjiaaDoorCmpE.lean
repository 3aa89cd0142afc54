/-
  Package heap at package compare's ways: up, down, Push, Pop.
-/
import Derived.Test.YtgpaajdfkekjiaaDoorCmpM
namespace Go.Proofs.YtgpaajdfkekjiaaDoor
open Go.RowKit

def keysE (es : List (List Nat × Value)) : List (List Nat) := es.map Prod.fst
theorem keysE_len (es : List (List Nat × Value)) : (keysE es).length = es.length := by simp [keysE]
theorem keysE_get (es : List (List Nat × Value)) (k : Nat) : (keysE es).getD k [] = (es.getD k noWay).1 := by
  simp only [keysE, List.getD_eq_getElem?_getD, List.getElem?_map]
  cases es[k]? <;> rfl
theorem keyAt_E (es : List (List Nat × Value)) (k : Nat) : keyAt (keysE es) k = code (es.getD k noWay).1 := by unfold keyAt; rw [keysE_get]
theorem keysE_swap (es : List (List Nat × Value)) (i j : Nat) : keysE (swapE es i j) = swapL (keysE es) i j := by
  unfold swapE swapL
  rw [keysE_get, keysE_get]
  simp [keysE, List.map_set]
theorem swapE_perm (es : List (List Nat × Value)) {i j : Nat} (hi : i < es.length) (hj : j < es.length) : (swapE es i j).Perm es := by
  have : ((es.set i es[j]).set j es[i]).Perm es := List.set_set_perm hi hj
  unfold swapE
  simpa [List.getD_eq_getElem?_getD, hi, hj] using this
/-- Inputs are digits, and not too many. -/
def GoodW (es : List (List Nat × Value)) : Prop := ∀ e ∈ es, Dig e.1 ∧ e.1.length ≤ 500
theorem GoodW.perm {es es' : List (List Nat × Value)} (h : GoodW es) (p : es'.Perm es) : GoodW es' := fun e he => h e (p.mem_iff.1 he)
theorem GoodW.at {es : List (List Nat × Value)} (h : GoodW es) {k : Nat} (hk : k < es.length) : Dig (es.getD k noWay).1 ∧ (es.getD k noWay).1.length ≤ 500 := by
  refine h _ ?_
  rw [List.getD_eq_getElem?_getD, List.getElem?_eq_getElem hk]; exact List.getElem_mem hk

theorem less_is (M : Duo) (B P : Nat) (hv : Value) (es : List (List Nat × Value)) (i j : Nat) (w : World) (h : WaysAt M B w P hv es) (hi : i < es.length) (hj : j < es.length) (hn : es.length ≤ 10000)
    (di : Dig (es.getD i noWay).1) (dj : Dig (es.getD j noWay).1) (li : (es.getD i noWay).1.length ≤ 500) {b : Bool} (hb : decide (code (es.getD i noWay).1 < code (es.getD j noWay).1) = b) :
    Calls Tryd.prog 136 #[hv, .int .i64 i, .int .i64 j] w fun e w' => e = .returned (.bool b) ∧ ∃ n, w' = w.drewN n := by
  subst hb; exact less_any M B P hv es i j w h hi hj hn di dj li
/-- The ways as an interface value. -/
def heapI (P : Nat) : Value := .iface 93 (.pointer (some ⟨P, 0, none⟩))

set_option maxHeartbeats 2000000 in
set_option maxRecDepth 100000 in
theorem up_any (M : Duo) (B P : Nat) (hv : Value) (es : List (List Nat × Value)) (j : Nat) (w : World) (h : WaysAt M B w P hv es) (hg : GoodW es) (hj : j < es.length) (hn : es.length ≤ 10000) (hu : UpInv (keysE es) es.length j) :
    Calls Tryd.prog 66 #[heapI P, .int .i64 j] w fun r w' => r = .returned (.tuple #[]) ∧ ∃ es', es'.Perm es ∧ WaysAt M B w' P hv es' ∧ IsHeap (keysE es') es.length ∧ Keeps (heapBlocks P hv) w w' := by
  obtain ⟨n, hnl⟩ : ∃ n, es.length = n := ⟨_, rfl⟩
  rw [hnl] at hj hn hu ⊢
  have HN := hideW hnl
  clear hnl
  unfold heapI
  go_enter Tryd.func66, Tryd.ntmps66
  go_wp2_with fail
  go_loopw [1, 4] (fun jv _ wr => ∃ (jj : Nat) (es' : List (List Nat × Value)), jv = .int .i64 jj ∧ jj < n ∧ es'.Perm es ∧ WaysAt M B wr P hv es' ∧ UpInv (keysE es') n jj ∧ Keeps (heapBlocks P hv) w wr) (fun jv _ _ => (intOf jv).toNat)
  case atStart => exact ⟨j, es, rfl, hj, List.Perm.refl _, h, hu, Keeps.refl _ _⟩
  case round =>
    clear h hu hj
    obtain ⟨jj, es', rfl, hj, hp, h, hu, K⟩ := hrel
    have hlen : es'.length = n := hp.length_eq.trans HN.out
    have cP := h.cell
    by_cases h0 : jj = 0
    · subst h0
      go_wp2
      go_end0
      exact ⟨rfl, es', hp, h, hu.done (.inl rfl), K⟩
    · obtain ⟨ii, hii⟩ : ∃ ii : Nat, (jj - 1) / 2 = ii := ⟨_, rfl⟩
      have hq : (jj : Int) - 1 = ((jj - 1 : Nat) : Int) := by omega
      have hq2 : ((jj - 1 : Nat) : Int) / 2 = (ii : Int) := by omega
      have hne : ((ii : Int) == (jj : Int)) = false := by simp; omega
      have hi : ii < n := by omega
      have gd := hg.perm hp
      have gi := gd.at (show ii < es'.length by omega)
      have gj := gd.at (show jj < es'.length by omega)
      have mL := Tryd.mLess cP
      rw [← hii] at hi
      have HII := hideW hii
      have ki := keyAt_E es' ii
      have kj := keyAt_E es' jj
      have hjl : jj < es'.length := by omega
      have hil : ii < es'.length := by omega
      have hn10 : es'.length ≤ 10000 := by omega
      by_cases hlt : code (es'.getD jj noWay).1 < code (es'.getD ii noWay).1
      · have hK := hu.step (by omega) hj (by rw [keysE_len, hlen]; exact Nat.le_refl _) (by rw [hii, ki, kj]; exact hlt)
        have HST := hideW hK
        clear hii ki kj hK hu hi
        go_wp2_with (first | (go_at_call 136; refine (less_is M B P hv es' jj ii _ h hjl hil hn10 gj.1 gi.1 gj.2 (decide_eq_true hlt)).mono ?_; rintro e w1 ⟨rfl, nq, rfl⟩; have h1 := h.below (below_drewN (Below.refl _ _) nq); have mS := Tryd.mSwap h1.cell) | (go_at_call 139; refine (swap_any M B P hv es' ii jj _ h1 hil hjl hn10).mono ?_; rintro e w2 ⟨rfl, h2, K2⟩))
        go_roundw
        case rel =>
          have hst := HST.out
          rw [← keysE_swap, HII.out] at hst
          exact ⟨ii, swapE es' ii jj, rfl, by have := HII.out; omega, (swapE_perm es' hil hjl).trans hp, h2, hst, (K.trans (Keeps.of_below (below_drewN (Below.refl _ _) nq))).trans K2⟩
        case measure => have := HII.out; simp [intOf]; omega
      · have hK := hu.done (.inr (by rw [hii, ki, kj]; omega))
        have HST := hideW hK
        clear hii ki kj hK hu hi
        go_wp2_with (first | (go_at_call 136; refine (less_is M B P hv es' jj ii _ h hjl hil hn10 gj.1 gi.1 gj.2 (decide_eq_false hlt)).mono ?_; rintro e w1 ⟨rfl, nq, rfl⟩; have h1 := h.below (below_drewN (Below.refl _ _) nq)))
        go_end0
        exact ⟨rfl, es', hp, h1, HST.out, K.trans (Keeps.of_below (below_drewN (Below.refl _ _) nq))⟩

end Go.Proofs.YtgpaajdfkekjiaaDoor
