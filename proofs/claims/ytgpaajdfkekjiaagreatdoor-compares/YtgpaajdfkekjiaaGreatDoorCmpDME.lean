/-
  Pop of package compare's ways.
  The methods that an interface value over package compare's ways leads to.
  Package heap at package compare's ways: up, down, Push, Pop.
-/
import Derived.Test.YtgpaajdfkekjiaaGreatDoorCmpC
namespace Go.Proofs.YtgpaajdfkekjiaaGreatDoor
open Go.RowKit

theorem WaysAt.below {M : Duo} {B P : Nat} {w w' : World} {hv : Value} {es : List (List Nat × Value)} (h : WaysAt M B w P hv es) (hb : Below w.heap.size w w') : WaysAt M B w' P hv es :=
  ⟨h.lo, Nat.lt_of_lt_of_le h.lt hb.size, (hb.cell (p := ⟨P, 0, none⟩) h.lt).trans h.cell, (hb.frozen (p := ⟨P, 0, none⟩) h.lt).trans h.frz, own_blocks h.own (fun q hq => hb.block q (h.own.lt q hq).2), h.ap, fun e he => (h.ins e he).below hb⟩
theorem Keeps.alloc {S : Nat → Prop} {a b : World} (h : Keeps S a b) (o : Obj) : Keeps S a (b.alloc o) :=
  h.trans (Keeps.of_below ((Below.refl _ _).alloc (Nat.le_refl _) _))
/-- One way less, at the end. -/
theorem WaysAt.less {M : Duo} {B P : Nat} {w w' : World} {g n cap : Nat} {es : List (List Nat × Value)} {e : List Nat × Value} (h : WaysAt M B w P (.slice (some ⟨g, 0, none⟩) (n + 1) cap) (es ++ [e])) (hl : es.length = n) (hb : Below w.heap.size w w') :
    WaysAt M B (w'.setCell ⟨P, 0, none⟩ (.slice (some ⟨g, 0, none⟩) n cap)) P (.slice (some ⟨g, 0, none⟩) n cap) es ∧ Keeps (fun k => k = P) w (w'.setCell ⟨P, 0, none⟩ (.slice (some ⟨g, 0, none⟩) n cap)) := by
  have hgP : g ≠ P := fun e => h.ap (by rw [e]; rfl)
  have cP : w'.cell? ⟨P, 0, none⟩ = some (.slice (some ⟨g, 0, none⟩) (n + 1) cap) := (hb.cell (p := ⟨P, 0, none⟩) h.lt).trans h.cell
  have fP : w'.frozen? ⟨P, 0, none⟩ = false := (hb.frozen (p := ⟨P, 0, none⟩) h.lt).trans h.frz
  obtain ⟨w2, hw2⟩ : ∃ w2, w2 = w'.setCell ⟨P, 0, none⟩ (.slice (some ⟨g, 0, none⟩) n cap) := ⟨_, rfl⟩
  have sz2 : w2.heap.size = w'.heap.size := by rw [hw2, Deep.nblk_setCell]
  have ob : ∀ k, k ≠ P → w2.heap[k]? = w'.heap[k]? := fun k hk => by rw [hw2]; exact Deep.blk_setCell_other _ _ _ _ hk
  have K : Keeps (fun k => k = P) w w2 := by
    refine ⟨?_, ?_, ?_, by rw [sz2]; exact hb.size, fun k hk hn => ?_⟩
    · rw [hw2]; exact hb.os
    · rw [hw2]; exact hb.tape
    · rw [hw2]; exact hb.output
    · rw [ob k hn, hb.block k hk]
  have cell2 : w2.cell? ⟨P, 0, none⟩ = some (.slice (some ⟨g, 0, none⟩) n cap) := by rw [hw2]; exact World.cell?_setCell_same _ _ _ cP
  have frz2 : w2.frozen? ⟨P, 0, none⟩ = false := by rw [hw2, World.frozen?_setCell]; exact fP
  have own2 : w2.ownsRow B 148 4 (.slice (some ⟨g, 0, none⟩) n cap) n (rowW M es) := by
    have hs : (es ++ [e]).length = n + 1 := by simp [hl]
    have ho := h.own
    rw [hs] at ho
    refine ⟨by rw [rowW_len, hl], .inr ?_⟩
    rcases ho.2 with ⟨h', _⟩ | ⟨g', cap', cur, h', hbg, hr, hle, hmx, hcs, htk⟩
    · cases h'
    · simp only [Value.slice.injEq, Option.some.injEq, Addr.mk.injEq, and_true, true_and] at h'
      obtain ⟨rfl, rfl⟩ := h'
      have hglt : g < w.heap.size := (Array.getElem?_eq_some_iff.1 hr).1
      refine ⟨g, cap, cur, rfl, hbg, by rw [ob g hgP, hb.block g hglt]; exact hr, by omega, hmx, hcs, ?_⟩
      have e1 : (cur.toList.take ((n + 1) * 4)).take (n * 4) = cur.toList.take (n * 4) := by rw [List.take_take, Nat.min_eq_left (by omega)]
      rw [← e1, htk, rowW_take]
      congr 1
      rw [← hl, List.take_left]
  rw [← hw2]
  clear hw2
  refine ⟨⟨h.lo, by rw [sz2]; exact Nat.lt_of_lt_of_le h.lt hb.size, cell2, frz2, by rw [hl]; exact own2, h.ap, fun x hx => ?_⟩, K⟩
  exact (h.ins x (List.mem_append.2 (.inl hx))).keeps K (fun k hk => .inl (.inl hk))

set_option maxHeartbeats 2000000 in
set_option maxRecDepth 100000 in
theorem pop_any (M : Duo) (B P : Nat) (hv : Value) (es : List (List Nat × Value)) (e : List Nat × Value) (w : World) (h : WaysAt M B w P hv (es ++ [e])) (hn : es.length ≤ 10000) :
    Calls Tryz.prog 176 #[.pointer (some ⟨P, 0, none⟩)] w fun r w' => r = .returned (.iface 148 (wayV M e)) ∧ ∃ hv', WaysAt M B w' P hv' es ∧ hv'.ownBlock = hv.ownBlock ∧ Keeps (fun k => k = P) w w' := by
  obtain ⟨n, hnl⟩ : ∃ n, es.length = n := ⟨_, rfl⟩
  have hs : (es ++ [e]).length = n + 1 := by simp [hnl]
  obtain ⟨g, cap, hsl, hcap⟩ := h.slice (by omega)
  rw [hs] at hsl hcap
  subst hsl
  have hge : (es ++ [e]).getD n noWay = e := by rw [← hnl]; simp [List.getD_eq_getElem?_getD]
  have cell : ∀ c x, c < 4 → (wayL M e)[c]? = some x → w.cell? ⟨g, n * 4 + c, none⟩ = some x := fun c x hc hx => by rw [h.get (g := g) rfl (show n < (es ++ [e]).length by omega) hc, hge, hx]
  obtain ⟨ve, hve⟩ : ∃ v, v = e.2 := ⟨_, rfl⟩
  obtain ⟨ae, hae⟩ : ∃ x : Nat, x = (M.run e.1).1 := ⟨_, rfl⟩
  obtain ⟨be, hbe⟩ : ∃ x : Nat, x = (M.run e.1).2 := ⟨_, rfl⟩
  obtain ⟨de, hde⟩ : ∃ x : Nat, x = M.difL e.1 := ⟨_, rfl⟩
  obtain ⟨av, lv, cv, rfl⟩ : ∃ a n c, ve = .slice a n c := by obtain ⟨a, c, e2, _⟩ := h.ins e (by simp); exact ⟨a, _, c, hve.trans e2⟩
  have eV : wayV M e = .agg #[.slice av lv cv, .int .i64 ae, .int .i64 be, .int .i64 de] := by unfold wayV; rw [← hve, ← hae, ← hbe, ← hde]
  have c0 : w.cell? ⟨g, n * 4, none⟩ = some (.slice av lv cv) := cell 0 _ (by omega) (by rw [hve]; rfl)
  have c1 : w.cell? ⟨g, n * 4 + 1, none⟩ = some (.int .i64 ae) := cell 1 _ (by omega) (by rw [hae]; rfl)
  have c2 : w.cell? ⟨g, n * 4 + 2, none⟩ = some (.int .i64 be) := cell 2 _ (by omega) (by rw [hbe]; rfl)
  have c3 : w.cell? ⟨g, n * 4 + 3, none⟩ = some (.int .i64 de) := cell 3 _ (by omega) (by rw [hde]; rfl)
  rw [eV]
  clear eV cell hve hae hbe hde hge
  have cP := h.cell
  have fP := h.frz
  have hP := h.lt
  have n0 : (0 : Int) ≤ (n : Int) := by omega
  have n1 : (n : Int) ≤ (cap : Int) := by omega
  have HN := hideW hnl
  have hn' : n ≤ 10000 := by omega
  have fin := hideW (h.less hnl (Below.refl _ _))
  clear hs hnl
  go_enter Tryz.func176, Tryz.ntmps176
  go_wp2
  go_ret
  exact ⟨rfl, _, fin.out.1.below ((Below.refl _ _).alloc (Nat.le_refl _) _), rfl, fin.out.2.alloc _⟩

end Go.Proofs.YtgpaajdfkekjiaaGreatDoor

namespace Go.Proofs.YtgpaajdfkekjiaaGreatDoor
open Go.RowKit

theorem Tryz.mPush (P : Nat) (w : World) : (method 348 146 (.pointer (some ⟨P, 0, none⟩)) "Push").run Tryz.prog w = .ok (177, .pointer (some ⟨P, 0, none⟩)) w := by kernel_rfl
theorem Tryz.mPop (P : Nat) (w : World) : (method 348 146 (.pointer (some ⟨P, 0, none⟩)) "Pop").run Tryz.prog w = .ok (176, .pointer (some ⟨P, 0, none⟩)) w := by kernel_rfl
theorem Tryz.mLen {P : Nat} {w : World} {hv : Value} (h : w.cell? ⟨P, 0, none⟩ = some hv) : (method 348 146 (.pointer (some ⟨P, 0, none⟩)) "Len").run Tryz.prog w = .ok (85, hv) w := by
  have e : (method 348 146 (.pointer (some ⟨P, 0, none⟩)) "Len").run Tryz.prog w = (do let v ← loadVar 150 ⟨P, 0, none⟩; pure (85, v) : Sem (FuncId × Value)).run Tryz.prog w := by kernel_rfl
  rw [e]
  simp [go_sem, h]

theorem Tryz.mLess {P : Nat} {w : World} {hv : Value} (h : w.cell? ⟨P, 0, none⟩ = some hv) : (method 348 146 (.pointer (some ⟨P, 0, none⟩)) "Less").run Tryz.prog w = .ok (175, hv) w := by
  have e : (method 348 146 (.pointer (some ⟨P, 0, none⟩)) "Less").run Tryz.prog w = (do let v ← loadVar 150 ⟨P, 0, none⟩; pure (175, v) : Sem (FuncId × Value)).run Tryz.prog w := by kernel_rfl
  rw [e]
  simp [go_sem, h]

theorem Tryz.mSwap {P : Nat} {w : World} {hv : Value} (h : w.cell? ⟨P, 0, none⟩ = some hv) : (method 348 146 (.pointer (some ⟨P, 0, none⟩)) "Swap").run Tryz.prog w = .ok (178, hv) w := by
  have e : (method 348 146 (.pointer (some ⟨P, 0, none⟩)) "Swap").run Tryz.prog w = (do let v ← loadVar 150 ⟨P, 0, none⟩; pure (178, v) : Sem (FuncId × Value)).run Tryz.prog w := by kernel_rfl
  rw [e]
  simp [go_sem, h]

end Go.Proofs.YtgpaajdfkekjiaaGreatDoor

namespace Go.Proofs.YtgpaajdfkekjiaaGreatDoor
open Go.RowKit

def keysE (es : List (List Nat × Value)) : List (List Nat) := es.map Prod.fst
theorem keysE_len (es : List (List Nat × Value)) : (keysE es).length = es.length := by simp [keysE]
theorem keysE_get (es : List (List Nat × Value)) (k : Nat) : (keysE es).getD k [] = (es.getD k noWay).1 := by
  simp only [keysE, List.getD_eq_getElem?_getD, List.getElem?_map]
  cases es[k]? <;> rfl
theorem keyAt_E (es : List (List Nat × Value)) (k : Nat) : keyAt (keysE es) k = code (es.getD k noWay).1 := by unfold keyAt; rw [keysE_get]
theorem keysE_swap (es : List (List Nat × Value)) (i j : Nat) : keysE (swapE es i j) = swapL (keysE es) i j := by
  unfold swapE swapL
  rw [keysE_get, keysE_get]
  simp [keysE, List.map_set]
theorem swapE_perm (es : List (List Nat × Value)) {i j : Nat} (hi : i < es.length) (hj : j < es.length) : (swapE es i j).Perm es := by
  have : ((es.set i es[j]).set j es[i]).Perm es := List.set_set_perm hi hj
  unfold swapE
  simpa [List.getD_eq_getElem?_getD, hi, hj] using this
/-- Inputs are digits, and not too many. -/
def GoodW (es : List (List Nat × Value)) : Prop := ∀ e ∈ es, Dig e.1 ∧ e.1.length ≤ 500
theorem GoodW.perm {es es' : List (List Nat × Value)} (h : GoodW es) (p : es'.Perm es) : GoodW es' := fun e he => h e (p.mem_iff.1 he)
theorem GoodW.at {es : List (List Nat × Value)} (h : GoodW es) {k : Nat} (hk : k < es.length) : Dig (es.getD k noWay).1 ∧ (es.getD k noWay).1.length ≤ 500 := by
  refine h _ ?_
  rw [List.getD_eq_getElem?_getD, List.getElem?_eq_getElem hk]; exact List.getElem_mem hk

theorem less_is (M : Duo) (B P : Nat) (hv : Value) (es : List (List Nat × Value)) (i j : Nat) (w : World) (h : WaysAt M B w P hv es) (hi : i < es.length) (hj : j < es.length) (hn : es.length ≤ 10000)
    (di : Dig (es.getD i noWay).1) (dj : Dig (es.getD j noWay).1) (li : (es.getD i noWay).1.length ≤ 500) {b : Bool} (hb : decide (code (es.getD i noWay).1 < code (es.getD j noWay).1) = b) :
    Calls Tryz.prog 175 #[hv, .int .i64 i, .int .i64 j] w fun e w' => e = .returned (.bool b) ∧ ∃ n, w' = w.drewN n := by
  subst hb; exact less_any M B P hv es i j w h hi hj hn di dj li
/-- The ways as an interface value. -/
def heapI (P : Nat) : Value := .iface 146 (.pointer (some ⟨P, 0, none⟩))

set_option maxHeartbeats 2000000 in
set_option maxRecDepth 100000 in
theorem up_any (M : Duo) (B P : Nat) (hv : Value) (es : List (List Nat × Value)) (j : Nat) (w : World) (h : WaysAt M B w P hv es) (hg : GoodW es) (hj : j < es.length) (hn : es.length ≤ 10000) (hu : UpInv (keysE es) es.length j) :
    Calls Tryz.prog 109 #[heapI P, .int .i64 j] w fun r w' => r = .returned (.tuple #[]) ∧ ∃ es', es'.Perm es ∧ WaysAt M B w' P hv es' ∧ IsHeap (keysE es') es.length ∧ Keeps (heapBlocks P hv) w w' := by
  obtain ⟨n, hnl⟩ : ∃ n, es.length = n := ⟨_, rfl⟩
  rw [hnl] at hj hn hu ⊢
  have HN := hideW hnl
  clear hnl
  unfold heapI
  go_enter Tryz.func109, Tryz.ntmps109
  go_wp2_with fail
  go_loopw [1, 4] (fun jv _ wr => ∃ (jj : Nat) (es' : List (List Nat × Value)), jv = .int .i64 jj ∧ jj < n ∧ es'.Perm es ∧ WaysAt M B wr P hv es' ∧ UpInv (keysE es') n jj ∧ Keeps (heapBlocks P hv) w wr) (fun jv _ _ => (intOf jv).toNat)
  case atStart => exact ⟨j, es, rfl, hj, List.Perm.refl _, h, hu, Keeps.refl _ _⟩
  case round =>
    clear h hu hj
    obtain ⟨jj, es', rfl, hj, hp, h, hu, K⟩ := hrel
    have hlen : es'.length = n := hp.length_eq.trans HN.out
    have cP := h.cell
    by_cases h0 : jj = 0
    · subst h0
      go_wp2
      go_end0
      exact ⟨rfl, es', hp, h, hu.done (.inl rfl), K⟩
    · obtain ⟨ii, hii⟩ : ∃ ii : Nat, (jj - 1) / 2 = ii := ⟨_, rfl⟩
      have hq : (jj : Int) - 1 = ((jj - 1 : Nat) : Int) := by omega
      have hq2 : ((jj - 1 : Nat) : Int) / 2 = (ii : Int) := by omega
      have hne : ((ii : Int) == (jj : Int)) = false := by simp; omega
      have hi : ii < n := by omega
      have gd := hg.perm hp
      have gi := gd.at (show ii < es'.length by omega)
      have gj := gd.at (show jj < es'.length by omega)
      have mL := Tryz.mLess cP
      rw [← hii] at hi
      have HII := hideW hii
      have ki := keyAt_E es' ii
      have kj := keyAt_E es' jj
      have hjl : jj < es'.length := by omega
      have hil : ii < es'.length := by omega
      have hn10 : es'.length ≤ 10000 := by omega
      by_cases hlt : code (es'.getD jj noWay).1 < code (es'.getD ii noWay).1
      · have hK := hu.step (by omega) hj (by rw [keysE_len, hlen]; exact Nat.le_refl _) (by rw [hii, ki, kj]; exact hlt)
        have HST := hideW hK
        clear hii ki kj hK hu hi
        go_wp2_with (first | (go_at_call 175; refine (less_is M B P hv es' jj ii _ h hjl hil hn10 gj.1 gi.1 gj.2 (decide_eq_true hlt)).mono ?_; rintro e w1 ⟨rfl, nq, rfl⟩; have h1 := h.below (below_drewN (Below.refl _ _) nq); have mS := Tryz.mSwap h1.cell) | (go_at_call 178; refine (swap_any M B P hv es' ii jj _ h1 hil hjl hn10).mono ?_; rintro e w2 ⟨rfl, h2, K2⟩))
        go_roundw
        case rel =>
          have hst := HST.out
          rw [← keysE_swap, HII.out] at hst
          exact ⟨ii, swapE es' ii jj, rfl, by have := HII.out; omega, (swapE_perm es' hil hjl).trans hp, h2, hst, (K.trans (Keeps.of_below (below_drewN (Below.refl _ _) nq))).trans K2⟩
        case measure => have := HII.out; simp [intOf]; omega
      · have hK := hu.done (.inr (by rw [hii, ki, kj]; omega))
        have HST := hideW hK
        clear hii ki kj hK hu hi
        go_wp2_with (first | (go_at_call 175; refine (less_is M B P hv es' jj ii _ h hjl hil hn10 gj.1 gi.1 gj.2 (decide_eq_false hlt)).mono ?_; rintro e w1 ⟨rfl, nq, rfl⟩; have h1 := h.below (below_drewN (Below.refl _ _) nq)))
        go_end0
        exact ⟨rfl, es', hp, h1, HST.out, K.trans (Keeps.of_below (below_drewN (Below.refl _ _) nq))⟩

end Go.Proofs.YtgpaajdfkekjiaaGreatDoor
