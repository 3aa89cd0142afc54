/-
  Pop of package compare's ways.
  The methods that an interface value over package compare's ways leads to.
-/
import Derived.Test.YtgpaajdfkekjiaaDoorCmpC
namespace Go.Proofs.YtgpaajdfkekjiaaDoor
open Go.RowKit

theorem WaysAt.below {M : Duo} {B P : Nat} {w w' : World} {hv : Value} {es : List (List Nat × Value)} (h : WaysAt M B w P hv es) (hb : Below w.heap.size w w') : WaysAt M B w' P hv es :=
  ⟨h.lo, Nat.lt_of_lt_of_le h.lt hb.size, (hb.cell (p := ⟨P, 0, none⟩) h.lt).trans h.cell, (hb.frozen (p := ⟨P, 0, none⟩) h.lt).trans h.frz, own_blocks h.own (fun q hq => hb.block q (h.own.lt q hq).2), h.ap, fun e he => (h.ins e he).below hb⟩
theorem Keeps.alloc {S : Nat → Prop} {a b : World} (h : Keeps S a b) (o : Obj) : Keeps S a (b.alloc o) :=
  h.trans (Keeps.of_below ((Below.refl _ _).alloc (Nat.le_refl _) _))
/-- One way less, at the end. -/
theorem WaysAt.less {M : Duo} {B P : Nat} {w w' : World} {g n cap : Nat} {es : List (List Nat × Value)} {e : List Nat × Value} (h : WaysAt M B w P (.slice (some ⟨g, 0, none⟩) (n + 1) cap) (es ++ [e])) (hl : es.length = n) (hb : Below w.heap.size w w') :
    WaysAt M B (w'.setCell ⟨P, 0, none⟩ (.slice (some ⟨g, 0, none⟩) n cap)) P (.slice (some ⟨g, 0, none⟩) n cap) es ∧ Keeps (fun k => k = P) w (w'.setCell ⟨P, 0, none⟩ (.slice (some ⟨g, 0, none⟩) n cap)) := by
  have hgP : g ≠ P := fun e => h.ap (by rw [e]; rfl)
  have cP : w'.cell? ⟨P, 0, none⟩ = some (.slice (some ⟨g, 0, none⟩) (n + 1) cap) := (hb.cell (p := ⟨P, 0, none⟩) h.lt).trans h.cell
  have fP : w'.frozen? ⟨P, 0, none⟩ = false := (hb.frozen (p := ⟨P, 0, none⟩) h.lt).trans h.frz
  obtain ⟨w2, hw2⟩ : ∃ w2, w2 = w'.setCell ⟨P, 0, none⟩ (.slice (some ⟨g, 0, none⟩) n cap) := ⟨_, rfl⟩
  have sz2 : w2.heap.size = w'.heap.size := by rw [hw2, Deep.nblk_setCell]
  have ob : ∀ k, k ≠ P → w2.heap[k]? = w'.heap[k]? := fun k hk => by rw [hw2]; exact Deep.blk_setCell_other _ _ _ _ hk
  have K : Keeps (fun k => k = P) w w2 := by
    refine ⟨?_, ?_, ?_, by rw [sz2]; exact hb.size, fun k hk hn => ?_⟩
    · rw [hw2]; exact hb.os
    · rw [hw2]; exact hb.tape
    · rw [hw2]; exact hb.output
    · rw [ob k hn, hb.block k hk]
  have cell2 : w2.cell? ⟨P, 0, none⟩ = some (.slice (some ⟨g, 0, none⟩) n cap) := by rw [hw2]; exact World.cell?_setCell_same _ _ _ cP
  have frz2 : w2.frozen? ⟨P, 0, none⟩ = false := by rw [hw2, World.frozen?_setCell]; exact fP
  have own2 : w2.ownsRow B 95 4 (.slice (some ⟨g, 0, none⟩) n cap) n (rowW M es) := by
    have hs : (es ++ [e]).length = n + 1 := by simp [hl]
    have ho := h.own
    rw [hs] at ho
    refine ⟨by rw [rowW_len, hl], .inr ?_⟩
    rcases ho.2 with ⟨h', _⟩ | ⟨g', cap', cur, h', hbg, hr, hle, hmx, hcs, htk⟩
    · cases h'
    · simp only [Value.slice.injEq, Option.some.injEq, Addr.mk.injEq, and_true, true_and] at h'
      obtain ⟨rfl, rfl⟩ := h'
      have hglt : g < w.heap.size := (Array.getElem?_eq_some_iff.1 hr).1
      refine ⟨g, cap, cur, rfl, hbg, by rw [ob g hgP, hb.block g hglt]; exact hr, by omega, hmx, hcs, ?_⟩
      have e1 : (cur.toList.take ((n + 1) * 4)).take (n * 4) = cur.toList.take (n * 4) := by rw [List.take_take, Nat.min_eq_left (by omega)]
      rw [← e1, htk, rowW_take]
      congr 1
      rw [← hl, List.take_left]
  rw [← hw2]
  clear hw2
  refine ⟨⟨h.lo, by rw [sz2]; exact Nat.lt_of_lt_of_le h.lt hb.size, cell2, frz2, by rw [hl]; exact own2, h.ap, fun x hx => ?_⟩, K⟩
  exact (h.ins x (List.mem_append.2 (.inl hx))).keeps K (fun k hk => .inl (.inl hk))

set_option maxHeartbeats 2000000 in
set_option maxRecDepth 100000 in
theorem pop_any (M : Duo) (B P : Nat) (hv : Value) (es : List (List Nat × Value)) (e : List Nat × Value) (w : World) (h : WaysAt M B w P hv (es ++ [e])) (hn : es.length ≤ 10000) :
    Calls Tryd.prog 137 #[.pointer (some ⟨P, 0, none⟩)] w fun r w' => r = .returned (.iface 95 (wayV M e)) ∧ ∃ hv', WaysAt M B w' P hv' es ∧ hv'.ownBlock = hv.ownBlock ∧ Keeps (fun k => k = P) w w' := by
  obtain ⟨n, hnl⟩ : ∃ n, es.length = n := ⟨_, rfl⟩
  have hs : (es ++ [e]).length = n + 1 := by simp [hnl]
  obtain ⟨g, cap, hsl, hcap⟩ := h.slice (by omega)
  rw [hs] at hsl hcap
  subst hsl
  have hge : (es ++ [e]).getD n noWay = e := by rw [← hnl]; simp [List.getD_eq_getElem?_getD]
  have cell : ∀ c x, c < 4 → (wayL M e)[c]? = some x → w.cell? ⟨g, n * 4 + c, none⟩ = some x := fun c x hc hx => by rw [h.get (g := g) rfl (show n < (es ++ [e]).length by omega) hc, hge, hx]
  obtain ⟨ve, hve⟩ : ∃ v, v = e.2 := ⟨_, rfl⟩
  obtain ⟨ae, hae⟩ : ∃ x : Nat, x = (M.run e.1).1 := ⟨_, rfl⟩
  obtain ⟨be, hbe⟩ : ∃ x : Nat, x = (M.run e.1).2 := ⟨_, rfl⟩
  obtain ⟨de, hde⟩ : ∃ x : Nat, x = M.difL e.1 := ⟨_, rfl⟩
  obtain ⟨av, lv, cv, rfl⟩ : ∃ a n c, ve = .slice a n c := by obtain ⟨a, c, e2, _⟩ := h.ins e (by simp); exact ⟨a, _, c, hve.trans e2⟩
  have eV : wayV M e = .agg #[.slice av lv cv, .int .i64 ae, .int .i64 be, .int .i64 de] := by unfold wayV; rw [← hve, ← hae, ← hbe, ← hde]
  have c0 : w.cell? ⟨g, n * 4, none⟩ = some (.slice av lv cv) := cell 0 _ (by omega) (by rw [hve]; rfl)
  have c1 : w.cell? ⟨g, n * 4 + 1, none⟩ = some (.int .i64 ae) := cell 1 _ (by omega) (by rw [hae]; rfl)
  have c2 : w.cell? ⟨g, n * 4 + 2, none⟩ = some (.int .i64 be) := cell 2 _ (by omega) (by rw [hbe]; rfl)
  have c3 : w.cell? ⟨g, n * 4 + 3, none⟩ = some (.int .i64 de) := cell 3 _ (by omega) (by rw [hde]; rfl)
  rw [eV]
  clear eV cell hve hae hbe hde hge
  have cP := h.cell
  have fP := h.frz
  have hP := h.lt
  have n0 : (0 : Int) ≤ (n : Int) := by omega
  have n1 : (n : Int) ≤ (cap : Int) := by omega
  have HN := hideW hnl
  have hn' : n ≤ 10000 := by omega
  have fin := hideW (h.less hnl (Below.refl _ _))
  clear hs hnl
  go_enter Tryd.func137, Tryd.ntmps137
  go_wp2
  go_ret
  exact ⟨rfl, _, fin.out.1.below ((Below.refl _ _).alloc (Nat.le_refl _) _), rfl, fin.out.2.alloc _⟩

end Go.Proofs.YtgpaajdfkekjiaaDoor

namespace Go.Proofs.YtgpaajdfkekjiaaDoor
open Go.RowKit

theorem Tryd.mPush (P : Nat) (w : World) : (method 300 93 (.pointer (some ⟨P, 0, none⟩)) "Push").run Tryd.prog w = .ok (138, .pointer (some ⟨P, 0, none⟩)) w := by kernel_rfl
theorem Tryd.mPop (P : Nat) (w : World) : (method 300 93 (.pointer (some ⟨P, 0, none⟩)) "Pop").run Tryd.prog w = .ok (137, .pointer (some ⟨P, 0, none⟩)) w := by kernel_rfl
theorem Tryd.mLen {P : Nat} {w : World} {hv : Value} (h : w.cell? ⟨P, 0, none⟩ = some hv) : (method 300 93 (.pointer (some ⟨P, 0, none⟩)) "Len").run Tryd.prog w = .ok (46, hv) w := by
  have e : (method 300 93 (.pointer (some ⟨P, 0, none⟩)) "Len").run Tryd.prog w = (do let v ← loadVar 97 ⟨P, 0, none⟩; pure (46, v) : Sem (FuncId × Value)).run Tryd.prog w := by kernel_rfl
  rw [e]
  simp [go_sem, h]

theorem Tryd.mLess {P : Nat} {w : World} {hv : Value} (h : w.cell? ⟨P, 0, none⟩ = some hv) : (method 300 93 (.pointer (some ⟨P, 0, none⟩)) "Less").run Tryd.prog w = .ok (136, hv) w := by
  have e : (method 300 93 (.pointer (some ⟨P, 0, none⟩)) "Less").run Tryd.prog w = (do let v ← loadVar 97 ⟨P, 0, none⟩; pure (136, v) : Sem (FuncId × Value)).run Tryd.prog w := by kernel_rfl
  rw [e]
  simp [go_sem, h]

theorem Tryd.mSwap {P : Nat} {w : World} {hv : Value} (h : w.cell? ⟨P, 0, none⟩ = some hv) : (method 300 93 (.pointer (some ⟨P, 0, none⟩)) "Swap").run Tryd.prog w = .ok (139, hv) w := by
  have e : (method 300 93 (.pointer (some ⟨P, 0, none⟩)) "Swap").run Tryd.prog w = (do let v ← loadVar 97 ⟨P, 0, none⟩; pure (139, v) : Sem (FuncId × Value)).run Tryd.prog w := by kernel_rfl
  rw [e]
  simp [go_sem, h]

end Go.Proofs.YtgpaajdfkekjiaaDoor
