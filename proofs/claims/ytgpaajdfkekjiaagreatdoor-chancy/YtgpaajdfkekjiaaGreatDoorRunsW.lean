/-
  The walk of the statement Runs of package latchlaw: of any circuit and any list of ints it returns true and writes nothing that was there.
-/
import Derived.Test.YtgpaajdfkekjiaaGreatDoorOneRun
import Derived.Test.YtgpaajdfkekjiaaGreatDoorMem
namespace Go.Proofs.YtgpaajdfkekjiaaGreatDoor
open Go.RowKit

set_option maxHeartbeats 400000 in
set_option maxRecDepth 100000 in
theorem lawDelay_any (i : Int) (w : World) :
    Calls Tryz.prog 12 #[.int .i64 i] w fun e w' => ∃ bl bo, e = .returned (.agg #[.int .i64 1, .slice (some ⟨bl, 0, none⟩) 1 1, .slice none 0 0, .slice (some ⟨bo, 0, none⟩) 1 1]) ∧
      w.heap.size ≤ bl ∧ w.heap.size ≤ bo ∧ PairsAt w' (some ⟨bl, 0, none⟩) [(2, i)] ∧ IntsAt w' (some ⟨bo, 0, none⟩) [4] ∧ Below w.heap.size w w' := by
  go_enter Tryz.func12, Tryz.ntmps12
  go_wp2
  refine bodyPost_ret (v := .agg #[.int .i64 1, .slice (some ⟨w.heap.size + 1, 0, none⟩) 1 1, .slice none 0 0, .slice (some ⟨w.heap.size + 1 + 1, 0, none⟩) 1 1]) (by simp [results, Tryz.results12, go_sem, World.cell?_alloc_past]) rfl ⟨_, _, rfl, by omega, by omega, ?_, ?_, ?_⟩
  · refine pairs_of_block (alloc_old (alloc_blk _ _ _ (by simp))) (fun j hj => ?_)
    match j, hj with
    | 0, _ => exact ⟨rfl, rfl⟩
  · refine ints_of_block (alloc_blk _ _ _ (by simp)) (fun j hj => ?_)
    match j, hj with
    | 0, _ => rfl
  · exact (((Below.refl _ _).alloc (Nat.le_refl _) _).alloc (by simp) _).alloc (by simp; omega) _

theorem BookAt.bound {S : Nat → Prop} {w : World} {P : Nat} {hv : Value} {es : List Entry} (h : BookAt S w P hv es) : BookAt (fun k => S k ∧ k < w.heap.size) w P hv es := by
  refine ⟨⟨h.sp, h.lt⟩, h.lt, h.c0, h.c1, h.c2, h.c3, h.fz, h.own, fun q hq => ⟨⟨(h.hb q hq).1, (h.own.lt q hq).2⟩, (h.hb q hq).2⟩, h.len, fun k hk => ?_⟩
  obtain ⟨l1, gd⟩ := h.good k hk
  refine ⟨l1, ?_⟩
  rcases gd with h0 | ⟨b, hb, sb, bP, bq, blt, hr⟩
  · exact .inl h0
  · exact .inr ⟨b, hb, ⟨sb, blt⟩, bP, bq, blt, hr⟩

theorem fits_small {x : Int} (h1 : -1000000 ≤ x) (h2 : x ≤ 1000000) : Fits x := ⟨by omega, by omega⟩

/-- one, at DOC.md's second example. -/
theorem one_first (S : Nat → Prop) (P bl bo bi : Nat) (sv : Value) (w : World) (hB : BookAt S w P (.slice none 0 0) []) (hS : ∀ k, S k → k < w.heap.size)
    (hL : PairsAt w (some ⟨bl, 0, none⟩) [(2, 0)]) (hO : IntsAt w (some ⟨bo, 0, none⟩) [4]) (hI : IntsAt w (some ⟨bi, 0, none⟩) [1, 0, 1]) (sl : ¬ S bl) (so : ¬ S bo) (si : ¬ S bi) :
    Calls Tryz.prog 13 #[.pointer (some ⟨P, 0, none⟩), .agg #[.int .i64 3, sv, .int .i64 1, .slice (some ⟨bl, 0, none⟩) 1 1, .slice none 0 0, .slice (some ⟨bo, 0, none⟩) 1 1, .int .i64 0, .slice none 0 0, .slice none 0 0, .slice none 0 0, .slice (some ⟨bi, 0, none⟩) 3 3, .int .i64 0]] w fun e w' =>
      e = .returned (.bool true) ∧ (∃ hv' es', BookAt (fun k => S k ∨ w.heap.size ≤ k) w' P hv' es' ∧ es'.length = 4 * (0 + 1)) ∧ Keeps S w w' :=
  one_run S P _ [] 0 sv 1 (some ⟨bl, 0, none⟩) none (some ⟨bo, 0, none⟩) (some ⟨bi, 0, none⟩) 1 0 1 3 [(2, 0)] [] [4] [1, 0, 1] w hB hS rfl (by omega) (by simp) (by simp) (by simp) (by simp) hL (.inl rfl) hO hI
    (fun i hi => by match i, hi with | 0, _ => exact fits_small (by decide) (by decide)) (fun i hi => by simp at hi) (fun i hi => by match i, hi with | 0, _ => exact fits_small (by decide) (by decide))
    (fun b o e _ => by simp only [Option.some.injEq, Addr.mk.injEq, and_true] at e; rw [← e.1]; exact sl) (fun b o e _ => by cases e) (fun b o e _ => by simp only [Option.some.injEq, Addr.mk.injEq, and_true] at e; rw [← e.1]; exact so) (fun b o e _ => by simp only [Option.some.injEq, Addr.mk.injEq, and_true] at e; rw [← e.1]; exact si)

theorem ints3 (w : World) (x y z : Int) (B : Nat) (hB : B = w.heap.size) : IntsAt (w.alloc (.cells #[.int .i64 x, .int .i64 y, .int .i64 z] 3)) (some ⟨B, 0, none⟩) [x, y, z] := by
  refine ints_of_block (alloc_blk _ _ _ hB) (fun j hj => ?_)
  match j, hj with
  | 0, _ => rfl
  | 1, _ => rfl
  | 2, _ => rfl
theorem PairsAt.alloc_any {w : World} {a : Option Addr} {xs : List (Int × Int)} (h : PairsAt w a xs) (o : Obj) : PairsAt (w.alloc o) a xs := h.below ((Below.refl _ _).alloc (Nat.le_refl _) _)

set_option maxHeartbeats 1000000 in
set_option maxRecDepth 100000 in
theorem runs_walk (n : Int) (la ga oa ia : Option Addr) (lc gc oc ic : Nat) (ls gs : List (Int × Int)) (os ins : List Int) (w : World)
    (hml : ls.length * 16 ≤ 140737488351232) (hmg : gs.length * 16 ≤ 140737488351232) (hmo : os.length * 8 ≤ 140737488351232) (hmi : ins.length * 8 ≤ 140737488351232)
    (hL : PairsAt w la ls) (hG : PairsAt w ga gs) (hO : IntsAt w oa os) (hI : IntsAt w ia ins)
    (fL : ∀ i, i < ls.length → Fits (ls.getD i (0, 0)).1) (fG : ∀ i, i < gs.length → Fits (gs.getD i (0, 0)).1 ∧ Fits (gs.getD i (0, 0)).2) (fO : ∀ i, i < os.length → Fits (os.getD i 0)) :
    Calls Tryz.prog 5 #[.agg #[.int .i64 n, .slice la ls.length lc, .slice ga gs.length gc, .slice oa os.length oc], .slice ia ins.length ic] w fun e w' => e = .returned (.bool true) ∧ Below w.heap.size w w' := by
  obtain ⟨W2, hW2⟩ : ∃ W2, W2 = (w.alloc (.cells #[.int .i64 n, .slice la ls.length lc, .slice ga gs.length gc, .slice oa os.length oc] 34)).alloc (.cells #[.slice none 0 0, .slice none 0 0, .slice none 0 0, .slice none 0 0] 29) := ⟨_, rfl⟩
  have b2 : Below w.heap.size w W2 := by rw [hW2]; exact ((Below.refl _ _).alloc (Nat.le_refl _) _).alloc (by simp) _
  have s2 : W2.heap.size = w.heap.size + 2 := by rw [hW2]; simp
  have PB : ∀ i, W2.cell? ⟨w.heap.size + 1, i, none⟩ = #[.slice none 0 0, .slice none 0 0, .slice none 0 0, .slice none 0 0][i]? := fun i => by rw [hW2]; exact cell_of_row _ _ _ _ _ _ (alloc_blk _ _ _ (by simp))
  have PF : W2.frozen? ⟨w.heap.size + 1, 0, none⟩ = false := by rw [hW2]; exact World.frozen?_alloc_at _ _ _ _ (by simp)
  have CB : ∀ i, W2.cell? ⟨w.heap.size, i, none⟩ = #[.int .i64 n, .slice la ls.length lc, .slice ga gs.length gc, .slice oa os.length oc][i]? := fun i => by rw [hW2]; exact cell_of_row _ _ _ _ _ _ (alloc_old (alloc_blk _ _ _ rfl))
  have hB2 : BookAt (fun k => k = w.heap.size + 1) W2 (w.heap.size + 1) (.slice none 0 0) [] := ⟨rfl, by rw [s2]; omega, PB 0, PB 1, PB 2, PB 3, PF, World.ownsRow_nil _ _ _ _, fun q h => by simp [Value.ownBlock] at h, by simp, fun k h => absurd h (Nat.not_lt_zero k)⟩
  have HCB : Hid (∀ i, W2.cell? ⟨w.heap.size, i, none⟩ = #[.int .i64 n, .slice la ls.length lc, .slice ga gs.length gc, .slice oa os.length oc][i]?) := CB
  have HS2 : Hid (W2.heap.size = w.heap.size + 2) := s2
  have hd := lawDelay_any 0 W2
  rw [hW2] at hd
  clear PB PF CB s2
  go_enter Tryz.func5, Tryz.ntmps5
  go_wp2_with fail
  refine hd.mono ?_
  rw [← hW2]
  rintro e w3 ⟨bl, bo, rfl, hbl, hbo, dL, dO, b3⟩
  clear hd hW2
  have s3 : w.heap.size + 2 ≤ w3.heap.size := by have := b3.size; rw [HS2.out] at this; exact this
  rw [HS2.out] at hbl hbo
  have hB3 : BookAt (fun k => k = w.heap.size + 1) w3 (w.heap.size + 1) (.slice none 0 0) [] := hB2.keeps (T := fun _ => False) ⟨b3.os, b3.tape, b3.output, b3.size, fun k hk _ => b3.block k hk⟩ (fun _ _ h => h)
  have A3 : ∀ o, Keeps (fun _ => False) w3 (w3.alloc o) := fun o => Keeps.of_below ((Below.refl _ _).alloc (Nat.le_refl _) o)
  go_wp2_with fail
  refine (one_first (fun k => k = w.heap.size + 1) (w.heap.size + 1) bl bo w3.heap.size _ _ (hB3.keeps (A3 _) (fun _ _ h => h)) (fun k hk => by simp; omega) (dL.alloc_any _) (dO.alloc_any _) (ints3 _ _ _ _ _ rfl) (by omega) (by omega) (by omega)).mono ?_
  rintro e w4 ⟨rfl, ⟨hv', es', hB4, hes'⟩, K4⟩
  have B3a : Below w3.heap.size w3 (w3.alloc (.cells #[.int .i64 1, .int .i64 0, .int .i64 1] 3)) := (Below.refl _ _).alloc (Nat.le_refl _) _
  have sz3 : (w3.alloc (.cells #[.int .i64 1, .int .i64 0, .int .i64 1] 3)).heap.size = w3.heap.size + 1 := by simp
  have HC4 : Hid (∀ i, w4.cell? ⟨w.heap.size, i, none⟩ = #[.int .i64 n, .slice la ls.length lc, .slice ga gs.length gc, .slice oa os.length oc][i]?) := row_keeps (row_keep (row_keep HCB.out (by rw [HS2.out]; omega) b3) (by omega) B3a) (by rw [sz3]; omega) K4 (by omega)
  have s4 : w3.heap.size + 1 ≤ w4.heap.size := by have := K4.size; rw [sz3] at this; exact this
  have bel4 : Below w.heap.size w w4 := ((b2.trans (b3.mono (by rw [HS2.out]; omega))).trans (B3a.mono (by omega))).trans (K4.below (by rw [sz3]; omega) (fun k hk => by omega))
  have hB4' := hB4.bound
  rw [sz3] at hB4'
  have hS4 : ∀ k, ((k = w.heap.size + 1 ∨ w3.heap.size + 1 ≤ k) ∧ k < w4.heap.size) → k < w4.heap.size := fun k hk => hk.2
  have q0 := HC4.out 0
  have q1 := HC4.out 1
  have q2 := HC4.out 2
  have q3 := HC4.out 3
  clear hB4 K4 hB3 hB2 dL dO A3 B3a sz3
  go_wp2_with fail
  refine (one_run _ (w.heap.size + 1) hv' es' 1 _ n la ga oa ia lc gc oc ic ls gs os ins _ hB4' hS4 hes' (by omega) hml hmg hmo hmi (hL.below bel4) (hG.below bel4) (hO.below bel4) (hI.below bel4) fL fG fO
    (fun b o ha hne h => by have := hL.lt ha hne; omega) (fun b o ha hne h => by have := hG.lt ha hne; omega) (fun b o ha hne h => by have := hO.lt ha hne; omega) (fun b o ha hne h => by have := hI.lt ha hne; omega)).mono ?_
  rintro e w5 ⟨rfl, _, K5⟩
  go_wp2
  go_ret
  exact ⟨rfl, bel4.trans (K5.below (by omega) (fun k hk => by omega))⟩

end Go.Proofs.YtgpaajdfkekjiaaGreatDoor
