/-
  The walk of the statement Chancy of package latchlaw: of any circuit and any number of steps it returns true and writes nothing that was there.
-/
import Derived.Test.YtgpaajdfkekjiaaGreatDoorChAll
import Derived.Test.YtgpaajdfkekjiaaGreatDoorOneCh
import Derived.Test.YtgpaajdfkekjiaaGreatDoorBkStart
import Derived.Test.YtgpaajdfkekjiaaGreatDoorRunsW
namespace Go.Proofs.YtgpaajdfkekjiaaGreatDoor
open Go.RowKit

theorem one_chances (R : Nat → Nat) (P N : Nat) (v : Nat → Value) (es : Nat → List Entry) (sv : Value) (n m nn : Int) (la ga oa lb gb ob ia : Option Addr) (lc gc oc ld gd od ic : Nat) (ls gs : List (Int × Int)) (os : List Int) (lt gt : List (Int × Int)) (ot ins : List Int) (w : World)
    (hB : Book2 R w P v es N) (hN : N ≤ 690000000000)
    (hml : ls.length * 16 ≤ 140737488351232) (hmg : gs.length * 16 ≤ 140737488351232) (hmo : os.length * 8 ≤ 140737488351232) (hnl : lt.length * 16 ≤ 140737488351232) (hng : gt.length * 16 ≤ 140737488351232) (hno : ot.length * 8 ≤ 140737488351232) (hmi : ins.length * 8 ≤ 140737488351232)
    (hL : PairsAt w la ls) (hG : PairsAt w ga gs) (hO : IntsAt w oa os) (kL : PairsAt w lb lt) (kG : PairsAt w gb gt) (kO : IntsAt w ob ot) (hI : IntsAt w ia ins)
    (fL : ∀ i, i < ls.length → Fits (ls.getD i (0, 0)).1) (fG : ∀ i, i < gs.length → Fits (gs.getD i (0, 0)).1 ∧ Fits (gs.getD i (0, 0)).2) (fO : ∀ i, i < os.length → Fits (os.getD i 0))
    (sL : ∀ b o, la = some ⟨b, o, none⟩ → ls ≠ [] → ¬ R b < 6) (sG : ∀ b o, ga = some ⟨b, o, none⟩ → gs ≠ [] → ¬ R b < 6) (sO : ∀ b o, oa = some ⟨b, o, none⟩ → os ≠ [] → ¬ R b < 6)
    (rL : ∀ b o, lb = some ⟨b, o, none⟩ → lt ≠ [] → ¬ R b < 6) (rG : ∀ b o, gb = some ⟨b, o, none⟩ → gt ≠ [] → ¬ R b < 6) (rO : ∀ b o, ob = some ⟨b, o, none⟩ → ot ≠ [] → ¬ R b < 6) (sI : ∀ b o, ia = some ⟨b, o, none⟩ → ins ≠ [] → ¬ R b < 6) :
    Calls Tryz.prog 13 #[.pointer (some ⟨P, 0, none⟩), .agg #[.int .i64 5, sv, .int .i64 n, .slice la ls.length lc, .slice ga gs.length gc, .slice oa os.length oc, .int .i64 m, .slice lb lt.length ld, .slice gb gt.length gd, .slice ob ot.length od, .slice ia ins.length ic, .int .i64 nn]] w fun e w' => e = .returned (.bool true) ∧ OneRes R w P N w' :=
  one_chances_of R P N v es sv n m nn la ga oa lb gb ob ia lc gc oc ld gd od ic ls gs os lt gt ot ins w hB hN hml hmg hmo hnl hng hno hmi hL hG hO kL kG kO hI sL sG sO rL rG rO sI
    (faL n ls gs os nn) (faE n ls gs os nn) (Nat.le_trans (faL_len n ls gs os nn) (by omega)) (faL_self n ls gs os nn)
    (fun W la1 ga1 oa1 lc1 gc1 oc1 _ h1 h2 h3 => latchChances_all n nn la1 ga1 oa1 lc1 gc1 oc1 ls gs os W h1 h2 h3)
    (fun W hW => refChances_all n nn la ga oa lc gc oc ls gs os W (hL.below hW) (hG.below hW) (hO.below hW) fL fG fO)

/-- one, at DOC.md's second example, its second step. -/
theorem one_chances_first (R : Nat → Nat) (P N : Nat) (v : Nat → Value) (es : Nat → List Entry) (bl bo : Nat) (i : Int) (sv : Value) (w : World) (hB : Book2 R w P v es N) (hN : N ≤ 690000000000)
    (hL : PairsAt w (some ⟨bl, 0, none⟩) [(2, i)]) (hO : IntsAt w (some ⟨bo, 0, none⟩) [4]) (h1 : ¬ R bl < 6) (h2 : ¬ R bo < 6) :
    Calls Tryz.prog 13 #[.pointer (some ⟨P, 0, none⟩), .agg #[.int .i64 5, sv, .int .i64 1, .slice (some ⟨bl, 0, none⟩) 1 1, .slice none 0 0, .slice (some ⟨bo, 0, none⟩) 1 1, .int .i64 0, .slice none 0 0, .slice none 0 0, .slice none 0 0, .slice none 0 0, .int .i64 2]] w fun e w' =>
      e = .returned (.bool true) ∧ OneRes R w P N w' :=
  one_chances R P N v es sv 1 0 2 (some ⟨bl, 0, none⟩) none (some ⟨bo, 0, none⟩) none none none none 1 0 1 0 0 0 0 [(2, i)] [] [4] [] [] [] [] w hB hN (by simp) (by simp) (by simp) (by simp) (by simp) (by simp) (by simp) hL (.inl rfl) hO (.inl rfl) (.inl rfl) (.inl rfl) (.inl rfl)
    (fun k hk => by match k, hk with | 0, _ => exact fits_small (show (-1000000 : Int) ≤ 2 by decide) (show (2 : Int) ≤ 1000000 by decide)) (fun i hi => by simp at hi) (fun i hi => by match i, hi with | 0, _ => exact fits_small (by decide) (by decide))
    (fun b o e _ => by rw [← some_block e]; exact h1) (fun b o e _ => by cases e) (fun b o e _ => by rw [← some_block e]; exact h2) (fun b o e _ => by cases e) (fun b o e _ => by cases e) (fun b o e _ => by cases e) (fun b o e _ => by cases e)

set_option maxHeartbeats 2000000 in
set_option maxRecDepth 100000 in
theorem chancy_walk (n steps : Int) (la ga oa : Option Addr) (lc gc oc : Nat) (ls gs : List (Int × Int)) (os : List Int) (w : World)
    (hml : ls.length * 16 ≤ 140737488351232) (hmg : gs.length * 16 ≤ 140737488351232) (hmo : os.length * 8 ≤ 140737488351232)
    (hL : PairsAt w la ls) (hG : PairsAt w ga gs) (hO : IntsAt w oa os)
    (fL : ∀ i, i < ls.length → Fits (ls.getD i (0, 0)).1) (fG : ∀ i, i < gs.length → Fits (gs.getD i (0, 0)).1 ∧ Fits (gs.getD i (0, 0)).2) (fO : ∀ i, i < os.length → Fits (os.getD i 0)) :
    Calls Tryz.prog 7 #[.agg #[.int .i64 n, .slice la ls.length lc, .slice ga gs.length gc, .slice oa os.length oc], .int .i64 steps] w fun e w' => e = .returned (.bool true) ∧ Below w.heap.size w w' := by
  obtain ⟨W3, hW3⟩ : ∃ W3, W3 = (w.alloc (.cells #[.int .i64 n, .slice la ls.length lc, .slice ga gs.length gc, .slice oa os.length oc] 34)).alloc (.cells #[.slice none 0 0, .slice none 0 0, .slice none 0 0, .slice none 0 0] 29) := ⟨_, rfl⟩
  have b3 : Below w.heap.size w W3 := by rw [hW3]; exact ((Below.refl _ _).alloc (Nat.le_refl _) _).alloc (by simp) _
  have s3 : W3.heap.size = w.heap.size + 2 := by rw [hW3]; simp
  have xA : W3.heap[w.heap.size]? = some (.cells #[.int .i64 n, .slice la ls.length lc, .slice ga gs.length gc, .slice oa os.length oc] 34 (0, 0)) := by rw [hW3]; exact alloc_old (alloc_blk _ _ _ rfl)
  have xP : W3.heap[w.heap.size + 1]? = some (.cells #[.slice none 0 0, .slice none 0 0, .slice none 0 0, .slice none 0 0] 29 (0, 0)) := by rw [hW3]; exact alloc_blk _ _ _ (by simp)
  have hB3 : Book2 (emptyR (w.heap.size + 1)) W3 (w.heap.size + 1) (fun _ => .slice none 0 0) (fun _ => []) 0 := book_start (by omega) (fun c hc => by
    rw [cell_of_row _ _ _ _ _ _ xP]
    match c, hc with
    | 0, _ => rfl
    | 1, _ => rfl
    | 2, _ => rfl
    | 3, _ => rfl) (fun i => frozen_of_row _ _ _ _ _ xP)
  have hd0 := lawDelay_any 0 W3
  rw [hW3] at hd0
  have HB3 := hidK hB3
  have XA := hidK xA
  clear hB3 xA xP
  go_enter Tryz.func7, Tryz.ntmps7
  go_wp2_with fail
  refine hd0.mono ?_
  rw [← hW3]
  rintro e w5 ⟨bl, bo, rfl, hbl, hbo, dL, dO, b4⟩
  clear hd0 hW3
  have s5 := b4.size
  have B05 : Below w.heap.size w w5 := b3.trans (b4.mono b3.size)
  have eR : ∀ k, k ≠ w.heap.size + 1 → ¬ emptyR (w.heap.size + 1) k < 6 := fun k hk h => hk (emptyR_lt h)
  go_wp2_with fail
  refine (one_chances_first (emptyR (w.heap.size + 1)) (w.heap.size + 1) 0 _ _ bl bo 0 _ _ (HB3.out.below b4) (by omega) dL dO (eR _ (by omega)) (eR _ (by omega))).mono ?_
  rintro e w6 ⟨rfl, R6, v6, es6, hB6, K6, n6⟩
  have yA := (K6.block w.heap.size (by omega) (eR _ (by omega))).trans ((b4.block w.heap.size (by omega)).trans XA.out)
  have bel6 : Below w.heap.size w w6 := B05.trans (K6.below (by omega) (fun k hk => by rw [emptyR_lt hk]; omega))
  have s6 := K6.size
  have n6' : ∀ k, k < w.heap.size → ¬ R6 k < 6 := fun k hk h => by
    rcases n6 k h with h | h
    · have := emptyR_lt h; omega
    · omega
  have A0 : w6.cell? ⟨w.heap.size, 0, none⟩ = some (.int .i64 n) := by rw [cell_of_row _ _ _ _ _ _ yA]; rfl
  have A1 : w6.cell? ⟨w.heap.size, 1, none⟩ = some (.slice la ls.length lc) := by rw [cell_of_row _ _ _ _ _ _ yA]; rfl
  have A2 : w6.cell? ⟨w.heap.size, 2, none⟩ = some (.slice ga gs.length gc) := by rw [cell_of_row _ _ _ _ _ _ yA]; rfl
  have A3 : w6.cell? ⟨w.heap.size, 3, none⟩ = some (.slice oa os.length oc) := by rw [cell_of_row _ _ _ _ _ _ yA]; rfl
  have HB6 := hidK hB6
  clear hB6
  go_wp2_with fail
  refine (one_chances R6 (w.heap.size + 1) (0 + 1) v6 es6 _ n 0 steps la ga oa none none none none lc gc oc 0 0 0 0 ls gs os [] [] [] [] _ HB6.out (by omega) hml hmg hmo (by simp) (by simp) (by simp) (by simp) (hL.below bel6) (hG.below bel6) (hO.below bel6) (.inl rfl) (.inl rfl) (.inl rfl) (.inl rfl) fL fG fO
    (fun b o ha hne => n6' _ (hL.lt ha hne)) (fun b o ha hne => n6' _ (hG.lt ha hne)) (fun b o ha hne => n6' _ (hO.lt ha hne)) (fun b o ha hne => by cases ha) (fun b o ha hne => by cases ha) (fun b o ha hne => by cases ha) (fun b o ha hne => by cases ha)).mono ?_
  rintro e w7 ⟨rfl, R7, v7, es7, hB7, K7, n7⟩
  go_wp2
  go_ret
  refine ⟨rfl, bel6.trans (K7.below (by omega) (fun k hk => ?_))⟩
  rcases n6 k hk with h | h
  · rw [emptyR_lt h]; omega
  · omega

end Go.Proofs.YtgpaajdfkekjiaaGreatDoor
