/-
  The walk of the statement Writes of package latchlaw: of any circuit it returns true and writes nothing that was there.
-/
import Derived.Test.YtgpaajdfkekjiaaGreatDoorOneWrite
import Derived.Test.YtgpaajdfkekjiaaGreatDoorRunsW
namespace Go.Proofs.YtgpaajdfkekjiaaGreatDoor
open Go.RowKit

theorem dec0 : Lib.decDigits 0 = [48] := by rw [dec_one 0 (by omega)]; rfl
theorem dec1 : Lib.decDigits 1 = [49] := by rw [dec_one 1 (by omega)]; rfl
theorem dec2 : Lib.decDigits 2 = [50] := by rw [dec_one 2 (by omega)]; rfl
theorem dec4 : Lib.decDigits 4 = [52] := by rw [dec_one 4 (by omega)]; rfl
/-- The text of DOC.md's second example. -/
theorem txt_first : wrS 1 [(2, 0)] [] [4] = [97, 97, 103, 32, 50, 32, 49, 32, 49, 32, 49, 32, 48, 10, 50, 10, 52, 32, 50, 32, 48, 10, 52, 10] := by
  have hr : rightB 1 [(2, 0)] [] [4] = true := by decide
  simp only [wrS, hr, if_true]
  simp [txt, txtHead, txtIn, txtLatch, txtOut, txtGate, lineB, numsTo, dec0, dec1, dec2, dec4]
theorem err_first : wrE 1 [(2, 0)] [] [4] = 0 := by
  have hr : rightB 1 [(2, 0)] [] [4] = true := by decide
  simp only [wrE, hr, if_true]

theorem write_first (bl bo : Nat) (w : World) (hL : PairsAt w (some ⟨bl, 0, none⟩) [(2, 0)]) (hO : IntsAt w (some ⟨bo, 0, none⟩) [4]) :
    Calls Tryz.prog 15 #[.agg #[.int .i64 1, .slice (some ⟨bl, 0, none⟩) 1 1, .slice none 0 0, .slice (some ⟨bo, 0, none⟩) 1 1]] w fun e w' =>
      e = .returned (.tuple #[.string ⟨#[97, 97, 103, 32, 50, 32, 49, 32, 49, 32, 49, 32, 48, 10, 50, 10, 52, 32, 50, 32, 48, 10, 52, 10]⟩, .int .i64 0]) ∧ Below w.heap.size w w' := by
  have h := write_all 1 (some ⟨bl, 0, none⟩) none (some ⟨bo, 0, none⟩) 1 0 1 [(2, 0)] [] [4] w hL (.inl rfl) hO
  rw [txt_first, err_first] at h
  exact h

set_option maxHeartbeats 1000000 in
set_option maxRecDepth 100000 in
theorem writes_walk (n : Int) (la ga oa : Option Addr) (lc gc oc : Nat) (ls gs : List (Int × Int)) (os : List Int) (w : World)
    (hml : ls.length * 16 ≤ 140737488351232) (hmg : gs.length * 16 ≤ 140737488351232) (hmo : os.length * 8 ≤ 140737488351232)
    (hL : PairsAt w la ls) (hG : PairsAt w ga gs) (hO : IntsAt w oa os)
    (fL : ∀ i, i < ls.length → Fits (ls.getD i (0, 0)).1) (fG : ∀ i, i < gs.length → Fits (gs.getD i (0, 0)).1 ∧ Fits (gs.getD i (0, 0)).2) (fO : ∀ i, i < os.length → Fits (os.getD i 0)) :
    Calls Tryz.prog 4 #[.agg #[.int .i64 n, .slice la ls.length lc, .slice ga gs.length gc, .slice oa os.length oc]] w fun e w' => e = .returned (.bool true) ∧ Below w.heap.size w w' := by
  obtain ⟨W2, hW2⟩ : ∃ W2, W2 = (w.alloc (.cells #[.int .i64 n, .slice la ls.length lc, .slice ga gs.length gc, .slice oa os.length oc] 34)).alloc (.cells #[.slice none 0 0, .slice none 0 0, .slice none 0 0, .slice none 0 0] 29) := ⟨_, rfl⟩
  have b2 : Below w.heap.size w W2 := by rw [hW2]; exact ((Below.refl _ _).alloc (Nat.le_refl _) _).alloc (by simp) _
  have s2 : W2.heap.size = w.heap.size + 2 := by rw [hW2]; simp
  have PB : ∀ i, W2.cell? ⟨w.heap.size + 1, i, none⟩ = #[.slice none 0 0, .slice none 0 0, .slice none 0 0, .slice none 0 0][i]? := fun i => by rw [hW2]; exact cell_of_row _ _ _ _ _ _ (alloc_blk _ _ _ (by simp))
  have PF : W2.frozen? ⟨w.heap.size + 1, 0, none⟩ = false := by rw [hW2]; exact World.frozen?_alloc_at _ _ _ _ (by simp)
  have CB : ∀ i, W2.cell? ⟨w.heap.size, i, none⟩ = #[.int .i64 n, .slice la ls.length lc, .slice ga gs.length gc, .slice oa os.length oc][i]? := fun i => by rw [hW2]; exact cell_of_row _ _ _ _ _ _ (alloc_old (alloc_blk _ _ _ rfl))
  have hB2 : BookAt (fun k => k = w.heap.size + 1) W2 (w.heap.size + 1) (.slice none 0 0) [] := ⟨rfl, by rw [s2]; omega, PB 0, PB 1, PB 2, PB 3, PF, World.ownsRow_nil _ _ _ _, fun q h => by simp [Value.ownBlock] at h, by simp, fun k h => absurd h (Nat.not_lt_zero k)⟩
  have HCB : Hid (∀ i, W2.cell? ⟨w.heap.size, i, none⟩ = #[.int .i64 n, .slice la ls.length lc, .slice ga gs.length gc, .slice oa os.length oc][i]?) := CB
  have HS2 : Hid (W2.heap.size = w.heap.size + 2) := s2
  have hd := lawDelay_any 0 W2
  rw [hW2] at hd
  clear PB PF CB s2
  go_enter Tryz.func4, Tryz.ntmps4
  go_wp2_with fail
  refine hd.mono ?_
  rw [← hW2]
  rintro e w3 ⟨bl, bo, rfl, hbl, hbo, dL, dO, b3⟩
  clear hd hW2
  have s3 : w.heap.size + 2 ≤ w3.heap.size := by have := b3.size; rw [HS2.out] at this; exact this
  go_wp2_with fail
  refine (write_first bl bo _ dL dO).mono ?_
  rintro e w4 ⟨rfl, b4⟩
  have b24 : Below W2.heap.size W2 w4 := b3.trans (b4.mono b3.size)
  have s4 : w3.heap.size ≤ w4.heap.size := b4.size
  have bel4 : Below w.heap.size w w4 := b2.trans (b24.mono (by rw [HS2.out]; omega))
  have hB4 : BookAt (fun k => k = w.heap.size + 1) w4 (w.heap.size + 1) (.slice none 0 0) [] := hB2.keeps (T := fun _ => False) ⟨b24.os, b24.tape, b24.output, b24.size, fun k hk _ => b24.block k hk⟩ (fun _ _ h => h)
  have HC4 : Hid (∀ i, w4.cell? ⟨w.heap.size, i, none⟩ = #[.int .i64 n, .slice la ls.length lc, .slice ga gs.length gc, .slice oa os.length oc][i]?) := row_keep HCB.out (by rw [HS2.out]; omega) b24
  have q0 := HC4.out 0
  have q1 := HC4.out 1
  have q2 := HC4.out 2
  have q3 := HC4.out 3
  clear hB2 dL dO b3 b4
  go_wp2_with fail
  refine (one_write (fun k => k = w.heap.size + 1) (w.heap.size + 1) _ [] _ n la ga oa lc gc oc ls gs os _ hB4 (fun k hk => by omega) hml hmg hmo (hL.below bel4) (hG.below bel4) (hO.below bel4) fL fG fO).mono ?_
  rintro e w5 ⟨rfl, K5⟩
  go_wp2_with (go_at_call 14; refine (num_any _ _).mono ?_; rintro e w' ⟨rfl, hw⟩; have hw := hw.symm; subst hw)
  go_ret
  exact ⟨rfl, bel4.trans (K5.below (by omega) (fun k hk => by omega))⟩

end Go.Proofs.YtgpaajdfkekjiaaGreatDoor
