/-
  The walk of the statement Reads of package latchlaw: of any texts, not too many, it returns true and writes nothing that was there. Written by wip/mk_readsw.py.
-/
import Derived.Test.YtgpaajdfkekjiaaGreatDoorReadsA
import Derived.Test.YtgpaajdfkekjiaaGreatDoorOneRead
import Derived.Test.YtgpaajdfkekjiaaGreatDoorBkStart
import Derived.Test.YtgpaajdfkekjiaaGreatDoorRunsW
namespace Go.Proofs.YtgpaajdfkekjiaaGreatDoor
open Go.RowKit

theorem one_read (R : Nat → Nat) (P N : Nat) (v : Nat → Value) (es : Nat → List Entry) (S : List UInt8) (w : World) (hB : Book2 R w P v es N) (hN : N ≤ 3900000) (hL : Lib0 w) (hS2 : S.length < 9223372036854775808) :
    Calls Tryz.prog 13 #[.pointer (some ⟨P, 0, none⟩), .agg #[.int .i64 1, .string ⟨S.toArray⟩, .int .i64 0, .slice none 0 0, .slice none 0 0, .slice none 0 0, .int .i64 0, .slice none 0 0, .slice none 0 0, .slice none 0 0, .slice none 0 0, .int .i64 0]] w fun e w' => e = .returned (.bool true) ∧ OneRes R w P N w' :=
  one_read_of R P N v es (.string ⟨S.toArray⟩) 0 0 0 none none none none none none none 0 0 0 0 0 0 0 [] [] [] [] [] [] [] w hB hN (by simp) (by simp) (by simp) (by simp) (by simp) (by simp) (by simp) (.inl rfl) (.inl rfl) (.inl rfl) (.inl rfl) (.inl rfl) (.inl rfl) (.inl rfl)
    (fun b o e _ => by cases e) (fun b o e _ => by cases e) (fun b o e _ => by cases e) (fun b o e _ => by cases e) (fun b o e _ => by cases e) (fun b o e _ => by cases e) (fun b o e _ => by cases e)
    (RdIs S) (rdIs_one S) (rdIs_len S) (fun W hW => latchRead_end S W (hL.below hW) hS2) (fun W _ => refRead_end S W hS2)

/-- DOC.md's second example. -/
theorem read_first : RdIs [97, 97, 103, 32, 50, 32, 49, 32, 49, 32, 49, 32, 48, 10, 50, 10, 52, 32, 50, 32, 48, 10, 52, 10] 1 [(2, 0)] [] [4] 0 0 := by
  have hr : rightB 1 [(2, 0)] [] [4] = true := by decide
  refine .inr ⟨rfl, rfl, 1, rfl, ?_⟩
  have d0 : Lib.decDigits 0 = [48] := by rw [Lib.decDigits_one (by omega)]; rfl
  have d1 : Lib.decDigits 1 = [49] := by rw [Lib.decDigits_one (by omega)]; rfl
  have d2 : Lib.decDigits 2 = [50] := by rw [Lib.decDigits_one (by omega)]; rfl
  have d4 : Lib.decDigits 4 = [52] := by rw [Lib.decDigits_one (by omega)]; rfl
  have ht : txt 1 [(2, 0)] [] [4] = [97, 97, 103, 32, 50, 32, 49, 32, 49, 32, 49, 32, 48, 10, 50, 10, 52, 32, 50, 32, 48, 10, 52, 10] := by simp [txt, txtHead, txtIn, txtLatch, txtOut, txtGate, lineB, numsTo, d0, d1, d2, d4]
  have := txt_ans (n := 1) (ls := [(2, 0)]) (gs := []) (os := [4]) hr (by rw [ht]; decide)
  rw [ht] at this
  exact this

set_option maxHeartbeats 4000000 in
set_option maxRecDepth 100000 in
theorem reads_walk (la : Option Addr) (n lc : Nat) (Sx : Nat → ByteArray) (w : World) (hL : Lib0 w) (hn : n ≤ 1200000)
    (hA : n = 0 ∨ ∃ b off, la = some ⟨b, off, none⟩ ∧ b < w.heap.size ∧ ∀ i, i < n → w.cell? ⟨b, off + i, none⟩ = some (.string (Sx i)) ∧ (Sx i).size < 9223372036854775808) :
    Calls Tryz.prog 3 #[.slice la n lc] w fun e w' => e = .returned (.bool true) ∧ Below w.heap.size w w' := by
  obtain ⟨W1, hW1⟩ : ∃ W1, W1 = w.alloc (.cells #[.slice none 0 0, .slice none 0 0, .slice none 0 0, .slice none 0 0] 29) := ⟨_, rfl⟩
  have b1 : Below w.heap.size w W1 := by rw [hW1]; exact (Below.refl _ _).alloc (Nat.le_refl _) _
  have s1 : W1.heap.size = w.heap.size + 1 := by rw [hW1]; simp
  have xP : W1.heap[w.heap.size]? = some (.cells #[.slice none 0 0, .slice none 0 0, .slice none 0 0, .slice none 0 0] 29 (0, 0)) := by rw [hW1]; exact alloc_blk _ _ _ rfl
  have hB1 : Book2 (emptyR w.heap.size) W1 w.heap.size (fun _ => .slice none 0 0) (fun _ => []) 0 := book_start (by omega) (fun c hc => by
    rw [cell_of_row _ _ _ _ _ _ xP]
    match c, hc with
    | 0, _ => rfl
    | 1, _ => rfl
    | 2, _ => rfl
    | 3, _ => rfl) (fun i => frozen_of_row _ _ _ _ _ xP)
  have call := latchRead_end [97, 97, 103, 32, 50, 32, 49, 32, 49, 32, 49, 32, 48, 10, 50, 10, 52, 32, 50, 32, 48, 10, 52, 10] W1 (hL.below b1) (by decide)
  have HB1 := hidK hB1
  have HA := hidK hA
  clear hB1 xP hA
  go_enter Tryz.func3, Tryz.ntmps3
  go_upto_region 2 with fail
  rw [← hW1]
  clear hW1
  go_wp2_with fail
  refine call.mono ?_
  rintro e w2 ⟨z, L, G, O, l, r, hR, ra, rg, ro, rlc, rgc, roc, rfl, ol, og, oo, -, -, -, b2⟩
  dsimp only
  obtain ⟨rfl, rfl, rfl, rfl, rfl, rfl⟩ := rdIs_one _ _ _ _ _ _ _ _ _ _ _ _ _ hR read_first
  have s2 := b2.size
  have B2 : Below w.heap.size w w2 := b1.trans (b2.mono b1.size)
  have OL := hidK ol
  have OG := hidK og
  have OO := hidK oo
  clear call hR ol og oo
  obtain ⟨W3, hW3⟩ : ∃ W3, W3 = w2.alloc (.cells #[.int .i64 1, .slice ra 1 rlc, .slice rg 0 rgc, .slice ro 1 roc] 34) := ⟨_, rfl⟩
  have b3 : Below w2.heap.size w2 W3 := by rw [hW3]; exact (Below.refl _ _).alloc (Nat.le_refl _) _
  have s3 : W3.heap.size = w2.heap.size + 1 := by rw [hW3]; simp
  have x3 : W3.heap[w2.heap.size]? = some (.cells #[.int .i64 1, .slice ra 1 rlc, .slice rg 0 rgc, .slice ro 1 roc] 34 (0, 0)) := by rw [hW3]; exact alloc_blk _ _ _ rfl
  have q0 : W3.cell? ⟨w2.heap.size, 0, none⟩ = some (.int .i64 1) := by rw [cell_of_row _ _ _ _ _ _ x3]; rfl
  have q1 : W3.cell? ⟨w2.heap.size, 1, none⟩ = some (.slice ra 1 rlc) := by rw [cell_of_row _ _ _ _ _ _ x3]; rfl
  have q2 : W3.cell? ⟨w2.heap.size, 2, none⟩ = some (.slice rg 0 rgc) := by rw [cell_of_row _ _ _ _ _ _ x3]; rfl
  have q3 : W3.cell? ⟨w2.heap.size, 3, none⟩ = some (.slice ro 1 roc) := by rw [cell_of_row _ _ _ _ _ _ x3]; rfl
  go_upto_region 3 with fail
  simp only [List.length_cons, List.length_nil, Nat.zero_add]
  rw [← hW3]
  clear hW3
  refine wp_region_noPanic ?_
  refine wp_region_any (by kernel_rfl) ?_
  simp only [List.size_toArray, List.length_cons, List.length_nil, Nat.zero_add, Nat.reduceAdd]
  refine wpAny_of_held (S := fun w' => w'.cell? ⟨w2.heap.size, 0, none⟩ = some (.int .i64 1) ∧ w'.cell? ⟨w2.heap.size, 1, none⟩ = some (.slice ra 1 rlc) ∧ w'.cell? ⟨w2.heap.size, 2, none⟩ = some (.slice rg 0 rgc) ∧ w'.cell? ⟨w2.heap.size, 3, none⟩ = some (.slice ro 1 roc)) _ _ _ _ ?_
  have hHeld : (fun w' : World => w'.cell? ⟨w2.heap.size, 0, none⟩ = some (.int .i64 1) ∧ w'.cell? ⟨w2.heap.size, 1, none⟩ = some (.slice ra 1 rlc) ∧ w'.cell? ⟨w2.heap.size, 2, none⟩ = some (.slice rg 0 rgc) ∧ w'.cell? ⟨w2.heap.size, 3, none⟩ = some (.slice ro 1 roc)) W3.drew := ⟨q0, q1, q2, q3⟩
  refine wpAnyH_take (i := 0) (v := ?_) (by simp only [List.getElem?_toArray, List.getElem?_cons_zero]; rfl) (by kernel_rfl) (by kernel_rfl) (by kernel_rfl) (fun _ _ _ h => h) (Or.inl ⟨by rfl, ?_⟩) hHeld ?_
  rotate_left 1
  · (intro w0 hSw; (try dsimp only at hSw); go_simp; try (with_reducible rfl))
  simp only [Act.put, List.setIfInBounds_toArray, List.set_cons_zero, List.set_cons_succ]
  refine wpAnyH_ready (rs := [1]) (by kernel_rfl) (by simp) (AllReadyH.cons (by simp only [List.getElem?_toArray, List.getElem?_cons_succ, List.getElem?_cons_zero]; rfl) (fun K hK => ?_) AllReadyH.nil)
  go_simp
  refine (lawDelay_any 0 W3.drew).mono ?_
  rintro e w4 ⟨bl, bo, rfl, hbl, hbo, dL, dO, b4⟩
  have b34 : Below W3.heap.size W3 w4 := ((Below.refl _ W3).drew).trans (b4.mono (Nat.le_refl _))
  have x4 := (b34.block w2.heap.size (by omega)).trans x3
  dsimp only
  refine hK.out _ _ ?_ (fun hHeld => ?_)
  · exact ⟨by rw [cell_of_row _ _ _ _ _ _ x4]; rfl, by rw [cell_of_row _ _ _ _ _ _ x4]; rfl, by rw [cell_of_row _ _ _ _ _ _ x4]; rfl, by rw [cell_of_row _ _ _ _ _ _ x4]; rfl⟩
  clear hK K
  try simp only [Act.put, List.setIfInBounds_toArray, List.set_cons_zero, List.set_cons_succ]
  refine wpAnyH_ready (rs := [2]) (by kernel_rfl) (by simp) (AllReadyH.cons (by simp only [List.getElem?_toArray, List.getElem?_cons_succ, List.getElem?_cons_zero]; rfl) (fun K hK => ?_) AllReadyH.nil)
  go_simp
  have b24 : Below w2.heap.size w2 w4 := b3.trans (b34.mono (by omega))
  refine (sameCirc_eq 1 ra (some ⟨bl, 0, none⟩) rg none ro (some ⟨bo, 0, none⟩) rlc 1 rgc 0 roc 1 [(2, 0)] [] [4] w4 (by simp) (by simp) (by simp) (own_pairsC (own_belowK OL.out b24)) dL (own_pairsC (own_belowK OG.out b24)) (.inl rfl) (own_intsC (own_belowK OO.out b24)) dO).mono ?_
  rintro e w5 ⟨rfl, b5⟩
  dsimp only
  have x5 := (b5.block w2.heap.size (by have := b34.size; omega)).trans x4
  refine hK.out _ _ ?_ (fun hHeld => ?_)
  · exact ⟨by rw [cell_of_row _ _ _ _ _ _ x5]; rfl, by rw [cell_of_row _ _ _ _ _ _ x5]; rfl, by rw [cell_of_row _ _ _ _ _ _ x5]; rfl, by rw [cell_of_row _ _ _ _ _ _ x5]; rfl⟩
  clear hK K
  try simp only [Act.put, List.setIfInBounds_toArray, List.set_cons_zero, List.set_cons_succ]
  refine wpAnyH_take (i := 3) (v := ?_) (by simp only [List.getElem?_toArray, List.getElem?_cons_succ, List.getElem?_cons_zero]; rfl) (by kernel_rfl) (by kernel_rfl) (by kernel_rfl) (fun _ _ _ h => h) (Or.inl ⟨by rfl, ?_⟩) hHeld ?_
  rotate_left 1
  · (intro w0 hSw; (try dsimp only at hSw); go_simp; try (with_reducible rfl))
  simp only [Act.put, List.setIfInBounds_toArray, List.set_cons_zero, List.set_cons_succ]
  refine wpAnyH_done (by kernel_rfl) ?_ _
  refine NoPanic.normal ?_
  clear hHeld
  have b25 : Below w2.heap.size w2 w5 := b24.trans (b5.mono b24.size)
  have B5 : Below w.heap.size w w5 := B2.trans (b25.mono B2.size)
  have hB5 := HB1.out.below (b2.trans (b25.mono b2.size))
  have e5 : ∀ q, emptyR w.heap.size q < 6 → w.heap.size ≤ q := fun q hq => by rw [emptyR_lt hq]; exact Nat.le_refl _
  clear q0 q1 q2 q3 x3 x4 x5 b34 b24 b3 b4 b5 dL dO OL OG OO
  go_wp2_with fail
  go_loopw [8] (fun i wr => ∃ (k : Nat) (R : Nat → Nat) (v : Nat → Value) (es : Nat → List Entry), k ≤ n ∧ i = .int .i64 k ∧ Book2 R wr w.heap.size v es (3 * k) ∧ (∀ q, R q < 6 → w.heap.size ≤ q) ∧ Below w.heap.size w wr) (fun i _ => n - (intOf i).toNat)
  case atStart => exact ⟨0, _, _, _, Nat.zero_le _, rfl, hB5, e5, B5⟩
  case round =>
    clear hB5 e5 B5
    obtain ⟨k, R, v, es, hk, rfl, hB, hR, bel⟩ := hrel
    by_cases hk2 : k < n
    · obtain ⟨b, off, rfl, hb, hc⟩ : ∃ b off, la = some ⟨b, off, none⟩ ∧ b < w.heap.size ∧ ∀ i, i < n → w.cell? ⟨b, off + i, none⟩ = some (.string (Sx i)) ∧ (Sx i).size < 9223372036854775808 := by
        rcases HA.out with h | h
        · omega
        · exact h
      obtain ⟨S, hS⟩ : ∃ S, S = (Sx k).data.toList := ⟨_, rfl⟩
      have hSe : Sx k = ⟨S.toArray⟩ := by rw [hS]
      have c0 := (bel.cell (p := ⟨b, off + k, none⟩) hb).trans (hc k hk2).1
      have hsz : S.length < 9223372036854775808 := by
        have h := (hc k hk2).2
        rw [hSe, bsize] at h
        exact h
      rw [hSe] at c0
      have hkI : (k : Int) < (n : Int) := by omega
      have hk0 : (0 : Int) ≤ (k : Int) := by omega
      have one := one_read R w.heap.size (3 * k) v es S wr hB (by omega) (hL.below bel) hsz
      have HRR := hidK hR
      clear hS hSe hc hB hsz
      go_wp2_with fail
      refine one.mono ?_
      rintro e w7 ⟨rfl, R7, v7, es7, hB7, K7, n7⟩
      have bel7 : Below w.heap.size w w7 := bel.trans (K7.below bel.size (fun q hq => HRR.out q hq))
      have hR7 : ∀ q, R7 q < 6 → w.heap.size ≤ q := fun q hq => by
        rcases n7 q hq with h | h
        · exact HRR.out q h
        · have := bel.size; omega
      have HB7 := hidK (hB7.mono (show 3 * k + 3 ≤ 3 * (k + 1) by omega))
      clear one hB7
      go_wp2
      go_roundw
      case rel => exact ⟨k + 1, R7, v7, es7, by omega, by go_num, HB7.out, hR7, bel7⟩
      case measure => simp [intOf]; omega
    · have hkN : ¬ ((k : Int) < (n : Int)) := by omega
      clear hB
      go_wp2_with (go_at_call 14; refine (num_any _ _).mono ?_; rintro e w' ⟨rfl, hw⟩; have hw := hw.symm; subst hw)
      go_ret
      exact ⟨rfl, bel⟩

end Go.Proofs.YtgpaajdfkekjiaaGreatDoor
