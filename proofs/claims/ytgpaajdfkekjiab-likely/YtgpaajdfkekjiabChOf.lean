/-
  Of of package chances: how likely each output is in a step. Written by wip/mk_chof.py.
-/
import Derived.Test.YtgpaajdfkekjiabChOut
import Derived.Test.YtgpaajdfkekjiabStart
namespace Go.Proofs.Ytgpaajdfkekjiab
open Go.RowKit

theorem row_arr {w : World} {b E : Nat} {f : Nat → Nat} (h : w.rowIs b 52 16 (fvf f E)) : w.heap[b]? = some (.cells (arr16 f E) 52 (0, 0)) := by
  obtain ⟨c, hc, hs, hi⟩ := h
  have e : c = arr16 f E := by
    apply Array.ext_getElem?
    intro i
    by_cases h : i < 16
    · rw [hi i h, arr16_get f E i h]
      rfl
    · rw [Array.getElem?_eq_none (by omega), Array.getElem?_eq_none (show 16 ≤ i by omega)]
  rw [hc, e]
theorem fq_one : fq 1 0 = 4607182418800017408 := by kernel_rfl
theorem first_row {w : World} {b S : Nat} {g : Nat → Nat} (h : w.rowIs b 52 16 (fvf (fun _ => 0) 0)) (hg : ∀ t, g t = if t = S then 1 else 0) : (w.setCell ⟨b, S, none⟩ (.float .f64 4607182418800017408)).heap[b]? = some (.cells (arr16 g 0) 52 (0, 0)) := by
  refine row_arr ((h.set S _).congr (fun t _ => ?_))
  unfold fvf
  rw [hg t]
  by_cases e : t = S
  · rw [if_pos e, if_pos e, fq_one]
  · rw [if_neg e, if_neg e]

set_option maxHeartbeats 4000000 in
set_option maxRecDepth 100000 in
theorem chOf (n m steps : Nat) (la ga oa : Option Addr) (lc gc oc : Nat) (ls gs : List (Int × Int)) (os : List Int) (w : World) (hst : steps = m + 1) (h10 : m ≤ 9) (h1 : n ≤ 4) (h2 : ls.length ≤ 4) (h3 : gs.length ≤ 30) (h4 : os.length ≤ 4) (hL : PairsAt w la ls) (hG : PairsAt w ga gs) (hO : IntsAt w oa os)
    (hg : ∀ i, i < gs.length → gateOk (n + ls.length + (i : Nat)) (gs.getD i (0, 0)) = true) (hl : ∀ i, i < ls.length → inB (ls.getD i (0, 0)).1 (2 * (n + ls.length + gs.length) + 1) = true) (ho : ∀ i, i < os.length → inB (os.getD i 0) (2 * (n + ls.length + gs.length) + 1) = true)
    (hinit : ∀ i, i < ls.length → inB (ls.getD i (0, 0)).2 1 = true) :
    Calls Try.prog 12 #[.agg #[.int .i64 n, .slice la ls.length lc, .slice ga gs.length gc, .slice oa os.length oc], .int .i64 steps] w fun e w' => ∃ g, e = .returned (.slice (some ⟨g, 0, none⟩) os.length os.length) ∧ w.heap.size ≤ g ∧ w'.rowIs g 34 os.length (ovf (chN n ls gs os m) (n * steps)) ∧ Below w.heap.size w w' := by
  obtain ⟨W2, hW2⟩ : ∃ W2, W2 = (w.alloc (.cells #[.int .i64 n, .slice la ls.length lc, .slice ga gs.length gc, .slice oa os.length oc] 26)).alloc (.cells #[.float .f64 0, .float .f64 0, .float .f64 0, .float .f64 0, .float .f64 0, .float .f64 0, .float .f64 0, .float .f64 0, .float .f64 0, .float .f64 0, .float .f64 0, .float .f64 0, .float .f64 0, .float .f64 0, .float .f64 0, .float .f64 0] 52) := ⟨_, rfl⟩
  have s2 : W2.heap.size = w.heap.size + 2 := by rw [hW2]; simp
  have B2 : Below w.heap.size w W2 := by rw [hW2]; exact ((Below.refl _ _).alloc (Nat.le_refl _) _).alloc (by simp) _
  have xC : W2.heap[w.heap.size]? = some (.cells #[.int .i64 n, .slice la ls.length lc, .slice ga gs.length gc, .slice oa os.length oc] 26 (0, 0)) := by rw [hW2]; exact alloc_old (alloc_blk _ _ _ rfl)
  have r2 : W2.rowIs (w.heap.size + 1) 52 16 (fvf (fun _ => 0) 0) := by
    rw [hW2]
    have h := zero16 (w.alloc (.cells #[.int .i64 n, .slice la ls.length lc, .slice ga gs.length gc, .slice oa os.length oc] 26)) 0
    simpa using h
  have q0 : W2.cell? ⟨w.heap.size, 0, none⟩ = some (.int .i64 n) := by rw [cell_of_row _ _ _ _ _ _ xC]; rfl
  have q1 : W2.cell? ⟨w.heap.size, 1, none⟩ = some (.slice la ls.length lc) := by rw [cell_of_row _ _ _ _ _ _ xC]; rfl
  have q2 : W2.cell? ⟨w.heap.size, 2, none⟩ = some (.slice ga gs.length gc) := by rw [cell_of_row _ _ _ _ _ _ xC]; rfl
  have q3 : W2.cell? ⟨w.heap.size, 3, none⟩ = some (.slice oa os.length oc) := by rw [cell_of_row _ _ _ _ _ _ xC]; rfl
  have hw1 : IntKind.i64.wrap ((steps : Int) - 1) = (m : Int) := by rw [wrap_i64']; omega
  have hsf := @run_store_flt Try.prog
  have hst16 := start_lt16 (ls := ls) h2
  have HINIT := hidK hinit
  have HST := hidK hst
  clear hst
  go_enter Try.func12, Try.ntmps12
  go_upto_region 2 with fail
  rw [← hW2]
  clear hW2
  go_wp2_with fail
  refine (start_any _ la lc _ _ ls W2 h2 (hL.below B2) HINIT.out).mono ?_
  rintro e w3 ⟨rfl, b3⟩
  have x3 := (b3.block w.heap.size (by omega)).trans xC
  have r3 := r2.of_block (b3.block (w.heap.size + 1) (by omega))
  have B3 : Below w.heap.size w w3 := B2.trans (b3.mono B2.size)
  obtain ⟨S, hS⟩ : ∃ S, S = startOf ls ls.length := ⟨_, rfl⟩
  rw [← hS] at hst16 ⊢
  have c3 : w3.cell? ⟨w.heap.size + 1, S, none⟩ = some (.float .f64 0) := by
    have h := r3.cell hst16
    unfold fvf at h
    rw [fq_zero] at h
    exact h
  have g3 := r3.frozen S
  have R0 := hidK (first_row (S := S) (g := chW n ls gs 0) r3 (fun t => by rw [chW_zero, hS]))
  have C0 := hidK ((Deep.blk_setCell_other w3 ⟨w.heap.size + 1, S, none⟩ (.float .f64 4607182418800017408) w.heap.size (show w.heap.size ≠ w.heap.size + 1 by omega)).trans x3)
  have E0 := hidK (B3.setCell (p := ⟨w.heap.size + 1, S, none⟩) (show w.heap.size ≤ w.heap.size + 1 by omega) (.float .f64 4607182418800017408))
  have hSI : (S : Int) < 16 := by omega
  have hS0 : (0 : Int) ≤ (S : Int) := by omega
  clear q0 q1 q2 q3 r2 r3 xC x3 hS b3 B3
  go_wp2_with fail
  go_loopw [11] (fun i wr => ∃ k : Nat, k ≤ m ∧ i = .int .i64 k ∧ wr.heap[w.heap.size + 1]? = some (.cells (arr16 (chW n ls gs k) (n * k)) 52 (0, 0)) ∧ wr.heap[w.heap.size]? = some (.cells #[.int .i64 n, .slice la ls.length lc, .slice ga gs.length gc, .slice oa os.length oc] 26 (0, 0)) ∧ Below w.heap.size w wr) (fun i _ => m - (intOf i).toNat)
  case atStart => exact ⟨0, Nat.zero_le _, rfl, R0.out, C0.out, E0.out⟩
  case round =>
    clear R0 C0 E0 c3 g3
    obtain ⟨k, hk, rfl, bN, bC, bel⟩ := hrel
    have zB : w.heap.size + 1 < wr.heap.size := (Array.getElem?_eq_some_iff.1 bN).1
    obtain ⟨f, hf⟩ : ∃ f, f = chW n ls gs k := ⟨_, rfl⟩
    obtain ⟨E, hE⟩ : ∃ E, E = n * k := ⟨_, rfl⟩
    rw [← hf, ← hE] at bN
    have hE9 : E + n ≤ 100 := by
      have h := Nat.mul_le_mul h1 (show k + 1 ≤ 10 by omega)
      rw [Nat.mul_succ, ← hE] at h
      omega
    have hfl : ∀ s, s < 16 → f s < 9007199254740992 := fun s hs => by
      have h := chW_le (n := n) (gs := gs) h1 h2 (k := k) (t := s) (by omega) hs
      rw [hf]; omega
    have HF := hidK hf
    have HE := hidK hE
    have HFL := hidK hfl
    clear hf hE hfl
    have q0 : wr.cell? ⟨w.heap.size, 0, none⟩ = some (.int .i64 n) := by rw [cell_of_row _ _ _ _ _ _ bC]; rfl
    have q1 : wr.cell? ⟨w.heap.size, 1, none⟩ = some (.slice la ls.length lc) := by rw [cell_of_row _ _ _ _ _ _ bC]; rfl
    have q2 : wr.cell? ⟨w.heap.size, 2, none⟩ = some (.slice ga gs.length gc) := by rw [cell_of_row _ _ _ _ _ _ bC]; rfl
    have q3 : wr.cell? ⟨w.heap.size, 3, none⟩ = some (.slice oa os.length oc) := by rw [cell_of_row _ _ _ _ _ _ bC]; rfl
    have d0 : wr.cell? ⟨w.heap.size + 1, 0, none⟩ = some (.float .f64 (fq (f 0) E)) := by rw [cell_of_row _ _ _ _ _ _ bN]; rfl
    have d1 : wr.cell? ⟨w.heap.size + 1, 1, none⟩ = some (.float .f64 (fq (f 1) E)) := by rw [cell_of_row _ _ _ _ _ _ bN]; rfl
    have d2 : wr.cell? ⟨w.heap.size + 1, 2, none⟩ = some (.float .f64 (fq (f 2) E)) := by rw [cell_of_row _ _ _ _ _ _ bN]; rfl
    have d3 : wr.cell? ⟨w.heap.size + 1, 3, none⟩ = some (.float .f64 (fq (f 3) E)) := by rw [cell_of_row _ _ _ _ _ _ bN]; rfl
    have d4 : wr.cell? ⟨w.heap.size + 1, 4, none⟩ = some (.float .f64 (fq (f 4) E)) := by rw [cell_of_row _ _ _ _ _ _ bN]; rfl
    have d5 : wr.cell? ⟨w.heap.size + 1, 5, none⟩ = some (.float .f64 (fq (f 5) E)) := by rw [cell_of_row _ _ _ _ _ _ bN]; rfl
    have d6 : wr.cell? ⟨w.heap.size + 1, 6, none⟩ = some (.float .f64 (fq (f 6) E)) := by rw [cell_of_row _ _ _ _ _ _ bN]; rfl
    have d7 : wr.cell? ⟨w.heap.size + 1, 7, none⟩ = some (.float .f64 (fq (f 7) E)) := by rw [cell_of_row _ _ _ _ _ _ bN]; rfl
    have d8 : wr.cell? ⟨w.heap.size + 1, 8, none⟩ = some (.float .f64 (fq (f 8) E)) := by rw [cell_of_row _ _ _ _ _ _ bN]; rfl
    have d9 : wr.cell? ⟨w.heap.size + 1, 9, none⟩ = some (.float .f64 (fq (f 9) E)) := by rw [cell_of_row _ _ _ _ _ _ bN]; rfl
    have d10 : wr.cell? ⟨w.heap.size + 1, 10, none⟩ = some (.float .f64 (fq (f 10) E)) := by rw [cell_of_row _ _ _ _ _ _ bN]; rfl
    have d11 : wr.cell? ⟨w.heap.size + 1, 11, none⟩ = some (.float .f64 (fq (f 11) E)) := by rw [cell_of_row _ _ _ _ _ _ bN]; rfl
    have d12 : wr.cell? ⟨w.heap.size + 1, 12, none⟩ = some (.float .f64 (fq (f 12) E)) := by rw [cell_of_row _ _ _ _ _ _ bN]; rfl
    have d13 : wr.cell? ⟨w.heap.size + 1, 13, none⟩ = some (.float .f64 (fq (f 13) E)) := by rw [cell_of_row _ _ _ _ _ _ bN]; rfl
    have d14 : wr.cell? ⟨w.heap.size + 1, 14, none⟩ = some (.float .f64 (fq (f 14) E)) := by rw [cell_of_row _ _ _ _ _ _ bN]; rfl
    have d15 : wr.cell? ⟨w.heap.size + 1, 15, none⟩ = some (.float .f64 (fq (f 15) E)) := by rw [cell_of_row _ _ _ _ _ _ bN]; rfl
    by_cases hk2 : k < m
    · have hkI : (k : Int) < (m : Int) := by omega
      have call := chBehind n E la ga oa lc gc oc ls gs os f wr h1 h2 h3 h4 (hL.below bel) (hG.below bel) (hO.below bel) hg hl ho hE9 HFL.out (fun s j t hs hj => by
        have h := partW_le40 (gs := gs) h1 h2 (k := k) (by omega) hs hj t
        rw [← HF.out] at h
        omega)
      obtain ⟨G, hG9⟩ : ∃ G, G = wayStep (nxF n ls gs) (2 ^ n) f := ⟨_, rfl⟩
      rw [← hG9] at call
      have HG9 := hidK hG9
      clear hG9
      go_wp2_with fail
      refine call.mono ?_
      rintro e w5 ⟨rfl, b5⟩
      have y5 := (b5.block (w.heap.size + 1) zB).trans bN
      have x5 := (b5.block w.heap.size (by omega)).trans bC
      have b9 : Below w.heap.size w w5 := bel.trans (b5.mono bel.size)
      clear d0 d1 d2 d3 d4 d5 d6 d7 d8 d9 d10 d11 d12 d13 d14 d15 q0 q1 q2 q3 call bN bC
      have u0 : w5.cell? ⟨w.heap.size + 1, 0, none⟩ = some (.float .f64 (fq (f 0) E)) := by rw [cell_of_row _ _ _ _ _ _ y5]; rfl
      have v0 : w5.frozen? ⟨w.heap.size + 1, 0, none⟩ = false := frozen_of_row _ _ _ _ _ y5
      have u1 : w5.cell? ⟨w.heap.size + 1, 1, none⟩ = some (.float .f64 (fq (f 1) E)) := by rw [cell_of_row _ _ _ _ _ _ y5]; rfl
      have v1 : w5.frozen? ⟨w.heap.size + 1, 1, none⟩ = false := frozen_of_row _ _ _ _ _ y5
      have u2 : w5.cell? ⟨w.heap.size + 1, 2, none⟩ = some (.float .f64 (fq (f 2) E)) := by rw [cell_of_row _ _ _ _ _ _ y5]; rfl
      have v2 : w5.frozen? ⟨w.heap.size + 1, 2, none⟩ = false := frozen_of_row _ _ _ _ _ y5
      have u3 : w5.cell? ⟨w.heap.size + 1, 3, none⟩ = some (.float .f64 (fq (f 3) E)) := by rw [cell_of_row _ _ _ _ _ _ y5]; rfl
      have v3 : w5.frozen? ⟨w.heap.size + 1, 3, none⟩ = false := frozen_of_row _ _ _ _ _ y5
      have u4 : w5.cell? ⟨w.heap.size + 1, 4, none⟩ = some (.float .f64 (fq (f 4) E)) := by rw [cell_of_row _ _ _ _ _ _ y5]; rfl
      have v4 : w5.frozen? ⟨w.heap.size + 1, 4, none⟩ = false := frozen_of_row _ _ _ _ _ y5
      have u5 : w5.cell? ⟨w.heap.size + 1, 5, none⟩ = some (.float .f64 (fq (f 5) E)) := by rw [cell_of_row _ _ _ _ _ _ y5]; rfl
      have v5 : w5.frozen? ⟨w.heap.size + 1, 5, none⟩ = false := frozen_of_row _ _ _ _ _ y5
      have u6 : w5.cell? ⟨w.heap.size + 1, 6, none⟩ = some (.float .f64 (fq (f 6) E)) := by rw [cell_of_row _ _ _ _ _ _ y5]; rfl
      have v6 : w5.frozen? ⟨w.heap.size + 1, 6, none⟩ = false := frozen_of_row _ _ _ _ _ y5
      have u7 : w5.cell? ⟨w.heap.size + 1, 7, none⟩ = some (.float .f64 (fq (f 7) E)) := by rw [cell_of_row _ _ _ _ _ _ y5]; rfl
      have v7 : w5.frozen? ⟨w.heap.size + 1, 7, none⟩ = false := frozen_of_row _ _ _ _ _ y5
      have u8 : w5.cell? ⟨w.heap.size + 1, 8, none⟩ = some (.float .f64 (fq (f 8) E)) := by rw [cell_of_row _ _ _ _ _ _ y5]; rfl
      have v8 : w5.frozen? ⟨w.heap.size + 1, 8, none⟩ = false := frozen_of_row _ _ _ _ _ y5
      have u9 : w5.cell? ⟨w.heap.size + 1, 9, none⟩ = some (.float .f64 (fq (f 9) E)) := by rw [cell_of_row _ _ _ _ _ _ y5]; rfl
      have v9 : w5.frozen? ⟨w.heap.size + 1, 9, none⟩ = false := frozen_of_row _ _ _ _ _ y5
      have u10 : w5.cell? ⟨w.heap.size + 1, 10, none⟩ = some (.float .f64 (fq (f 10) E)) := by rw [cell_of_row _ _ _ _ _ _ y5]; rfl
      have v10 : w5.frozen? ⟨w.heap.size + 1, 10, none⟩ = false := frozen_of_row _ _ _ _ _ y5
      have u11 : w5.cell? ⟨w.heap.size + 1, 11, none⟩ = some (.float .f64 (fq (f 11) E)) := by rw [cell_of_row _ _ _ _ _ _ y5]; rfl
      have v11 : w5.frozen? ⟨w.heap.size + 1, 11, none⟩ = false := frozen_of_row _ _ _ _ _ y5
      have u12 : w5.cell? ⟨w.heap.size + 1, 12, none⟩ = some (.float .f64 (fq (f 12) E)) := by rw [cell_of_row _ _ _ _ _ _ y5]; rfl
      have v12 : w5.frozen? ⟨w.heap.size + 1, 12, none⟩ = false := frozen_of_row _ _ _ _ _ y5
      have u13 : w5.cell? ⟨w.heap.size + 1, 13, none⟩ = some (.float .f64 (fq (f 13) E)) := by rw [cell_of_row _ _ _ _ _ _ y5]; rfl
      have v13 : w5.frozen? ⟨w.heap.size + 1, 13, none⟩ = false := frozen_of_row _ _ _ _ _ y5
      have u14 : w5.cell? ⟨w.heap.size + 1, 14, none⟩ = some (.float .f64 (fq (f 14) E)) := by rw [cell_of_row _ _ _ _ _ _ y5]; rfl
      have v14 : w5.frozen? ⟨w.heap.size + 1, 14, none⟩ = false := frozen_of_row _ _ _ _ _ y5
      have u15 : w5.cell? ⟨w.heap.size + 1, 15, none⟩ = some (.float .f64 (fq (f 15) E)) := by rw [cell_of_row _ _ _ _ _ _ y5]; rfl
      have v15 : w5.frozen? ⟨w.heap.size + 1, 15, none⟩ = false := frozen_of_row _ _ _ _ _ y5
      have X9 : Hid (((((((((((((((((w5.setCell ⟨w.heap.size + 1, 0, none⟩ (.float .f64 (fq (G 0) (E + n)))).setCell ⟨w.heap.size + 1, 1, none⟩ (.float .f64 (fq (G 1) (E + n)))).setCell ⟨w.heap.size + 1, 2, none⟩ (.float .f64 (fq (G 2) (E + n)))).setCell ⟨w.heap.size + 1, 3, none⟩ (.float .f64 (fq (G 3) (E + n)))).setCell ⟨w.heap.size + 1, 4, none⟩ (.float .f64 (fq (G 4) (E + n)))).setCell ⟨w.heap.size + 1, 5, none⟩ (.float .f64 (fq (G 5) (E + n)))).setCell ⟨w.heap.size + 1, 6, none⟩ (.float .f64 (fq (G 6) (E + n)))).setCell ⟨w.heap.size + 1, 7, none⟩ (.float .f64 (fq (G 7) (E + n)))).setCell ⟨w.heap.size + 1, 8, none⟩ (.float .f64 (fq (G 8) (E + n)))).setCell ⟨w.heap.size + 1, 9, none⟩ (.float .f64 (fq (G 9) (E + n)))).setCell ⟨w.heap.size + 1, 10, none⟩ (.float .f64 (fq (G 10) (E + n)))).setCell ⟨w.heap.size + 1, 11, none⟩ (.float .f64 (fq (G 11) (E + n)))).setCell ⟨w.heap.size + 1, 12, none⟩ (.float .f64 (fq (G 12) (E + n)))).setCell ⟨w.heap.size + 1, 13, none⟩ (.float .f64 (fq (G 13) (E + n)))).setCell ⟨w.heap.size + 1, 14, none⟩ (.float .f64 (fq (G 14) (E + n)))).setCell ⟨w.heap.size + 1, 15, none⟩ (.float .f64 (fq (G 15) (E + n)))).heap[w.heap.size + 1]? = some (.cells (arr16 (chW n ls gs (k + 1)) (n * (k + 1))) 52 (0, 0))) := by
        refine hidK (show _ = _ from ?_)
        rw [show n * (k + 1) = E + n by rw [Nat.mul_succ, HE.out], show chW n ls gs (k + 1) = G by rw [HG9.out, HF.out]; rfl]
        exact set16 y5
      simp only [arr16]
      go_wp2
      go_roundw
      case rel => exact ⟨k + 1, by omega, by go_num, X9.out, other16 x5 (show w.heap.size ≠ w.heap.size + 1 by omega), below16 b9 (show w.heap.size ≤ w.heap.size + 1 by omega)⟩
      case measure => simp [intOf]; omega
    · have hkI : ¬ ((k : Int) < (m : Int)) := by omega
      have HK := hidK (show k = m by omega)
      have call := chOutputs n E la ga oa lc gc oc ls gs os f wr h1 h2 h3 h4 (hL.below bel) (hG.below bel) (hO.below bel) hg hl ho hE9 HFL.out (fun s j i hs hj => by
        have h := partG_le40 (gs := gs) (g := obF n ls gs os i) (fun s j => obF_le i s j) h1 h2 (k := k) (by omega) hs hj
        rw [← HF.out] at h
        unfold otf
        omega)
      go_wp2_with fail
      refine call.mono ?_
      rintro e w5 ⟨g, rfl, hgB, r5, b5⟩
      clear call d0 d1 d2 d3 d4 d5 d6 d7 d8 d9 d10 d11 d12 d13 d14 d15 q0 q1 q2 q3
      have R5 := hidK (r5.congr (g := ovf (chN n ls gs os m) (n * steps)) (fun i _ => by
        unfold ovf chN
        rw [HST.out, Nat.mul_succ, ← HK.out, ← HE.out, ← HF.out]))
      clear r5
      go_wp2
      go_ret
      exact ⟨g, rfl, by have := bel.size; omega, R5.out, bel.trans (b5.mono bel.size)⟩

end Go.Proofs.Ytgpaajdfkekjiab
