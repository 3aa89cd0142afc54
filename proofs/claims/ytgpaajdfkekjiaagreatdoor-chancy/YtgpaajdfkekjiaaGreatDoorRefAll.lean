/-
  What the smaller functions of package latchref answer: isSignal, top, of, values, outputs, behind, begin.
  What values, outputs and behind of package latchref answer of a right circuit.
  What outputs and behind of package latchref answer of a right circuit.
  What Right of package latchref answers of any circuit whose lists can be read: just what Right of package circuit answers.
  What Run of package latchref answers of any circuit and any inputs whose lists can be read: just what Run of package latch answers.
-/
import Derived.Test.YtgpaajdfkekjiaaGreatDoorKeepInts
namespace Go.Proofs.YtgpaajdfkekjiaaGreatDoor
open Go.RowKit

theorem isSignal_is {s last : Int} {b : Bool} (w : World) (hs1 : -9223372036854775808 ≤ s) (hs2 : s ≤ 9223372036854775807) (h : inB s (2 * last + 1) = b) :
    Calls Tryz.prog 74 #[.int .i64 s, .int .i64 (last + 1)] w fun e w' => e = .returned (.bool b) ∧ w' = w := by
  subst h
  by_cases h2 : 0 ≤ s
  · by_cases h3 : s / 2 < last + 1
    · go_enter Tryz.func74, Tryz.ntmps74
      go_wp2
      go_ret
      exact ⟨ret_bool (by simp [inB]; omega), rfl⟩
    · go_enter Tryz.func74, Tryz.ntmps74
      go_wp2
      go_ret
      exact ⟨ret_bool (by simp [inB]; omega), rfl⟩
  · go_enter Tryz.func74, Tryz.ntmps74
    go_wp2
    go_ret
    exact ⟨ret_bool (by simp [inB]; omega), rfl⟩

theorem top_any (n : Int) (la ga oa : Option Addr) (ln lc gn gc on oc : Nat) (w : World) (h0 : 0 ≤ n) (h1 : n ≤ 4) (h2 : ln ≤ 1000) (h3 : gn ≤ 1000) :
    Calls Tryz.prog 48 #[.agg #[.int .i64 n, .slice la ln lc, .slice ga gn gc, .slice oa on oc]] w fun e w' =>
      e = .returned (.int .i64 (n + ln + gn)) ∧ w' = w.alloc (.cells #[.int .i64 n, .slice la ln lc, .slice ga gn gc, .slice oa on oc] 34) := by
  go_enter Tryz.func48, Tryz.ntmps48
  go_wp2
  go_ret
  exact ⟨rfl, rfl⟩

theorem of_is {s : Int} {base g len cap a : Nat} {vs : List Nat} (w : World) (h0 : 0 ≤ s) (hl : s / 2 < len) (hlen : len ≤ 1000) (hv : len = vs.length)
    (h01 : ∀ x ∈ vs, x ≤ 1) (hown : w.ownsRow base 3 1 (.slice (some ⟨g, 0, none⟩) len cap) len (ivals vs)) (ha : sigv s vs = a) :
    Calls Tryz.prog 80 #[.slice (some ⟨g, 0, none⟩) len cap, .int .i64 s] w fun e w' => e = .returned (.int .i64 (a : Nat)) ∧ w' = w := by
  subst ha
  have hcell := own_cells hown (s / 2).toNat (by omega)
  rw [Nat.zero_add] at hcell
  have hx : vs.getD (s / 2).toNat 0 ≤ 1 := by
    have hlt : (s / 2).toNat < vs.length := by omega
    rw [List.getD_eq_getElem?_getD, List.getElem?_eq_getElem hlt]
    exact h01 _ (List.getElem_mem hlt)
  obtain ⟨x, hX⟩ : ∃ x, x = vs.getD (s / 2).toNat 0 := ⟨_, rfl⟩
  have hs : sigv s vs = (x + s.toNat % 2) % 2 := by unfold sigv; rw [hX]
  rw [← hX] at hcell hx
  rw [hs]
  clear hX hs hown h01 hv
  obtain ⟨S, rfl⟩ := Int.eq_ofNat_of_zero_le h0
  have eS : ((S : Int) / 2).toNat = S / 2 := by omega
  rw [eS] at hcell
  clear eS
  obtain ⟨r, hr⟩ : ∃ r, r = S % 2 := ⟨_, rfl⟩
  have er : (S : Int) % 2 = (r : Int) := by omega
  have hr2 : r ≤ 1 := by omega
  have H2 : Hid (bits .xor .i64 (x : Int) (r : Int) = (((x + S % 2) % 2 : Nat) : Int)) := by
    show bits .xor .i64 (x : Int) (r : Int) = _
    rw [i64_xor_nat x r (by omega) (by omega), ← hr]
    have h2 : r = 0 ∨ r = 1 := by omega
    have h3 : x = 0 ∨ x = 1 := by omega
    rcases h2 with h2 | h2 <;> rcases h3 with h3 | h3 <;> subst h2 <;> subst h3 <;> rfl
  clear hr
  go_enter Tryz.func80, Tryz.ntmps80
  go_wp2
  go_ret
  refine ⟨ret_int ?_, rfl⟩
  rw [H2.out]; simp

theorem add_step (f : Nat → Nat) (k x : Nat) (hx : f k = x) (hx1 : x ≤ 1) (hk : k ≤ 10) : ((packN f k : Nat) : Int) + wrap64 ((x : Int) * 2 ^ k) = (packN f (k + 1) : Nat) := by
  subst hx
  rw [shl_small (f k) k hx1 hk]
  simp only [packN]
  exact (Int.natCast_add _ _).symm

set_option maxHeartbeats 400000 in
set_option maxRecDepth 100000 in
theorem begin_any (v0 : Value) (la : Option Addr) (lc : Nat) (v2 v3 : Value) (ls : List (Int × Int)) (w : World) (h2 : ls.length ≤ 4)
    (hL : PairsAt w la ls) (hi : ∀ i, i < ls.length → inB (ls.getD i (0, 0)).2 1 = true) :
    Calls Tryz.prog 52 #[.agg #[v0, .slice la ls.length lc, v2, v3]] w fun e w' =>
      e = .returned (.int .i64 (startOf ls ls.length : Nat)) ∧ Below w.heap.size w w' := by
  have bel0 : Below w.heap.size w (w.alloc (.cells #[v0, .slice la ls.length lc, v2, v3] 34)) := (Below.refl _ _).alloc (Nat.le_refl _) _
  obtain ⟨W, hW⟩ : ∃ W, W = w.alloc (.cells #[v0, .slice la ls.length lc, v2, v3] 34) := ⟨_, rfl⟩
  have q1 : W.cell? ⟨w.heap.size, 1, none⟩ = some (.slice la ls.length lc) := by rw [hW]; simp
  have hL0 := hL.below bel0
  rw [← hW] at hL0 bel0
  go_enter Tryz.func52, Tryz.ntmps52
  go_wp2
  rw [← hW]
  clear hW
  go_loop [3, 4] (fun st i => ∃ k : Nat, k ≤ ls.length ∧ i = .int .i64 k ∧ st = .int .i64 (startOf ls k : Nat)) (fun _ i => ls.length - (intOf i).toNat)
  case atStart => exact ⟨0, Nat.zero_le _, rfl, rfl⟩
  case round =>
    obtain ⟨k, hk, rfl, rfl⟩ := hrel
    by_cases hk2 : k < ls.length
    · obtain ⟨b, off, rfl, hlt, hc⟩ := hL0.get (by omega)
      have hcz := (hc k hk2).2
      have hq := inB_pos (hi k hk2)
      obtain ⟨x, hX⟩ : ∃ x, x = ls.getD k (0, 0) := ⟨_, rfl⟩
      rw [← hX] at hcz hq
      obtain ⟨x1, x2⟩ := x
      dsimp only at hcz hq
      obtain ⟨X2, rfl⟩ := Int.eq_ofNat_of_zero_le hq.1
      have hf : (fun i => (ls.getD i (0, 0)).2.toNat % 2) k = X2 := by show (ls.getD k (0, 0)).2.toNat % 2 = X2; rw [← hX]; dsimp only; omega
      have hX2 : X2 ≤ 1 := by omega
      have HS : Hid ((startOf ls k : Nat) + wrap64 ((X2 : Int) * 2 ^ k) = (startOf ls (k + 1) : Nat)) := add_step _ k X2 hf hX2 (by omega)
      have hlt' := startOf_lt ls k
      have hp : (2 : Nat) ^ k ≤ 2 ^ 4 := Nat.pow_le_pow_right (by omega) (by omega)
      have hst : startOf ls k ≤ 16 := by omega
      have hw2 : 0 ≤ wrap64 ((X2 : Int) * 2 ^ k) ∧ wrap64 ((X2 : Int) * 2 ^ k) ≤ 16 := by
        rw [shl_small X2 k hX2 (by omega)]
        have : X2 * 2 ^ k ≤ 1 * 2 ^ k := Nat.mul_le_mul_right _ hX2
        omega
      clear hX hc hf hq hi hlt' hp
      go_wp2
      go_round
      case rel => exact ⟨k + 1, by omega, by go_num, congrArg (Value.int .i64) HS.out⟩
      case measure => simp [intOf]; omega
    · clear hi
      go_wp2
      go_ret
      exact ⟨ret_int (by rw [show k = ls.length by omega]), bel0⟩

end Go.Proofs.YtgpaajdfkekjiaaGreatDoor

namespace Go.Proofs.YtgpaajdfkekjiaaGreatDoor
open Go.RowKit

set_option maxHeartbeats 1000000 in
set_option maxRecDepth 100000 in
theorem refValues_any (n st inp : Nat) (la ga : Option Addr) (lc gc : Nat) (v3 : Value) (ln : Nat) (gs : List (Int × Int)) (w : World) (h1 : n ≤ 4) (h2 : ln ≤ 4) (h3 : gs.length ≤ 30) (hs : st < 16) (hn : inp < 16)
    (hG : PairsAt w ga gs) (hg : ∀ i, i < gs.length → gateOk (n + ln + (i : Nat)) (gs.getD i (0, 0)) = true) :
    Calls Tryz.prog 79 #[.agg #[.int .i64 n, .slice la ln lc, .slice ga gs.length gc, v3], .int .i64 inp, .int .i64 st] w fun e w' =>
      ∃ g cap, e = .returned (.slice (some ⟨g, 0, none⟩) (n + ln + gs.length + 1) cap) ∧ w'.ownsRow w.heap.size 3 1 (.slice (some ⟨g, 0, none⟩) (n + ln + gs.length + 1) cap) (n + ln + gs.length + 1) (ivals (vals n ln gs st inp)) ∧ Below w.heap.size w w' := by
  obtain ⟨i0, hi, hz0, hz1, hz2⟩ := info_parts Tryz.infoInt
  go_enter Tryz.func79, Tryz.ntmps79
  go_wp2
  go_loopw [7, 8] (fun v i wr => ∃ k : Nat, k ≤ n ∧ i = .int .i64 k ∧ (∃ g cap, v = .slice (some ⟨g, 0, none⟩) (k + 1) cap ∧ wr.ownsRow (w.heap.size + 1) 3 1 (.slice (some ⟨g, 0, none⟩) (k + 1) cap) (k + 1) (ivals (baseVals k 0 st inp))) ∧
      wr.cell? ⟨w.heap.size, 0, none⟩ = some (.int .i64 n) ∧ wr.cell? ⟨w.heap.size, 1, none⟩ = some (.slice la ln lc) ∧ wr.cell? ⟨w.heap.size, 2, none⟩ = some (.slice ga gs.length gc) ∧ w.heap.size + 1 ≤ wr.heap.size ∧ Below w.heap.size w wr)
    (fun _ i _ => n - (intOf i).toNat)
  case atStart =>
    refine ⟨0, Nat.zero_le _, rfl, ⟨_, _, rfl, ?_⟩, ?_, ?_, ?_, ?_, ((Below.refl _ _).alloc (Nat.le_refl _) _).alloc (by simp) _⟩
    · have := World.ownsRow_lit (base := w.heap.size + 1) (e := 3) (size := 1) (w.alloc (.cells #[.int .i64 n, .slice la ln lc, .slice ga gs.length gc, v3] 34)) #[.int .i64 0] 1 (by simp) (by simp [maxLen]) rfl
      simp only [World.size_alloc] at this
      exact this
    · rw [World.cell?_alloc_past _ _ _ (by simp)]; simp
    · rw [World.cell?_alloc_past _ _ _ (by simp)]; simp
    · rw [World.cell?_alloc_past _ _ _ (by simp)]; simp
    · simp
  case round =>
    obtain ⟨k, hk, rfl, ⟨g, cap, rfl, hown⟩, q0, q1, q2, hz, hbel⟩ := hrel
    by_cases hk2 : k < n
    · obtain ⟨X, hX⟩ : ∃ X, X = inp / 2 ^ k % 2 := ⟨_, rfl⟩
      have hb := shr_and1 inp k X hn hX
      have HX : Hid (X = inp / 2 ^ k % 2) := hX
      clear hX
      go_wp2_with (at_builtin; refine wpList_append_lies _ rfl (.tmp 20) (.tmp 25) 32 rfl (w.heap.size + 1) 3 i0 (.int .i64 0) 1 8 Tryz.underlying32 hi hz0 hz1 hz2 rfl (by omega) _ _ _ rfl (hown.alloc _) ⟨wr.heap.size, 0, none⟩ 1 1 [.int .i64 X] rfl rfl (cell_one_new _ _ _) (by simp; rfl) (by omega) (by unfold maxLen; omega) (by omega) (by simp; omega) _ rfl ?_)
      intro g' cap' w1 hown1 hgrow hat hlt1
      obtain ⟨e1, e2, e3⟩ := grow_rel hown hz hbel hgrow
      have p0 := (e1 0).trans q0
      have p1 := (e1 1).trans q1
      have p2 := (e1 2).trans q2
      clear hown hgrow hat e1 q0 q1 q2 hb
      go_wp2
      go_roundw
      case rel => exact ⟨k + 1, by omega, by go_num, ⟨g', cap', rfl, by rw [baseVals_in, ivals_snoc, ← HX.out]; exact hown1⟩, p0, p1, p2, e2, e3⟩
      case measure => simp [intOf]; omega
    · obtain rfl : k = n := by omega
      go_wp2
      go_loopw [7, 9] (fun v i wr => ∃ j : Nat, j ≤ ln ∧ i = .int .i64 j ∧ (∃ g cap, v = .slice (some ⟨g, 0, none⟩) (k + j + 1) cap ∧ wr.ownsRow (w.heap.size + 1) 3 1 (.slice (some ⟨g, 0, none⟩) (k + j + 1) cap) (k + j + 1) (ivals (baseVals k j st inp))) ∧
          wr.cell? ⟨w.heap.size, 1, none⟩ = some (.slice la ln lc) ∧ wr.cell? ⟨w.heap.size, 2, none⟩ = some (.slice ga gs.length gc) ∧ w.heap.size + 1 ≤ wr.heap.size ∧ Below w.heap.size w wr)
        (fun _ i _ => ln - (intOf i).toNat)
      case atStart => exact ⟨0, Nat.zero_le _, rfl, ⟨g, cap, rfl, hown⟩, q1, q2, hz, hbel⟩
      case round =>
        clear hown q0 q1 q2 hz hbel
        obtain ⟨j, hj, rfl, ⟨g, cap, rfl, hown⟩, q1, q2, hz, hbel⟩ := hrel
        by_cases hj2 : j < ln
        · obtain ⟨X, hX⟩ : ∃ X, X = st / 2 ^ j % 2 := ⟨_, rfl⟩
          have hb := shr_and1 st j X hs hX
          have HX : Hid (X = st / 2 ^ j % 2) := hX
          clear hX
          go_wp2_with (at_builtin; refine wpList_append_lies _ rfl (.tmp 34) (.tmp 39) 32 rfl (w.heap.size + 1) 3 i0 (.int .i64 0) 1 8 Tryz.underlying32 hi hz0 hz1 hz2 rfl (by omega) _ _ _ rfl (hown.alloc _) ⟨wr.heap.size, 0, none⟩ 1 1 [.int .i64 X] rfl rfl (cell_one_new _ _ _) (by simp; rfl) (by omega) (by unfold maxLen; omega) (by omega) (by simp; omega) _ rfl ?_)
          intro g' cap' w1 hown1 hgrow hat hlt1
          obtain ⟨e1, e2, e3⟩ := grow_rel hown hz hbel hgrow
          have p1 := (e1 1).trans q1
          have p2 := (e1 2).trans q2
          clear hown hgrow hat e1 q1 q2 hb
          go_wp2
          go_roundw
          case rel => exact ⟨j + 1, by omega, by go_num, ⟨g', cap', rfl, by rw [baseVals_la, ivals_snoc, ← HX.out]; exact hown1⟩, p1, p2, e2, e3⟩
          case measure => simp [intOf]; omega
        · obtain rfl : j = ln := by omega
          go_wp2
          go_loopw [7, 10] (fun v i wr => ∃ m : Nat, m ≤ gs.length ∧ i = .int .i64 m ∧ (∃ g cap, v = .slice (some ⟨g, 0, none⟩) (k + j + m + 1) cap ∧ wr.ownsRow (w.heap.size + 1) 3 1 (.slice (some ⟨g, 0, none⟩) (k + j + m + 1) cap) (k + j + m + 1) (ivals (gateVals gs (baseVals k j st inp) m))) ∧
              wr.cell? ⟨w.heap.size, 2, none⟩ = some (.slice ga gs.length gc) ∧ w.heap.size + 1 ≤ wr.heap.size ∧ Below w.heap.size w wr)
            (fun _ i _ => gs.length - (intOf i).toNat)
          case atStart => exact ⟨0, Nat.zero_le _, rfl, ⟨g, cap, rfl, hown⟩, q2, hz, hbel⟩
          case round =>
            clear hown q1 q2 hz hbel
            obtain ⟨m, hm, rfl, ⟨g, cap, rfl, hown⟩, q2, hz, hbel⟩ := hrel
            by_cases hm2 : m < gs.length
            · obtain ⟨b, off, rfl, hlt, hc⟩ := hG.get (by omega)
              have hcy : wr.cell? ⟨b, off + m * 2, none⟩ = some (.int .i64 (gs.getD m (0, 0)).1) := (hbel.cell (p := ⟨b, _, none⟩) hlt).trans (hc m hm2).1
              have hcz : wr.cell? ⟨b, off + m * 2 + 1, none⟩ = some (.int .i64 (gs.getD m (0, 0)).2) := (hbel.cell (p := ⟨b, _, none⟩) hlt).trans (hc m hm2).2
              have hq := hg m hm2
              obtain ⟨x, hX⟩ : ∃ x, x = gs.getD m (0, 0) := ⟨_, rfl⟩
              obtain ⟨V, hV⟩ : ∃ V, V = gateVals gs (baseVals k j st inp) m := ⟨_, rfl⟩
              have hVl : V.length = k + j + m + 1 := by rw [hV, gateVals_len, baseVals_len]; omega
              have hV1 : ∀ x ∈ V, x ≤ 1 := by rw [hV]; exact gateVals_01 gs _ (baseVals_01 _ _ _ _) m
              rw [← hX] at hcy hcz hq
              rw [← hV] at hown
              obtain ⟨x1, x2⟩ := x
              dsimp only at hcy hcz
              obtain ⟨⟨x10, x11⟩, x20, x21⟩ := gateOk_pos hq
              obtain ⟨A, hA⟩ : ∃ A, sigv x1 V = A := ⟨_, rfl⟩
              obtain ⟨C, hC⟩ : ∃ C, sigv x2 V = C := ⟨_, rfl⟩
              have hA1 : A ≤ 1 := hA ▸ sigv_le x1 V
              have hC1 : C ≤ 1 := hC ▸ sigv_le x2 V
              obtain ⟨Y, hY⟩ : ∃ Y, Y = A * C := ⟨_, rfl⟩
              have hb : IntKind.i64.wrap ((A : Int) * (C : Int)) = (Y : Int) := by
                have hAC : A * C ≤ 1 * 1 := Nat.mul_le_mul hA1 hC1
                rw [wrap_i64', hY, ← Int.natCast_mul]; omega
              have HY : Hid (gateVals gs (baseVals k j st inp) (m + 1) = V ++ [Y]) := by
                show gateVals gs (baseVals k j st inp) m ++ [_] = _
                rw [← hV, ← hX, hY, ← hA, ← hC]
              have HA : Hid (sigv x1 V = A) := hA
              have HC : Hid (sigv x2 V = C) := hC
              have hl1 : x1 / 2 < ((k + j + m + 1 : Nat) : Int) := by omega
              have hl2 : x2 / 2 < ((k + j + m + 1 : Nat) : Int) := by omega
              clear hX hV hA hC hY hq hg hc x11 x21
              go_wp2_with (first | (go_at_call_of 80 (Value.int IntKind.i64 x1); refine (of_is _ x10 hl1 (by omega) hVl.symm hV1 hown HA.out).mono ?_; rintro e w' ⟨rfl, hw⟩; have hw := hw.symm; subst hw) | (go_at_call_of 80 (Value.int IntKind.i64 x2); refine (of_is _ x20 hl2 (by omega) hVl.symm hV1 hown HC.out).mono ?_; rintro e w' ⟨rfl, hw⟩; have hw := hw.symm; subst hw) | (at_builtin; refine wpList_append_lies _ rfl (.tmp 64) (.tmp 68) 32 rfl (w.heap.size + 1) 3 i0 (.int .i64 0) 1 8 Tryz.underlying32 hi hz0 hz1 hz2 rfl (by omega) _ _ _ rfl (hown.alloc _) ⟨wr.heap.size, 0, none⟩ 1 1 [.int .i64 Y] rfl rfl (cell_one_new _ _ _) (by simp; rfl) (by omega) (by unfold maxLen; omega) (by omega) (by simp; omega) _ rfl ?_) | fail)
              intro g' cap' w1 hown1 hgrow hat hlt1
              obtain ⟨e1, e2, e3⟩ := grow_rel hown hz hbel hgrow
              have p2 := (e1 2).trans q2
              clear hown hgrow hat e1 q2 hb
              go_wp2
              go_roundw
              case rel => exact ⟨m + 1, by omega, by go_num, ⟨g', cap', rfl, by rw [HY.out, ivals_snoc]; exact hown1⟩, p2, e2, e3⟩
              case measure => simp [intOf]; omega
            · clear hg
              obtain rfl : m = gs.length := by omega
              go_wp2
              go_ret
              exact ⟨g, cap, rfl, hown.lower (by omega), hbel⟩

end Go.Proofs.YtgpaajdfkekjiaaGreatDoor

namespace Go.Proofs.YtgpaajdfkekjiaaGreatDoor
open Go.RowKit

theorem shl_val (A k : Nat) (hA : A ≤ 1) (hk : k ≤ 4) : ∃ Z : Nat, wrap64 ((A : Int) * 2 ^ k) = (Z : Int) ∧ Z ≤ 16 := by
  refine ⟨A * 2 ^ k, shl_small A k hA (by omega), ?_⟩
  have hp : (2 : Nat) ^ k ≤ 2 ^ 4 := Nat.pow_le_pow_right (by omega) hk
  have : A * 2 ^ k ≤ 1 * 2 ^ k := Nat.mul_le_mul_right _ hA
  omega

set_option maxHeartbeats 400000 in
set_option maxRecDepth 100000 in
theorem refOutputs_any (n st inp : Nat) (la ga oa : Option Addr) (lc gc oc : Nat) (ln : Nat) (gs : List (Int × Int)) (os : List Int) (w : World) (h1 : n ≤ 4) (h2 : ln ≤ 4) (h3 : gs.length ≤ 30) (h4 : os.length ≤ 4) (hs : st < 16) (hn : inp < 16)
    (hG : PairsAt w ga gs) (hO : IntsAt w oa os) (hg : ∀ i, i < gs.length → gateOk (n + ln + (i : Nat)) (gs.getD i (0, 0)) = true)
    (ho : ∀ i, i < os.length → inB (os.getD i 0) (2 * (n + ln + gs.length) + 1) = true) :
    Calls Tryz.prog 53 #[.agg #[.int .i64 n, .slice la ln lc, .slice ga gs.length gc, .slice oa os.length oc], .int .i64 inp, .int .i64 st] w fun e w' =>
      e = .returned (.int .i64 (outOf os (vals n ln gs st inp) os.length : Nat)) ∧ Below w.heap.size w w' := by
  have bel0 : Below w.heap.size w (w.alloc (.cells #[.int .i64 n, .slice la ln lc, .slice ga gs.length gc, .slice oa os.length oc] 34)) := (Below.refl _ _).alloc (Nat.le_refl _) _
  have hG0 := hG.below bel0
  obtain ⟨V, hV⟩ : ∃ V, V = vals n ln gs st inp := ⟨_, rfl⟩
  have hVl : V.length = n + ln + gs.length + 1 := by rw [hV, vals_len]
  have hV1 : ∀ x ∈ V, x ≤ 1 := by rw [hV]; exact vals_01 _ _ _ _ _
  rw [← hV]
  have HV : Hid (V = vals n ln gs st inp) := hV
  have HVl : Hid (V.length = n + ln + gs.length + 1) := hVl
  clear hV hVl
  go_enter Tryz.func53, Tryz.ntmps53
  go_wp2_with (go_at_call 79; refine (refValues_any n st inp la ga lc gc _ ln gs _ h1 h2 h3 hs hn hG0 hg).mono ?_; rintro e w1 ⟨g, cap, rfl, hown, hb1⟩; rw [← HV.out] at hown)
  have c1 := (bcell hb1).1
  have hb0 : Below w.heap.size w w1 := bel0.trans (hb1.mono (by simp))
  have q3 : w1.cell? ⟨w.heap.size, 3, none⟩ = some (.slice oa os.length oc) := by rw [c1 _ _ (by simp)]; simp
  clear c1 bel0 hG0 hG hg
  go_loop [8, 9] (fun v i => ∃ k : Nat, k ≤ os.length ∧ i = .int .i64 k ∧ v = .int .i64 (outOf os V k : Nat)) (fun _ i => os.length - (intOf i).toNat)
  case atStart => exact ⟨0, Nat.zero_le _, rfl, rfl⟩
  case round =>
    obtain ⟨k, hk, rfl, rfl⟩ := hrel
    by_cases hk2 : k < os.length
    · obtain ⟨b, off, rfl, hlt, hc⟩ := hO.get (by omega)
      have hcy : w1.cell? ⟨b, off + k, none⟩ = some (.int .i64 (os.getD k 0)) := (hb0.cell (p := ⟨b, _, none⟩) hlt).trans (hc k hk2)
      have hq := inB_pos (ho k hk2)
      obtain ⟨x, hX⟩ : ∃ x, x = os.getD k 0 := ⟨_, rfl⟩
      rw [← hX] at hcy hq
      obtain ⟨x0, x1⟩ := hq
      obtain ⟨A, hA⟩ : ∃ A, sigv x V = A := ⟨_, rfl⟩
      have hA1 : A ≤ 1 := hA ▸ sigv_le x V
      have hf : (fun i => sigv (os.getD i 0) V) k = A := by show sigv (os.getD k 0) V = A; rw [← hX, hA]
      have HS : Hid ((outOf os V k : Nat) + wrap64 ((A : Int) * 2 ^ k) = (outOf os V (k + 1) : Nat)) := add_step _ k A hf hA1 (by omega)
      have HA : Hid (sigv x V = A) := hA
      have hl1 : x / 2 < ((n + ln + gs.length + 1 : Nat) : Int) := by omega
      have hlt' := outOf_lt os V k
      have hp : (2 : Nat) ^ k ≤ 2 ^ 4 := Nat.pow_le_pow_right (by omega) (by omega)
      have hst : outOf os V k ≤ 16 := by omega
      obtain ⟨Z, hZ, hZ16⟩ := shl_val A k hA1 (by omega)
      obtain ⟨O, hOO⟩ : ∃ O, O = outOf os V k := ⟨_, rfl⟩
      have HS' : Hid ((O : Int) + (Z : Int) = (outOf os V (k + 1) : Nat)) := by have := HS.out; rw [hZ, ← hOO] at this; exact this
      rw [← hOO] at hst
      rw [← hOO]
      clear hOO HS
      clear hX hA hf hc ho x1 hlt' hp
      go_wp2_with (go_at_call 80; refine (of_is _ x0 hl1 (by omega) HVl.out.symm hV1 hown HA.out).mono ?_; rintro e w' ⟨rfl, hw⟩; have hw := hw.symm; subst hw)
      go_round
      case rel => exact ⟨k + 1, by omega, by go_num, congrArg (Value.int .i64) HS'.out⟩
      case measure => simp [intOf]; omega
    · obtain rfl : k = os.length := by omega
      go_wp2
      go_ret
      exact ⟨rfl, hb0⟩

set_option maxHeartbeats 400000 in
set_option maxRecDepth 100000 in
theorem behind_any (n st inp : Nat) (la ga : Option Addr) (lc gc : Nat) (v3 : Value) (ls gs : List (Int × Int)) (w : World) (h1 : n ≤ 4) (h2 : ls.length ≤ 4) (h3 : gs.length ≤ 30) (hs : st < 16) (hn : inp < 16)
    (hL : PairsAt w la ls) (hG : PairsAt w ga gs) (hg : ∀ i, i < gs.length → gateOk (n + ls.length + (i : Nat)) (gs.getD i (0, 0)) = true)
    (hl : ∀ i, i < ls.length → inB (ls.getD i (0, 0)).1 (2 * (n + ls.length + gs.length) + 1) = true) :
    Calls Tryz.prog 54 #[.agg #[.int .i64 n, .slice la ls.length lc, .slice ga gs.length gc, v3], .int .i64 inp, .int .i64 st] w fun e w' =>
      e = .returned (.int .i64 (nextOf ls (vals n ls.length gs st inp) ls.length : Nat)) ∧ Below w.heap.size w w' := by
  have bel0 : Below w.heap.size w (w.alloc (.cells #[.int .i64 n, .slice la ls.length lc, .slice ga gs.length gc, v3] 34)) := (Below.refl _ _).alloc (Nat.le_refl _) _
  have hG0 := hG.below bel0
  obtain ⟨V, hV⟩ : ∃ V, V = vals n ls.length gs st inp := ⟨_, rfl⟩
  have hVl : V.length = n + ls.length + gs.length + 1 := by rw [hV, vals_len]
  have hV1 : ∀ x ∈ V, x ≤ 1 := by rw [hV]; exact vals_01 _ _ _ _ _
  rw [← hV]
  have HV : Hid (V = vals n ls.length gs st inp) := hV
  have HVl : Hid (V.length = n + ls.length + gs.length + 1) := hVl
  clear hV hVl
  go_enter Tryz.func54, Tryz.ntmps54
  go_wp2_with (go_at_call 79; refine (refValues_any n st inp la ga lc gc _ ls.length gs _ h1 h2 h3 hs hn hG0 hg).mono ?_; rintro e w1 ⟨g, cap, rfl, hown, hb1⟩; rw [← HV.out] at hown)
  have c1 := (bcell hb1).1
  have hb0 : Below w.heap.size w w1 := bel0.trans (hb1.mono (by simp))
  have q1 : w1.cell? ⟨w.heap.size, 1, none⟩ = some (.slice la ls.length lc) := by rw [c1 _ _ (by simp)]; simp
  clear c1 bel0 hG0 hG hg
  go_loop [8, 9] (fun v i => ∃ k : Nat, k ≤ ls.length ∧ i = .int .i64 k ∧ v = .int .i64 (nextOf ls V k : Nat)) (fun _ i => ls.length - (intOf i).toNat)
  case atStart => exact ⟨0, Nat.zero_le _, rfl, rfl⟩
  case round =>
    obtain ⟨k, hk, rfl, rfl⟩ := hrel
    by_cases hk2 : k < ls.length
    · obtain ⟨b, off, rfl, hlt, hc⟩ := hL.get (by omega)
      have hcy : w1.cell? ⟨b, off + k * 2, none⟩ = some (.int .i64 (ls.getD k (0, 0)).1) := (hb0.cell (p := ⟨b, _, none⟩) hlt).trans (hc k hk2).1
      have hq := inB_pos (hl k hk2)
      obtain ⟨x, hX⟩ : ∃ x, x = (ls.getD k (0, 0)).1 := ⟨_, rfl⟩
      rw [← hX] at hcy hq
      obtain ⟨x0, x1⟩ := hq
      obtain ⟨A, hA⟩ : ∃ A, sigv x V = A := ⟨_, rfl⟩
      have hA1 : A ≤ 1 := hA ▸ sigv_le x V
      have hf : (fun i => sigv (ls.getD i (0, 0)).1 V) k = A := by show sigv (ls.getD k (0, 0)).1 V = A; rw [← hX, hA]
      have HS : Hid ((nextOf ls V k : Nat) + wrap64 ((A : Int) * 2 ^ k) = (nextOf ls V (k + 1) : Nat)) := add_step _ k A hf hA1 (by omega)
      have HA : Hid (sigv x V = A) := hA
      have hl1 : x / 2 < ((n + ls.length + gs.length + 1 : Nat) : Int) := by omega
      have hlt' := nextOf_lt ls V k
      have hp : (2 : Nat) ^ k ≤ 2 ^ 4 := Nat.pow_le_pow_right (by omega) (by omega)
      have hst : nextOf ls V k ≤ 16 := by omega
      obtain ⟨Z, hZ, hZ16⟩ := shl_val A k hA1 (by omega)
      obtain ⟨O, hOO⟩ : ∃ O, O = nextOf ls V k := ⟨_, rfl⟩
      have HS' : Hid ((O : Int) + (Z : Int) = (nextOf ls V (k + 1) : Nat)) := by have := HS.out; rw [hZ, ← hOO] at this; exact this
      rw [← hOO] at hst
      rw [← hOO]
      clear hOO HS
      clear hX hA hf hc hl x1 hlt' hp
      go_wp2_with (go_at_call 80; refine (of_is _ x0 hl1 (by omega) HVl.out.symm hV1 hown HA.out).mono ?_; rintro e w' ⟨rfl, hw⟩; have hw := hw.symm; subst hw)
      go_round
      case rel => exact ⟨k + 1, by omega, by go_num, congrArg (Value.int .i64) HS'.out⟩
      case measure => simp [intOf]; omega
    · obtain rfl : k = ls.length := by omega
      go_wp2
      go_ret
      exact ⟨rfl, hb0⟩

end Go.Proofs.YtgpaajdfkekjiaaGreatDoor

namespace Go.Proofs.YtgpaajdfkekjiaaGreatDoor
open Go.RowKit

theorem isSignal_at {s last below : Int} {b : Bool} (w : World) (hb : below = last + 1) (hs1 : -9223372036854775808 ≤ s) (hs2 : s ≤ 9223372036854775807) (h : inB s (2 * last + 1) = b) :
    Calls Tryz.prog 74 #[.int .i64 s, .int .i64 below] w fun e w' => e = .returned (.bool b) ∧ w' = w := by
  subst hb; exact isSignal_is w hs1 hs2 h

def upL (last : Int) (ls : List (Int × Int)) (k : Nat) : Bool := decide (∀ i, i < k → latchOk last (ls.getD i (0, 0)) = true)
def upO (last : Int) (os : List Int) (k : Nat) : Bool := decide (∀ i, i < k → inB (os.getD i 0) (2 * last + 1) = true)
def upG (b : Int) (gs : List (Int × Int)) (k : Nat) : Bool := decide (∀ i, i < k → gateOk (b + (i : Nat)) (gs.getD i (0, 0)) = true)
theorem up_succ (p : Nat → Bool) (k : Nat) : decide (∀ i, i < k + 1 → p i = true) = (decide (∀ i, i < k → p i = true) && p k) := by
  rw [Bool.eq_iff_iff]
  simp only [decide_eq_true_eq, Bool.and_eq_true]
  exact ⟨fun h => ⟨fun i hi => h i (by omega), h k (by omega)⟩, fun h => all_succ h.1 h.2⟩
theorem upL_succ (last : Int) (ls : List (Int × Int)) (k : Nat) : upL last ls (k + 1) = (upL last ls k && latchOk last (ls.getD k (0, 0))) := up_succ (fun i => latchOk last (ls.getD i (0, 0))) k
theorem upO_succ (last : Int) (os : List Int) (k : Nat) : upO last os (k + 1) = (upO last os k && inB (os.getD k 0) (2 * last + 1)) := up_succ (fun i => inB (os.getD i 0) (2 * last + 1)) k
theorem upG_succ (b : Int) (gs : List (Int × Int)) (k : Nat) : upG b gs (k + 1) = (upG b gs k && gateOk (b + k) (gs.getD k (0, 0))) := up_succ (fun i => gateOk (b + (i : Nat)) (gs.getD i (0, 0))) k

theorem upL_zero (last : Int) (ls : List (Int × Int)) : upL last ls 0 = true := decide_eq_true (fun i hi => absurd hi (Nat.not_lt_zero i))
theorem upO_zero (last : Int) (os : List Int) : upO last os 0 = true := decide_eq_true (fun i hi => absurd hi (Nat.not_lt_zero i))
theorem upG_zero (b : Int) (gs : List (Int × Int)) : upG b gs 0 = true := decide_eq_true (fun i hi => absurd hi (Nat.not_lt_zero i))
theorem inB_no01 {x : Int} (h0 : ¬ x = 0) (h1 : ¬ x = 1) : inB x 1 = false := decide_eq_false (by omega)
theorem inB_yes0 {x : Int} (h0 : x = 0) : inB x 1 = true := decide_eq_true (by omega)
theorem inB_yes1 {x : Int} (h0 : x = 1) : inB x 1 = true := decide_eq_true (by omega)

theorem sizesB_false {n : Int} {l o g : Nat} (h : n < 0 ∨ 4 < n ∨ 4 < l ∨ 30 < g ∨ 4 < o) : sizesB n l o g = false := by
  unfold sizesB inB
  rcases h with h | h | h | h | h <;> simp <;> omega
theorem sizesB_true {n : Int} {l o g : Nat} (h0 : 0 ≤ n) (h1 : n ≤ 4) (h2 : l ≤ 4) (h3 : g ≤ 30) (h4 : o ≤ 4) : sizesB n l o g = true := by
  unfold sizesB inB
  simp; omega

/-- A number of a list that can be read. -/
def Fits (x : Int) : Prop := -9223372036854775808 ≤ x ∧ x ≤ 9223372036854775807

set_option maxHeartbeats 1000000 in
set_option maxRecDepth 100000 in
theorem refRight_any (n : Int) (la ga oa : Option Addr) (lc gc oc : Nat) (ls gs : List (Int × Int)) (os : List Int) (w : World)
    (hL : PairsAt w la ls) (hG : PairsAt w ga gs) (hO : IntsAt w oa os) (fL : ∀ i, i < ls.length → Fits (ls.getD i (0, 0)).1) (fG : ∀ i, i < gs.length → Fits (gs.getD i (0, 0)).1 ∧ Fits (gs.getD i (0, 0)).2) (fO : ∀ i, i < os.length → Fits (os.getD i 0)) :
    Calls Tryz.prog 46 #[.agg #[.int .i64 n, .slice la ls.length lc, .slice ga gs.length gc, .slice oa os.length oc]] w fun e w' =>
      e = .returned (.bool (rightB n ls gs os)) ∧ Below w.heap.size w w' := by
  by_cases hbad : n < 0 ∨ 4 < n ∨ 4 < ls.length ∨ 30 < gs.length ∨ 4 < os.length
  · have hr : rightB n ls gs os = false := by unfold rightB; rw [sizesB_false hbad]; rfl
    rw [hr]
    by_cases h0 : n < 0
    · go_enter Tryz.func46, Tryz.ntmps46
      go_wp2
      go_ret
      exact ⟨rfl, (Below.refl _ _).alloc (Nat.le_refl _) _⟩
    · by_cases h1 : 4 < n
      · go_enter Tryz.func46, Tryz.ntmps46
        go_wp2
        go_ret
        exact ⟨rfl, (Below.refl _ _).alloc (Nat.le_refl _) _⟩
      · by_cases h2 : 4 < ls.length
        · go_enter Tryz.func46, Tryz.ntmps46
          go_wp2
          go_ret
          exact ⟨rfl, (Below.refl _ _).alloc (Nat.le_refl _) _⟩
        · by_cases h3 : 30 < gs.length
          · go_enter Tryz.func46, Tryz.ntmps46
            go_wp2
            go_ret
            exact ⟨rfl, (Below.refl _ _).alloc (Nat.le_refl _) _⟩
          · have h4 : 4 < os.length := by omega
            clear hbad
            go_enter Tryz.func46, Tryz.ntmps46
            go_wp2
            go_ret
            exact ⟨rfl, (Below.refl _ _).alloc (Nat.le_refl _) _⟩
  · obtain ⟨h0, h1, h2, h3, h4⟩ : 0 ≤ n ∧ n ≤ 4 ∧ ls.length ≤ 4 ∧ gs.length ≤ 30 ∧ os.length ≤ 4 := by omega
    clear hbad
    have hr : rightB n ls gs os = (upL (n + ls.length + gs.length) ls ls.length && upO (n + ls.length + gs.length) os os.length && upG (n + ls.length) gs gs.length) := by
      unfold rightB; rw [sizesB_true h0 h1 h2 h3 h4]
      show (true && upL _ ls ls.length && upG _ gs gs.length && upO _ os os.length) = _
      cases upL (n + ls.length + gs.length) ls ls.length <;> cases upO (n + ls.length + gs.length) os os.length <;> cases upG (n + ls.length) gs gs.length <;> rfl
    rw [hr]
    clear hr
    have bel0 : Below w.heap.size w (w.alloc (.cells #[.int .i64 n, .slice la ls.length lc, .slice ga gs.length gc, .slice oa os.length oc] 34)) := (Below.refl _ _).alloc (Nat.le_refl _) _
    go_enter Tryz.func46, Tryz.ntmps46
    go_wp2_with (go_at_call 48; refine (top_any n _ _ _ ls.length _ gs.length _ _ _ _ h0 h1 (by omega) (by omega)).mono ?_; rintro e w' ⟨rfl, rfl⟩)
    go_loopw [4, 5, 6, 7] (fun ok i _ _ wr => ∃ k : Nat, k ≤ ls.length ∧ i = .int .i64 k ∧ ok = .bool (upL (n + ls.length + gs.length) ls k) ∧
        wr.cell? ⟨w.heap.size, 0, none⟩ = some (.int .i64 n) ∧ wr.cell? ⟨w.heap.size, 1, none⟩ = some (.slice la ls.length lc) ∧ wr.cell? ⟨w.heap.size, 2, none⟩ = some (.slice ga gs.length gc) ∧ wr.cell? ⟨w.heap.size, 3, none⟩ = some (.slice oa os.length oc) ∧ w.heap.size < wr.heap.size ∧ Below w.heap.size w wr)
      (fun _ i _ _ _ => ls.length - (intOf i).toNat)
    case atStart =>
      refine ⟨0, Nat.zero_le _, rfl, (congrArg Value.bool (upL_zero _ _)).symm, ?_, ?_, ?_, ?_, by simp; omega, bel0.alloc (by simp) _⟩
      · rw [World.cell?_alloc_past _ _ _ (by simp)]; simp
      · rw [World.cell?_alloc_past _ _ _ (by simp)]; simp
      · rw [World.cell?_alloc_past _ _ _ (by simp)]; simp
      · rw [World.cell?_alloc_past _ _ _ (by simp)]; simp
    case round =>
      obtain ⟨k, hk, rfl, rfl, q0, q1, q2, q3, hz, hbel⟩ := hrel
      by_cases hk2 : k < ls.length
      · obtain ⟨b, off, rfl, hlt, hc⟩ := hL.get (by omega)
        have hcy : wr.cell? ⟨b, off + k * 2, none⟩ = some (.int .i64 (ls.getD k (0, 0)).1) := (hbel.cell (p := ⟨b, _, none⟩) hlt).trans (hc k hk2).1
        have hcz : wr.cell? ⟨b, off + k * 2 + 1, none⟩ = some (.int .i64 (ls.getD k (0, 0)).2) := (hbel.cell (p := ⟨b, _, none⟩) hlt).trans (hc k hk2).2
        obtain ⟨fx1, fx2⟩ := fL k hk2
        have hu := upL_succ (n + ls.length + gs.length) ls k
        obtain ⟨x, hX⟩ : ∃ x, x = ls.getD k (0, 0) := ⟨_, rfl⟩
        rw [← hX] at hcy hcz fx1 fx2 hu
        obtain ⟨x1, x2⟩ := x
        dsimp only at hcy hcz fx1 fx2
        have HU : Hid (upL (n + ls.length + gs.length) ls (k + 1) = (upL (n + ls.length + gs.length) ls k && (inB x1 (2 * (n + ls.length + gs.length) + 1) && inB x2 1))) := hu
        clear hX hc hu fL fG fO
        have fin : ∀ c : Bool, c = (upL (n + ls.length + gs.length) ls k && (inB x1 (2 * (n + ls.length + gs.length) + 1) && inB x2 1)) → Value.bool c = Value.bool (upL (n + ls.length + gs.length) ls (k + 1)) := fun c h => by rw [HU.out, h]
        have r0 : ∀ o j v, wr.cell? ⟨w.heap.size, j, none⟩ = some v → (wr.alloc o).cell? ⟨w.heap.size, j, none⟩ = some v := fun o j v h => by rw [World.cell?_alloc_past _ _ _ hz]; exact h
        have FIN : Hid (∀ c : Bool, c = (upL (n + ls.length + gs.length) ls k && (inB x1 (2 * (n + ls.length + gs.length) + 1) && inB x2 1)) → Value.bool c = Value.bool (upL (n + ls.length + gs.length) ls (k + 1))) := fin
        have R0 : Hid (∀ o j v, wr.cell? ⟨w.heap.size, j, none⟩ = some v → (wr.alloc o).cell? ⟨w.heap.size, j, none⟩ = some v) := r0
        clear fin r0
        cases hok : upL (n + ls.length + gs.length) ls k
        · go_wp2_with (go_at_call 74; refine (isSignal_at _ rfl fx1 fx2 rfl).mono ?_; rintro e w' ⟨rfl, hw⟩; have hw := hw.symm; subst hw)
          go_roundw
          case rel => exact ⟨k + 1, by omega, by go_num, FIN.out _ (by rw [hok]; rfl), R0.out _ _ _ q0, R0.out _ _ _ q1, R0.out _ _ _ q2, R0.out _ _ _ q3, by simp; omega, hbel.alloc (by omega) _⟩
          case measure => simp [intOf]; omega
        · cases hq : inB x1 (2 * (n + ls.length + gs.length) + 1)
          · go_wp2_with (go_at_call 74; refine (isSignal_at _ rfl fx1 fx2 hq).mono ?_; rintro e w' ⟨rfl, hw⟩; have hw := hw.symm; subst hw)
            go_roundw
            case rel => exact ⟨k + 1, by omega, by go_num, FIN.out _ (by rw [hok, hq]; rfl), R0.out _ _ _ q0, R0.out _ _ _ q1, R0.out _ _ _ q2, R0.out _ _ _ q3, by simp; omega, hbel.alloc (by omega) _⟩
            case measure => simp [intOf]; omega
          · by_cases e0 : x2 = 0
            · go_wp2_with (go_at_call 74; refine (isSignal_at _ rfl fx1 fx2 hq).mono ?_; rintro e w' ⟨rfl, hw⟩; have hw := hw.symm; subst hw)
              go_roundw
              case rel => exact ⟨k + 1, by omega, by go_num, FIN.out _ (by rw [hok, hq, inB_yes0 e0]; rfl), R0.out _ _ _ q0, R0.out _ _ _ q1, R0.out _ _ _ q2, R0.out _ _ _ q3, by simp; omega, hbel.alloc (by omega) _⟩
              case measure => simp [intOf]; omega
            · by_cases e1 : x2 = 1
              · go_wp2_with (go_at_call 74; refine (isSignal_at _ rfl fx1 fx2 hq).mono ?_; rintro e w' ⟨rfl, hw⟩; have hw := hw.symm; subst hw)
                go_roundw
                case rel => exact ⟨k + 1, by omega, by go_num, FIN.out _ (by rw [hok, hq, inB_yes1 e1]; rfl), R0.out _ _ _ q0, R0.out _ _ _ q1, R0.out _ _ _ q2, R0.out _ _ _ q3, by simp; omega, hbel.alloc (by omega) _⟩
                case measure => simp [intOf]; omega
              · go_wp2_with (go_at_call 74; refine (isSignal_at _ rfl fx1 fx2 hq).mono ?_; rintro e w' ⟨rfl, hw⟩; have hw := hw.symm; subst hw)
                go_roundw
                case rel => exact ⟨k + 1, by omega, by go_num, FIN.out _ (by rw [hok, hq, inB_no01 e0 e1]; simp [e0, e1]), R0.out _ _ _ q0, R0.out _ _ _ q1, R0.out _ _ _ q2, R0.out _ _ _ q3, by simp; omega, hbel.alloc (by omega) _⟩
                case measure => simp [intOf]; omega
      · obtain rfl : k = ls.length := by omega
        obtain ⟨LB, hLB⟩ : ∃ LB, LB = upL (n + ls.length + gs.length) ls ls.length := ⟨_, rfl⟩
        obtain ⟨w4, rfl⟩ : ∃ w4, w4 = wr := ⟨wr, rfl⟩
        rw [← hLB]
        have HLB : Hid (LB = upL (n + ls.length + gs.length) ls ls.length) := hLB
        clear hLB fL
        go_wp2
        go_loop [4, 8, 9] (fun ok i _ => ∃ k : Nat, k ≤ os.length ∧ i = .int .i64 k ∧ ok = .bool (LB && upO (n + ls.length + gs.length) os k)) (fun _ i _ => os.length - (intOf i).toNat)
        case atStart => exact ⟨0, Nat.zero_le _, rfl, by rw [upO_zero, Bool.and_true]⟩
        case round =>
          obtain ⟨k, hk, rfl, rfl⟩ := hrel
          by_cases hk2 : k < os.length
          · obtain ⟨b, off, rfl, hlt, hc⟩ := hO.get (by omega)
            have hcy : w4.cell? ⟨b, off + k, none⟩ = some (.int .i64 (os.getD k 0)) := (hbel.cell (p := ⟨b, _, none⟩) hlt).trans (hc k hk2)
            obtain ⟨fx1, fx2⟩ := fO k hk2
            have hu := upO_succ (n + ls.length + gs.length) os k
            obtain ⟨x, hX⟩ : ∃ x, x = os.getD k 0 := ⟨_, rfl⟩
            rw [← hX] at hcy fx1 fx2 hu
            have HU : Hid (upO (n + ls.length + gs.length) os (k + 1) = (upO (n + ls.length + gs.length) os k && inB x (2 * (n + ls.length + gs.length) + 1))) := hu
            obtain ⟨U, hU⟩ : ∃ U, U = (LB && upO (n + ls.length + gs.length) os k) := ⟨_, rfl⟩
            rw [← hU]
            have HE : Hid (U = (LB && upO (n + ls.length + gs.length) os k)) := hU
            clear hX hc hu fO fG hU
            have fin : ∀ c : Bool, c = (U && inB x (2 * (n + ls.length + gs.length) + 1)) → Value.bool c = Value.bool (LB && upO (n + ls.length + gs.length) os (k + 1)) := fun c h => by rw [HU.out, h, HE.out, Bool.and_assoc]
            have FIN : Hid (∀ c : Bool, c = (U && inB x (2 * (n + ls.length + gs.length) + 1)) → Value.bool c = Value.bool (LB && upO (n + ls.length + gs.length) os (k + 1))) := fin
            clear fin
            cases U
            · go_wp2_with (go_at_call 74; refine (isSignal_at _ rfl fx1 fx2 rfl).mono ?_; rintro e w' ⟨rfl, hw⟩; have hw := hw.symm; subst hw)
              go_round
              case rel => exact ⟨k + 1, by omega, by go_num, FIN.out _ rfl⟩
              case measure => simp [intOf]; omega
            · go_wp2_with (go_at_call 74; refine (isSignal_at _ rfl fx1 fx2 rfl).mono ?_; rintro e w' ⟨rfl, hw⟩; have hw := hw.symm; subst hw)
              go_round
              case rel => exact ⟨k + 1, by omega, by go_num, FIN.out _ rfl⟩
              case measure => simp [intOf]; omega
          · obtain rfl : k = os.length := by omega
            obtain ⟨OB, hOB⟩ : ∃ OB, OB = (LB && upO (n + ls.length + gs.length) os os.length) := ⟨_, rfl⟩
            rw [← hOB]
            have HOB : Hid (OB = (LB && upO (n + ls.length + gs.length) os os.length)) := hOB
            clear hOB fO
            go_wp2
            go_loop [4, 10, 11, 12, 13] (fun ok i _ _ _ => ∃ k : Nat, k ≤ gs.length ∧ i = .int .i64 k ∧ ok = .bool (OB && upG (n + ls.length) gs k)) (fun _ i _ _ _ => gs.length - (intOf i).toNat)
            case atStart => exact ⟨0, Nat.zero_le _, rfl, by rw [upG_zero, Bool.and_true]⟩
            case round =>
              obtain ⟨k, hk, rfl, rfl⟩ := hrel
              by_cases hk2 : k < gs.length
              · obtain ⟨b, off, rfl, hlt, hc⟩ := hG.get (by omega)
                have hcy : w4.cell? ⟨b, off + k * 2, none⟩ = some (.int .i64 (gs.getD k (0, 0)).1) := (hbel.cell (p := ⟨b, _, none⟩) hlt).trans (hc k hk2).1
                have hcz : w4.cell? ⟨b, off + k * 2 + 1, none⟩ = some (.int .i64 (gs.getD k (0, 0)).2) := (hbel.cell (p := ⟨b, _, none⟩) hlt).trans (hc k hk2).2
                obtain ⟨⟨fx1, fx2⟩, fy1, fy2⟩ := fG k hk2
                have hu := upG_succ (n + ls.length) gs k
                obtain ⟨x, hX⟩ : ∃ x, x = gs.getD k (0, 0) := ⟨_, rfl⟩
                rw [← hX] at hcy hcz fx1 fx2 fy1 fy2 hu
                obtain ⟨x1, x2⟩ := x
                dsimp only at hcy hcz fx1 fx2 fy1 fy2
                have HU : Hid (upG (n + ls.length) gs (k + 1) = (upG (n + ls.length) gs k && (inB x1 (2 * (n + ls.length + k) + 1) && inB x2 (2 * (n + ls.length + k) + 1)))) := hu
                obtain ⟨U, hU⟩ : ∃ U, U = (OB && upG (n + ls.length) gs k) := ⟨_, rfl⟩
                rw [← hU]
                have HE : Hid (U = (OB && upG (n + ls.length) gs k)) := hU
                clear hX hc hu fG hU
                have fin : ∀ c : Bool, c = (U && (inB x1 (2 * (n + ls.length + k) + 1) && inB x2 (2 * (n + ls.length + k) + 1))) → Value.bool c = Value.bool (OB && upG (n + ls.length) gs (k + 1)) := fun c h => by rw [HU.out, h, HE.out, Bool.and_assoc]
                have FIN : Hid (∀ c : Bool, c = (U && (inB x1 (2 * (n + ls.length + k) + 1) && inB x2 (2 * (n + ls.length + k) + 1))) → Value.bool c = Value.bool (OB && upG (n + ls.length) gs (k + 1))) := fin
                clear fin
                have hbw : n + (ls.length : Int) + 1 + (k : Int) = n + ls.length + k + 1 := by omega
                have HBW : Hid (n + (ls.length : Int) + 1 + (k : Int) = n + ls.length + k + 1) := hbw
                clear hbw
                cases hq1 : inB x1 (2 * (n + ls.length + k) + 1) <;> cases hq2 : inB x2 (2 * (n + ls.length + k) + 1) <;> cases U <;>
                · go_wp2_with (first | (go_at_call_of 74 (Value.int IntKind.i64 x1); refine (isSignal_at _ HBW.out fx1 fx2 hq1).mono ?_; rintro e w' ⟨rfl, hw⟩; have hw := hw.symm; subst hw) | (go_at_call_of 74 (Value.int IntKind.i64 x2); refine (isSignal_at _ HBW.out fy1 fy2 hq2).mono ?_; rintro e w' ⟨rfl, hw⟩; have hw := hw.symm; subst hw))
                  go_round
                  case rel => exact ⟨k + 1, by omega, by go_num, FIN.out _ (by rw [hq1, hq2]; rfl)⟩
                  case measure => simp [intOf]; omega
              · obtain rfl : k = gs.length := by omega
                go_wp2
                go_ret
                exact ⟨ret_bool (by rw [HOB.out, HLB.out]), hbel⟩

end Go.Proofs.YtgpaajdfkekjiaaGreatDoor

namespace Go.Proofs.YtgpaajdfkekjiaaGreatDoor
open Go.RowKit

theorem refRight_is {n : Int} {la ga oa : Option Addr} {lc gc oc : Nat} {ls gs : List (Int × Int)} {os : List Int} {b : Bool} (w : World)
    (hL : PairsAt w la ls) (hG : PairsAt w ga gs) (hO : IntsAt w oa os) (fL : ∀ i, i < ls.length → Fits (ls.getD i (0, 0)).1) (fG : ∀ i, i < gs.length → Fits (gs.getD i (0, 0)).1 ∧ Fits (gs.getD i (0, 0)).2) (fO : ∀ i, i < os.length → Fits (os.getD i 0)) (h : rightB n ls gs os = b) :
    Calls Tryz.prog 46 #[.agg #[.int .i64 n, .slice la ls.length lc, .slice ga gs.length gc, .slice oa os.length oc]] w fun e w' =>
      e = .returned (.bool b) ∧ Below w.heap.size w w' := by subst h; exact refRight_any n la ga oa lc gc oc ls gs os w hL hG hO fL fG fO

set_option maxHeartbeats 400000 in
set_option maxRecDepth 100000 in
/-- A circuit that is not right. -/
theorem refRun_wrong (n : Int) (la ga oa : Option Addr) (lc gc oc : Nat) (ls gs : List (Int × Int)) (os : List Int) (iv : Value) (w : World)
    (hL : PairsAt w la ls) (hG : PairsAt w ga gs) (hO : IntsAt w oa os) (fL : ∀ i, i < ls.length → Fits (ls.getD i (0, 0)).1) (fG : ∀ i, i < gs.length → Fits (gs.getD i (0, 0)).1 ∧ Fits (gs.getD i (0, 0)).2) (fO : ∀ i, i < os.length → Fits (os.getD i 0)) (hr : rightB n ls gs os = false) :
    Calls Tryz.prog 25 #[.agg #[.int .i64 n, .slice la ls.length lc, .slice ga gs.length gc, .slice oa os.length oc], iv] w fun e w' =>
      e = .returned (.tuple #[.slice none 0 0, .int .i64 2]) ∧ Below w.heap.size w w' := by
  have bel0 : Below w.heap.size w (w.alloc (.cells #[.int .i64 n, .slice la ls.length lc, .slice ga gs.length gc, .slice oa os.length oc] 34)) := (Below.refl _ _).alloc (Nat.le_refl _) _
  have hL0 := hL.below bel0
  have hG0 := hG.below bel0
  have hO0 := hO.below bel0
  go_enter Tryz.func25, Tryz.ntmps25
  go_wp2_with (go_at_call 46; refine (refRight_is _ hL0 hG0 hO0 fL fG fO hr).mono ?_; rintro e w1 ⟨rfl, b1⟩)
  go_ret2
  exact ⟨rfl, bel0.trans (b1.mono (by simp))⟩

def upI (n : Nat) (ins : List Int) (k : Nat) : Bool := decide (∀ i, i < k → inB (ins.getD i 0) (2 ^ n - 1) = true)
theorem upI_succ (n : Nat) (ins : List Int) (k : Nat) : upI n ins (k + 1) = (upI n ins k && inB (ins.getD k 0) (2 ^ n - 1)) := up_succ (fun i => inB (ins.getD i 0) (2 ^ n - 1)) k
theorem upI_zero (n : Nat) (ins : List Int) : upI n ins 0 = true := decide_eq_true (fun i hi => absurd hi (Nat.not_lt_zero i))
theorem bad_hi {x : Int} {M : Nat} (h : ¬ x < 0) : decide ((M : Int) ≤ x) = (false || !inB x ((M : Int) - 1)) := by
  unfold inB
  by_cases h2 : (M : Int) ≤ x
  · rw [decide_eq_true h2, decide_eq_false (by omega)]; rfl
  · rw [decide_eq_false h2, decide_eq_true (by omega)]; rfl
theorem inputsB_up (n : Nat) (ins : List Int) : inputsB n ins = !(decide (50 < ins.length) || !upI n ins ins.length) := by
  unfold inputsB upI
  rw [Bool.eq_iff_iff]
  simp only [decide_eq_true_eq, Bool.not_eq_true', Bool.or_eq_false_iff, decide_eq_false_iff_not, Bool.not_eq_false']
  exact and_congr (by omega) Iff.rfl

def outsUp (n : Nat) (ls gs : List (Int × Int)) (os ins : List Int) (k : Nat) : List Nat := (List.range k).map (outAt n ls gs os ins)
theorem outsUp_succ (n : Nat) (ls gs : List (Int × Int)) (os ins : List Int) (k : Nat) : outsUp n ls gs os ins (k + 1) = outsUp n ls gs os ins k ++ [outAt n ls gs os ins k] := by
  simp [outsUp, List.range_succ]

theorem keep_box {X w5 : World} {B b o : Nat} {c0 c1 c2 c3 c4 : Value} (h5 : Below X.heap.size X w5) (hB : B < X.heap.size) (hb : b < X.heap.size)
    (h0 : X.cell? ⟨B, 0, none⟩ = some c0) (h1 : X.cell? ⟨B, 1, none⟩ = some c1) (h2 : X.cell? ⟨B, 2, none⟩ = some c2) (h3 : X.cell? ⟨B, 3, none⟩ = some c3) (h4 : X.cell? ⟨b, o, none⟩ = some c4) :
    w5.cell? ⟨B, 0, none⟩ = some c0 ∧ w5.cell? ⟨B, 1, none⟩ = some c1 ∧ w5.cell? ⟨B, 2, none⟩ = some c2 ∧ w5.cell? ⟨B, 3, none⟩ = some c3 ∧ w5.cell? ⟨b, o, none⟩ = some c4 :=
  ⟨((bcell h5).1 _ _ hB).trans h0, ((bcell h5).1 _ _ hB).trans h1, ((bcell h5).1 _ _ hB).trans h2, ((bcell h5).1 _ _ hB).trans h3, ((bcell h5).1 _ _ hb).trans h4⟩

theorem below_of_drew {B : Nat} {w w' : World} (h : Below B w.drew w') : Below B w w' := ⟨h.os, h.tape, h.output, h.size, h.block⟩

set_option maxHeartbeats 1000000 in
set_option maxRecDepth 100000 in
/-- A right circuit: the inputs are looked through, and then run. -/
theorem refRun_right (n : Nat) (la ga oa ia : Option Addr) (lc gc oc ic : Nat) (ls gs : List (Int × Int)) (os ins : List Int) (w : World) (hm : ins.length ≤ maxLen)
    (hL : PairsAt w la ls) (hG : PairsAt w ga gs) (hO : IntsAt w oa os) (hI : IntsAt w ia ins) (fL : ∀ i, i < ls.length → Fits (ls.getD i (0, 0)).1) (fG : ∀ i, i < gs.length → Fits (gs.getD i (0, 0)).1 ∧ Fits (gs.getD i (0, 0)).2) (fO : ∀ i, i < os.length → Fits (os.getD i 0)) (hr : rightB n ls gs os = true) :
    Calls Tryz.prog 25 #[.agg #[.int .i64 n, .slice la ls.length lc, .slice ga gs.length gc, .slice oa os.length oc], .slice ia ins.length ic] w fun e w' =>
      (inputsB n ins = false → e = .returned (.tuple #[.slice none 0 0, .int .i64 3]) ∧ Below w.heap.size w w') ∧
      (inputsB n ins = true → ∃ v, e = .returned (.tuple #[v, .int .i64 0]) ∧ w'.ownsRow w.heap.size 3 1 v ins.length (ivals (outs n ls gs os ins)) ∧ Below w.heap.size w w') := by
  unfold maxLen at hm
  have bel0 : Below w.heap.size w (w.alloc (.cells #[.int .i64 n, .slice la ls.length lc, .slice ga gs.length gc, .slice oa os.length oc] 34)) := (Below.refl _ _).alloc (Nat.le_refl _) _
  have hL0 := hL.below bel0
  have hG0 := hG.below bel0
  have hO0 := hO.below bel0
  obtain ⟨⟨_, hn4, hl4, ho4, hg30⟩, hokl, hokg, hoko⟩ := rightB_pos hr
  have hn4 : n ≤ 4 := by omega
  obtain ⟨i0, hi0, hz0, hz1, hz2⟩ := info_parts Tryz.infoInt
  have hinit : ∀ i, i < ls.length → inB (ls.getD i (0, 0)).2 1 = true := fun i h => by have := hokl i h; simp only [latchOk, Bool.and_eq_true] at this; exact this.2
  have hnext : ∀ i, i < ls.length → inB (ls.getD i (0, 0)).1 (2 * (n + ls.length + gs.length) + 1) = true := fun i h => by have := hokl i h; simp only [latchOk, Bool.and_eq_true] at this; exact this.1
  obtain ⟨M, hM⟩ : ∃ M : Nat, (M : Int) = 2 ^ n := ⟨2 ^ n, by simp⟩
  have hM16 : M ≤ 16 := by
    have hp : (2 : Nat) ^ n ≤ 2 ^ 4 := Nat.pow_le_pow_right (by omega) hn4
    have e : M = 2 ^ n := by exact_mod_cast hM
    omega
  have hsh : IntKind.i64.wrap ((2 : Int) ^ n) = (M : Int) := by rw [← hM, wrap_i64']; omega
  have HM : Hid ((M : Int) = 2 ^ n) := hM
  clear hM
  go_enter Tryz.func25, Tryz.ntmps25
  go_wp2_with (go_at_call 46; refine (refRight_is _ hL0 hG0 hO0 fL fG fO hr).mono ?_; rintro e w1 ⟨rfl, b1⟩)
  have bel1 : Below w.heap.size w w1 := bel0.trans (b1.mono (by simp))
  have y1 : w.heap.size < w1.heap.size := Nat.lt_of_lt_of_le (by simp) b1.size
  have qq : ∀ j, w1.cell? ⟨w.heap.size, j, none⟩ = (w.alloc (.cells #[.int .i64 n, .slice la ls.length lc, .slice ga gs.length gc, .slice oa os.length oc] 34)).cell? ⟨w.heap.size, j, none⟩ := fun j => (bcell b1).1 _ _ (by simp)
  have q0 : w1.cell? ⟨w.heap.size, 0, none⟩ = some (.int .i64 n) := by rw [qq]; simp
  have q1 : w1.cell? ⟨w.heap.size, 1, none⟩ = some (.slice la ls.length lc) := by rw [qq]; simp
  have q2 : w1.cell? ⟨w.heap.size, 2, none⟩ = some (.slice ga gs.length gc) := by rw [qq]; simp
  have q3 : w1.cell? ⟨w.heap.size, 3, none⟩ = some (.slice oa os.length oc) := by rw [qq]; simp
  clear qq b1 bel0 hL0 hG0 hO0 fL fG fO
  go_loopw [7, 8] (fun bad i wr => ∃ k : Nat, k ≤ ins.length ∧ i = .int .i64 k ∧ bad = .bool (decide (50 < ins.length) || !upI n ins k) ∧ Below w1.heap.size w1 wr) (fun _ i _ => ins.length - (intOf i).toNat)
  case atStart => exact ⟨0, Nat.zero_le _, rfl, by rw [upI_zero]; simp; omega, Below.refl _ _⟩
  case round =>
    obtain ⟨k, hk, rfl, rfl, hb⟩ := hrel
    by_cases hk2 : k < ins.length
    · obtain ⟨b, off, rfl, hlt, hc⟩ := hI.get (by omega)
      have hcy : wr.cell? ⟨b, off + k, none⟩ = some (.int .i64 (ins.getD k 0)) := ((hb.cell (p := ⟨b, _, none⟩) (Nat.lt_of_lt_of_le hlt bel1.size)).trans (bel1.cell (p := ⟨b, _, none⟩) hlt)).trans (hc k hk2)
      have p0 := (hb.cell (p := ⟨w.heap.size, 0, none⟩) y1).trans q0
      have hu := upI_succ n ins k
      obtain ⟨x, hX⟩ : ∃ x, x = ins.getD k 0 := ⟨_, rfl⟩
      rw [← hX] at hcy hu
      obtain ⟨U, hU⟩ : ∃ U, U = (decide (50 < ins.length) || !upI n ins k) := ⟨_, rfl⟩
      have fin : ∀ c : Bool, c = (U || !inB x (2 ^ n - 1)) → Value.bool c = Value.bool (decide (50 < ins.length) || !upI n ins (k + 1)) := fun c h => by
        rw [hu, h, hU]; cases decide (50 < ins.length) <;> cases upI n ins k <;> rfl
      have FIN : Hid (∀ c : Bool, c = (U || !inB x (2 ^ n - 1)) → Value.bool c = Value.bool (decide (50 < ins.length) || !upI n ins (k + 1))) := fin
      rw [← hU]
      have hk3 : (k : Int) < (ins.length : Int) := by omega
      have hk0 : (0 : Int) ≤ (k : Int) := by omega
      clear hX hc hu hU fin hinit hnext hokl hokg hoko q0 q1 q2 q3
      cases U
      · by_cases hx0 : x < 0
        · have hd : decide (x < 0) = true := by simpa using hx0
          go_wp2
          go_quiet (fail)
          go_wp2
          go_roundw
          case rel => exact ⟨k + 1, by omega, by go_num, FIN.out _ (by unfold inB; rw [decide_eq_false (by omega)]; rfl), hb.trans (below_drewN (Below.refl _ _) _ |>.mono hb.size)⟩
          case measure => simp [intOf]; omega
        · have hd : decide (x < 0) = false := by simpa using hx0
          go_wp2
          go_quiet (fail)
          go_wp2
          go_roundw
          case rel => exact ⟨k + 1, by omega, by go_num, FIN.out _ (by rw [← HM.out]; exact bad_hi (by omega)), hb.trans (below_drewN (Below.refl _ _) _ |>.mono hb.size)⟩
          case measure => simp [intOf]; omega
      · go_wp2
        go_quiet (fail)
        go_wp2
        go_roundw
        case rel => exact ⟨k + 1, by omega, by go_num, FIN.out _ rfl, hb.trans (below_drewN (Below.refl _ _) _ |>.mono hb.size)⟩
        case measure => simp [intOf]; omega
    · obtain rfl : k = ins.length := by omega
      have hup := inputsB_up n ins
      obtain ⟨U, hU⟩ : ∃ U, U = (decide (50 < ins.length) || !upI n ins ins.length) := ⟨_, rfl⟩
      rw [← hU] at hup
      rw [← hU]
      have HUP : Hid (inputsB n ins = !U) := hup
      obtain ⟨w2, rfl⟩ : ∃ w2, w2 = wr := ⟨wr, rfl⟩
      have bel2 : Below w.heap.size w w2 := bel1.trans (hb.mono (by omega))
      have p0 := (hb.cell (p := ⟨w.heap.size, 0, none⟩) y1).trans q0
      have p1 := (hb.cell (p := ⟨w.heap.size, 1, none⟩) y1).trans q1
      have p2 := (hb.cell (p := ⟨w.heap.size, 2, none⟩) y1).trans q2
      have p3 := (hb.cell (p := ⟨w.heap.size, 3, none⟩) y1).trans q3
      have y2 : w.heap.size < w2.heap.size := Nat.lt_of_lt_of_le y1 hb.size
      clear hU hup q0 q1 q2 q3 hb bel1 y1 hsh
      cases U
      · have hL2 := hL.below bel2
        have hin : inputsB n ins = true := by rw [HUP.out]; rfl
        have h50 : ins.length ≤ 50 := (of_decide_eq_true hin).1
        go_wp2_with (go_at_call 52; refine (begin_any _ la lc _ _ ls _ hl4 hL2 hinit).mono ?_; rintro e w3 ⟨rfl, b3⟩)
        have bel3 : Below w.heap.size w w3 := bel2.trans (b3.mono (by omega))
        have y3 : w.heap.size < w3.heap.size := Nat.lt_of_lt_of_le y2 b3.size
        have r0 := ((bcell b3).1 _ 0 y2).trans p0
        have r1 := ((bcell b3).1 _ 1 y2).trans p1
        have r2 := ((bcell b3).1 _ 2 y2).trans p2
        have r3 := ((bcell b3).1 _ 3 y2).trans p3
        clear p0 p1 p2 p3 b3 bel2 hL2 hokl hinit y2
        go_loopw [9, 10, 11, 12] (fun st v i _ wr => ∃ k : Nat, k ≤ ins.length ∧ i = .int .i64 k ∧ st = .int .i64 (stateAt n ls gs ins k : Nat) ∧ wr.ownsRow (w.heap.size + 1) 3 1 v k (ivals (outsUp n ls gs os ins k)) ∧
            wr.cell? ⟨w.heap.size, 0, none⟩ = some (.int .i64 n) ∧ wr.cell? ⟨w.heap.size, 1, none⟩ = some (.slice la ls.length lc) ∧ wr.cell? ⟨w.heap.size, 2, none⟩ = some (.slice ga gs.length gc) ∧ wr.cell? ⟨w.heap.size, 3, none⟩ = some (.slice oa os.length oc) ∧
            w.heap.size < wr.heap.size ∧ Below w.heap.size w wr) (fun _ _ i _ _ => ins.length - (intOf i).toNat)
        case atStart => exact ⟨0, Nat.zero_le _, rfl, rfl, World.ownsRow_nil _ _ _ _, r0, r1, r2, r3, y3, bel3⟩
        case round =>
          clear r0 r1 r2 r3 y3 bel3
          obtain ⟨k, hk, rfl, rfl, hown, q0, q1, q2, q3, hz, hbel⟩ := hrel
          by_cases hk2 : k < ins.length
          · obtain ⟨b, off, rfl, hlt, hc⟩ := hI.get (by omega)
            obtain ⟨X, hX, hX16⟩ := inputs_lt hn4 hin hk2
            have hcy : wr.cell? ⟨b, off + k, none⟩ = some (.int .i64 (X : Int)) := by rw [← hX]; exact (hbel.cell (p := ⟨b, _, none⟩) hlt).trans (hc k hk2)
            obtain ⟨S, hS⟩ : ∃ S, S = stateAt n ls gs ins k := ⟨_, rfl⟩
            have hS16 : S < 16 := by rw [hS]; exact stateAt_lt n ls gs ins k hl4
            have HN : Hid (nextOf ls (vals n ls.length gs S X) ls.length = stateAt n ls gs ins (k + 1)) := by
              show _ = nextOf ls (vals n ls.length gs (stateAt n ls gs ins k) (ins.getD k 0).toNat) ls.length
              rw [hS, hX]; rfl
            have HO : Hid (outOf os (vals n ls.length gs S X) os.length = outAt n ls gs os ins k) := by
              unfold Hid outAt; rw [hS, hX]; rfl
            rw [← hS]
            obtain ⟨NX, hNX⟩ : ∃ NX, NX = nextOf ls (vals n ls.length gs S X) ls.length := ⟨_, rfl⟩
            obtain ⟨OX, hOX⟩ : ∃ OX, OX = outOf os (vals n ls.length gs S X) os.length := ⟨_, rfl⟩
            have hLr := hL.below hbel
            have hGr := hG.below hbel
            have hOr := hO.below hbel
            have hbz : b < wr.heap.size := Nat.lt_of_lt_of_le hlt hbel.size
            have co := refOutputs_any n S X la ga oa lc gc oc ls.length gs os wr.drew hn4 hl4 hg30 ho4 hS16 hX16 (hGr.below (Below.refl _ _).drew) (hOr.below (Below.refl _ _).drew) hokg hoko
            rw [← hOX] at co
            have hk0 : (0 : Int) ≤ (k : Int) := by omega
            have hk3 : (k : Int) < (ins.length : Int) := by omega
            have HNX : Hid (NX = nextOf ls (vals n ls.length gs S X) ls.length) := hNX
            have HOX : Hid (OX = outOf os (vals n ls.length gs S X) os.length) := hOX
            clear hS hX hc hNX hOX
            go_wp2
            go_region_held3 (fun w' => w'.cell? ⟨w.heap.size, 0, none⟩ = some (.int .i64 n) ∧ w'.cell? ⟨w.heap.size, 1, none⟩ = some (.slice la ls.length lc) ∧ w'.cell? ⟨w.heap.size, 2, none⟩ = some (.slice ga gs.length gc) ∧ w'.cell? ⟨w.heap.size, 3, none⟩ = some (.slice oa os.length oc) ∧ w'.cell? ⟨b, off + k, none⟩ = some (.int .i64 (X : Int))) (first | (simp [go_sem, q0, q1, q2, q3, hcy]; done) | (exact keep_box b5 hz hbz q0 q1 q2 q3 hcy)) (first | (go_at_call 53; refine co.mono ?_; rintro e w5 ⟨rfl, b5⟩) | fail)
            have b5' : Below wr.heap.size wr w5 := below_of_drew b5
            obtain ⟨s0, s1, s2, s3, s4⟩ := keep_box b5' hz hbz q0 q1 q2 q3 hcy
            have own5 := own_keeps hown (fun q hq => b5'.block q (hown.lt q hq).2)
            have z5 : w.heap.size < w5.heap.size := Nat.lt_of_lt_of_le hz b5'.size
            have bel5 : Below w.heap.size w w5 := hbel.trans (b5'.mono (by omega))
            clear q0 q1 q2 q3 hcy hown hLr hGr hOr co b5 b5'
            go_wp2_with (first | (at_builtin; refine wpList_append_lies _ rfl (.tmp 60) (.tmp 62) 32 rfl (w.heap.size + 1) 3 i0 (.int .i64 0) 1 8 Tryz.underlying32 hi0 hz0 hz1 hz2 rfl (by omega) _ _ _ rfl (own5.alloc _) ⟨w5.heap.size, 0, none⟩ 1 1 [.int .i64 OX] rfl rfl (cell_one_new _ _ _) (by simp; rfl) (by omega) (by unfold maxLen; omega) (by omega) (by simp; omega) _ rfl ?_) | fail)
            intro g' cap' w6 own6 hgrow hat hlt6
            have far : ∀ c o, c ≤ w.heap.size → c < w5.heap.size → w6.cell? ⟨c, o, none⟩ = w5.cell? ⟨c, o, none⟩ := fun c o hc1 hc2 => by
              rw [hgrow.cell_far ⟨c, o, none⟩ (by show c < (w5.alloc _).heap.size; simp; omega) (fun e => by have := (own5.lt c e.symm).1; omega), World.cell?_alloc_past _ _ _ hc2]
            have t0 := (far _ 0 (Nat.le_refl _) z5).trans s0
            have t1 := (far _ 1 (Nat.le_refl _) z5).trans s1
            have t2 := (far _ 2 (Nat.le_refl _) z5).trans s2
            have t3 := (far _ 3 (Nat.le_refl _) z5).trans s3
            have hb5 : b < w5.heap.size := Nat.lt_of_lt_of_le hlt bel5.size
            have t4 := (far b (off + k) (by omega) hb5).trans s4
            have bel6 : Below w.heap.size w w6 := (bel5.alloc (by omega) _).grown hgrow (by simp; omega) (fun q hq => by have := (own5.lt q hq).1; omega)
            have z6 : w.heap.size < w6.heap.size := Nat.lt_of_lt_of_le z5 (Nat.le_trans (by simp) hgrow.size)
            have hb6 : b < w6.heap.size := Nat.lt_of_lt_of_le hlt bel6.size
            have cb := behind_any n S X la ga lc gc (.slice oa os.length oc) ls gs w6.drew hn4 hl4 hg30 hS16 hX16 ((hL.below bel6).below (Below.refl _ _).drew) ((hG.below bel6).below (Below.refl _ _).drew) hokg hnext
            rw [← HNX.out] at cb
            clear s0 s1 s2 s3 s4 own5 hgrow hat far bel5 z5 hb5
            go_wp2
            go_region_held3 (fun w' => w'.cell? ⟨w.heap.size, 0, none⟩ = some (.int .i64 n) ∧ w'.cell? ⟨w.heap.size, 1, none⟩ = some (.slice la ls.length lc) ∧ w'.cell? ⟨w.heap.size, 2, none⟩ = some (.slice ga gs.length gc) ∧ w'.cell? ⟨w.heap.size, 3, none⟩ = some (.slice oa os.length oc) ∧ w'.cell? ⟨b, off + k, none⟩ = some (.int .i64 (X : Int))) (first | (simp [go_sem, t0, t1, t2, t3, t4]; done) | (exact keep_box b7 z6 hb6 t0 t1 t2 t3 t4)) (first | (go_at_call 54; refine cb.mono ?_; rintro e w7 ⟨rfl, b7⟩) | fail)
            have b7' : Below w6.heap.size w6 w7 := below_of_drew b7
            obtain ⟨s0, s1, s2, s3, s4⟩ := keep_box b7' z6 hb6 t0 t1 t2 t3 t4
            have own7 := own_keeps own6 (fun q hq => b7'.block q (own6.lt q hq).2)
            clear t0 t1 t2 t3 t4 own6 cb b7
            go_wp2
            go_roundw
            case rel => exact ⟨k + 1, by omega, by go_num, by rw [HNX.out, HN.out], by rw [outsUp_succ, ivals_snoc, ← HO.out, ← HOX.out]; exact own7, s0, s1, s2, s3, Nat.lt_of_lt_of_le z6 b7'.size, bel6.trans (b7'.mono (by omega))⟩
            case measure => simp [intOf]; omega
          · obtain rfl : k = ins.length := by omega
            go_wp2
            go_ret2
            exact ⟨fun h => (by rw [hin] at h; cases h), fun _ => ⟨_, rfl, hown.lower (by omega), hbel⟩⟩
      · go_wp2
        go_ret2
        exact ⟨fun _ => ⟨rfl, bel2⟩, fun h => by rw [HUP.out] at h; cases h⟩

end Go.Proofs.YtgpaajdfkekjiaaGreatDoor
