/-
  What values, outputs and behind of package latchref answer of a right circuit.
-/
import Derived.Test.YtgpaajdfkekjiaaGreatDoorRef1
namespace Go.Proofs.YtgpaajdfkekjiaaGreatDoor
open Go.RowKit

set_option maxHeartbeats 1000000 in
set_option maxRecDepth 100000 in
theorem refValues_any (n st inp : Nat) (la ga : Option Addr) (lc gc : Nat) (v3 : Value) (ln : Nat) (gs : List (Int × Int)) (w : World) (h1 : n ≤ 4) (h2 : ln ≤ 4) (h3 : gs.length ≤ 30) (hs : st < 16) (hn : inp < 16)
    (hG : PairsAt w ga gs) (hg : ∀ i, i < gs.length → gateOk (n + ln + (i : Nat)) (gs.getD i (0, 0)) = true) :
    Calls Tryz.prog 79 #[.agg #[.int .i64 n, .slice la ln lc, .slice ga gs.length gc, v3], .int .i64 inp, .int .i64 st] w fun e w' =>
      ∃ g cap, e = .returned (.slice (some ⟨g, 0, none⟩) (n + ln + gs.length + 1) cap) ∧ w'.ownsRow w.heap.size 3 1 (.slice (some ⟨g, 0, none⟩) (n + ln + gs.length + 1) cap) (n + ln + gs.length + 1) (ivals (vals n ln gs st inp)) ∧ Below w.heap.size w w' := by
  obtain ⟨i0, hi, hz0, hz1, hz2⟩ := info_parts Tryz.infoInt
  go_enter Tryz.func79, Tryz.ntmps79
  go_wp2
  go_loopw [7, 8] (fun v i wr => ∃ k : Nat, k ≤ n ∧ i = .int .i64 k ∧ (∃ g cap, v = .slice (some ⟨g, 0, none⟩) (k + 1) cap ∧ wr.ownsRow (w.heap.size + 1) 3 1 (.slice (some ⟨g, 0, none⟩) (k + 1) cap) (k + 1) (ivals (baseVals k 0 st inp))) ∧
      wr.cell? ⟨w.heap.size, 0, none⟩ = some (.int .i64 n) ∧ wr.cell? ⟨w.heap.size, 1, none⟩ = some (.slice la ln lc) ∧ wr.cell? ⟨w.heap.size, 2, none⟩ = some (.slice ga gs.length gc) ∧ w.heap.size + 1 ≤ wr.heap.size ∧ Below w.heap.size w wr)
    (fun _ i _ => n - (intOf i).toNat)
  case atStart =>
    refine ⟨0, Nat.zero_le _, rfl, ⟨_, _, rfl, ?_⟩, ?_, ?_, ?_, ?_, ((Below.refl _ _).alloc (Nat.le_refl _) _).alloc (by simp) _⟩
    · have := World.ownsRow_lit (base := w.heap.size + 1) (e := 3) (size := 1) (w.alloc (.cells #[.int .i64 n, .slice la ln lc, .slice ga gs.length gc, v3] 34)) #[.int .i64 0] 1 (by simp) (by simp [maxLen]) rfl
      simp only [World.size_alloc] at this
      exact this
    · rw [World.cell?_alloc_past _ _ _ (by simp)]; simp
    · rw [World.cell?_alloc_past _ _ _ (by simp)]; simp
    · rw [World.cell?_alloc_past _ _ _ (by simp)]; simp
    · simp
  case round =>
    obtain ⟨k, hk, rfl, ⟨g, cap, rfl, hown⟩, q0, q1, q2, hz, hbel⟩ := hrel
    by_cases hk2 : k < n
    · obtain ⟨X, hX⟩ : ∃ X, X = inp / 2 ^ k % 2 := ⟨_, rfl⟩
      have hb := shr_and1 inp k X hn hX
      have HX : Hid (X = inp / 2 ^ k % 2) := hX
      clear hX
      go_wp2_with (at_builtin; refine wpList_append_lies _ rfl (.tmp 20) (.tmp 25) 32 rfl (w.heap.size + 1) 3 i0 (.int .i64 0) 1 8 Tryz.underlying32 hi hz0 hz1 hz2 rfl (by omega) _ _ _ rfl (hown.alloc _) ⟨wr.heap.size, 0, none⟩ 1 1 [.int .i64 X] rfl rfl (cell_one_new _ _ _) (by simp; rfl) (by omega) (by unfold maxLen; omega) (by omega) (by simp; omega) _ rfl ?_)
      intro g' cap' w1 hown1 hgrow hat hlt1
      obtain ⟨e1, e2, e3⟩ := grow_rel hown hz hbel hgrow
      have p0 := (e1 0).trans q0
      have p1 := (e1 1).trans q1
      have p2 := (e1 2).trans q2
      clear hown hgrow hat e1 q0 q1 q2 hb
      go_wp2
      go_roundw
      case rel => exact ⟨k + 1, by omega, by go_num, ⟨g', cap', rfl, by rw [baseVals_in, ivals_snoc, ← HX.out]; exact hown1⟩, p0, p1, p2, e2, e3⟩
      case measure => simp [intOf]; omega
    · obtain rfl : k = n := by omega
      go_wp2
      go_loopw [7, 9] (fun v i wr => ∃ j : Nat, j ≤ ln ∧ i = .int .i64 j ∧ (∃ g cap, v = .slice (some ⟨g, 0, none⟩) (k + j + 1) cap ∧ wr.ownsRow (w.heap.size + 1) 3 1 (.slice (some ⟨g, 0, none⟩) (k + j + 1) cap) (k + j + 1) (ivals (baseVals k j st inp))) ∧
          wr.cell? ⟨w.heap.size, 1, none⟩ = some (.slice la ln lc) ∧ wr.cell? ⟨w.heap.size, 2, none⟩ = some (.slice ga gs.length gc) ∧ w.heap.size + 1 ≤ wr.heap.size ∧ Below w.heap.size w wr)
        (fun _ i _ => ln - (intOf i).toNat)
      case atStart => exact ⟨0, Nat.zero_le _, rfl, ⟨g, cap, rfl, hown⟩, q1, q2, hz, hbel⟩
      case round =>
        clear hown q0 q1 q2 hz hbel
        obtain ⟨j, hj, rfl, ⟨g, cap, rfl, hown⟩, q1, q2, hz, hbel⟩ := hrel
        by_cases hj2 : j < ln
        · obtain ⟨X, hX⟩ : ∃ X, X = st / 2 ^ j % 2 := ⟨_, rfl⟩
          have hb := shr_and1 st j X hs hX
          have HX : Hid (X = st / 2 ^ j % 2) := hX
          clear hX
          go_wp2_with (at_builtin; refine wpList_append_lies _ rfl (.tmp 34) (.tmp 39) 32 rfl (w.heap.size + 1) 3 i0 (.int .i64 0) 1 8 Tryz.underlying32 hi hz0 hz1 hz2 rfl (by omega) _ _ _ rfl (hown.alloc _) ⟨wr.heap.size, 0, none⟩ 1 1 [.int .i64 X] rfl rfl (cell_one_new _ _ _) (by simp; rfl) (by omega) (by unfold maxLen; omega) (by omega) (by simp; omega) _ rfl ?_)
          intro g' cap' w1 hown1 hgrow hat hlt1
          obtain ⟨e1, e2, e3⟩ := grow_rel hown hz hbel hgrow
          have p1 := (e1 1).trans q1
          have p2 := (e1 2).trans q2
          clear hown hgrow hat e1 q1 q2 hb
          go_wp2
          go_roundw
          case rel => exact ⟨j + 1, by omega, by go_num, ⟨g', cap', rfl, by rw [baseVals_la, ivals_snoc, ← HX.out]; exact hown1⟩, p1, p2, e2, e3⟩
          case measure => simp [intOf]; omega
        · obtain rfl : j = ln := by omega
          go_wp2
          go_loopw [7, 10] (fun v i wr => ∃ m : Nat, m ≤ gs.length ∧ i = .int .i64 m ∧ (∃ g cap, v = .slice (some ⟨g, 0, none⟩) (k + j + m + 1) cap ∧ wr.ownsRow (w.heap.size + 1) 3 1 (.slice (some ⟨g, 0, none⟩) (k + j + m + 1) cap) (k + j + m + 1) (ivals (gateVals gs (baseVals k j st inp) m))) ∧
              wr.cell? ⟨w.heap.size, 2, none⟩ = some (.slice ga gs.length gc) ∧ w.heap.size + 1 ≤ wr.heap.size ∧ Below w.heap.size w wr)
            (fun _ i _ => gs.length - (intOf i).toNat)
          case atStart => exact ⟨0, Nat.zero_le _, rfl, ⟨g, cap, rfl, hown⟩, q2, hz, hbel⟩
          case round =>
            clear hown q1 q2 hz hbel
            obtain ⟨m, hm, rfl, ⟨g, cap, rfl, hown⟩, q2, hz, hbel⟩ := hrel
            by_cases hm2 : m < gs.length
            · obtain ⟨b, off, rfl, hlt, hc⟩ := hG.get (by omega)
              have hcy : wr.cell? ⟨b, off + m * 2, none⟩ = some (.int .i64 (gs.getD m (0, 0)).1) := (hbel.cell (p := ⟨b, _, none⟩) hlt).trans (hc m hm2).1
              have hcz : wr.cell? ⟨b, off + m * 2 + 1, none⟩ = some (.int .i64 (gs.getD m (0, 0)).2) := (hbel.cell (p := ⟨b, _, none⟩) hlt).trans (hc m hm2).2
              have hq := hg m hm2
              obtain ⟨x, hX⟩ : ∃ x, x = gs.getD m (0, 0) := ⟨_, rfl⟩
              obtain ⟨V, hV⟩ : ∃ V, V = gateVals gs (baseVals k j st inp) m := ⟨_, rfl⟩
              have hVl : V.length = k + j + m + 1 := by rw [hV, gateVals_len, baseVals_len]; omega
              have hV1 : ∀ x ∈ V, x ≤ 1 := by rw [hV]; exact gateVals_01 gs _ (baseVals_01 _ _ _ _) m
              rw [← hX] at hcy hcz hq
              rw [← hV] at hown
              obtain ⟨x1, x2⟩ := x
              dsimp only at hcy hcz
              obtain ⟨⟨x10, x11⟩, x20, x21⟩ := gateOk_pos hq
              obtain ⟨A, hA⟩ : ∃ A, sigv x1 V = A := ⟨_, rfl⟩
              obtain ⟨C, hC⟩ : ∃ C, sigv x2 V = C := ⟨_, rfl⟩
              have hA1 : A ≤ 1 := hA ▸ sigv_le x1 V
              have hC1 : C ≤ 1 := hC ▸ sigv_le x2 V
              obtain ⟨Y, hY⟩ : ∃ Y, Y = A * C := ⟨_, rfl⟩
              have hb : IntKind.i64.wrap ((A : Int) * (C : Int)) = (Y : Int) := by
                have hAC : A * C ≤ 1 * 1 := Nat.mul_le_mul hA1 hC1
                rw [wrap_i64', hY, ← Int.natCast_mul]; omega
              have HY : Hid (gateVals gs (baseVals k j st inp) (m + 1) = V ++ [Y]) := by
                show gateVals gs (baseVals k j st inp) m ++ [_] = _
                rw [← hV, ← hX, hY, ← hA, ← hC]
              have HA : Hid (sigv x1 V = A) := hA
              have HC : Hid (sigv x2 V = C) := hC
              have hl1 : x1 / 2 < ((k + j + m + 1 : Nat) : Int) := by omega
              have hl2 : x2 / 2 < ((k + j + m + 1 : Nat) : Int) := by omega
              clear hX hV hA hC hY hq hg hc x11 x21
              go_wp2_with (first | (go_at_call_of 80 (Value.int IntKind.i64 x1); refine (of_is _ x10 hl1 (by omega) hVl.symm hV1 hown HA.out).mono ?_; rintro e w' ⟨rfl, hw⟩; have hw := hw.symm; subst hw) | (go_at_call_of 80 (Value.int IntKind.i64 x2); refine (of_is _ x20 hl2 (by omega) hVl.symm hV1 hown HC.out).mono ?_; rintro e w' ⟨rfl, hw⟩; have hw := hw.symm; subst hw) | (at_builtin; refine wpList_append_lies _ rfl (.tmp 64) (.tmp 68) 32 rfl (w.heap.size + 1) 3 i0 (.int .i64 0) 1 8 Tryz.underlying32 hi hz0 hz1 hz2 rfl (by omega) _ _ _ rfl (hown.alloc _) ⟨wr.heap.size, 0, none⟩ 1 1 [.int .i64 Y] rfl rfl (cell_one_new _ _ _) (by simp; rfl) (by omega) (by unfold maxLen; omega) (by omega) (by simp; omega) _ rfl ?_) | fail)
              intro g' cap' w1 hown1 hgrow hat hlt1
              obtain ⟨e1, e2, e3⟩ := grow_rel hown hz hbel hgrow
              have p2 := (e1 2).trans q2
              clear hown hgrow hat e1 q2 hb
              go_wp2
              go_roundw
              case rel => exact ⟨m + 1, by omega, by go_num, ⟨g', cap', rfl, by rw [HY.out, ivals_snoc]; exact hown1⟩, p2, e2, e3⟩
              case measure => simp [intOf]; omega
            · clear hg
              obtain rfl : m = gs.length := by omega
              go_wp2
              go_ret
              exact ⟨g, cap, rfl, hown.lower (by omega), hbel⟩

end Go.Proofs.YtgpaajdfkekjiaaGreatDoor
