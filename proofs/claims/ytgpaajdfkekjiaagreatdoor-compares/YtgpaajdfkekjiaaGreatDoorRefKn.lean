/-
  known of package latchref: is the pair of states among those of the list?
-/
import Derived.Test.YtgpaajdfkekjiaaGreatDoorBase
import Derived.Test.YtgpaajdfkekjiaaGreatDoorMem
import Derived.Test.YtgpaajdfkekjiaaGreatDoorLeafRun
import Derived.BigQuiet
import Derived.Deep.DeepCutAuto
namespace Go.Proofs.YtgpaajdfkekjiaaGreatDoor
open Go.RowKit

theorem ne_succ {ps : List (Nat × Nat)} {q : Nat × Nat} {k : Nat} (h : ∀ j, j < k → ps.getD j (0, 0) ≠ q) (hk : ps.getD k (0, 0) ≠ q) : ∀ j, j < k + 1 → ps.getD j (0, 0) ≠ q := fun j hj => by
  rcases Nat.lt_or_ge j k with h' | h'
  · exact h j h'
  · have e : j = k := by omega
    rw [e]; exact hk

set_option maxHeartbeats 1000000 in
set_option maxRecDepth 100000 in
theorem known_any (ps : List (Nat × Nat)) (g cap x y : Nat) (ta : Option Addr) (tn tc : Nat) (w : World) (hl : ps.length ≤ 1000) (hg : g < w.heap.size)
    (hc : ∀ i, i < ps.length → w.cell? ⟨g, i * 3, none⟩ = some (.int .i64 ((ps.getD i (0, 0)).1 : Nat)) ∧ w.cell? ⟨g, i * 3 + 1, none⟩ = some (.int .i64 ((ps.getD i (0, 0)).2 : Nat))) :
    Calls Tryz.prog 61 #[.slice (some ⟨g, 0, none⟩) ps.length cap, .agg #[.int .i64 x, .int .i64 y, .slice ta tn tc]] w fun e w' => e = .returned (.bool (decide ((x, y) ∈ ps))) ∧ Below w.heap.size w w' := by
  obtain ⟨W1, hW1⟩ : ∃ W1, W1 = w.alloc (.cells #[.int .i64 x, .int .i64 y, .slice ta tn tc] 118) := ⟨_, rfl⟩
  have B1 : Below w.heap.size w W1 := by rw [hW1]; exact (Below.refl _ _).alloc (Nat.le_refl _) _
  have s1 : w.heap.size < W1.heap.size := by rw [hW1]; simp
  have bx : W1.heap[w.heap.size]? = some (.cells #[.int .i64 x, .int .i64 y, .slice ta tn tc] 118 (0, 0)) := by rw [hW1]; exact heap_alloc_new _ _
  have HC : Hid (∀ i, i < ps.length → w.cell? ⟨g, i * 3, none⟩ = some (.int .i64 ((ps.getD i (0, 0)).1 : Nat)) ∧ w.cell? ⟨g, i * 3 + 1, none⟩ = some (.int .i64 ((ps.getD i (0, 0)).2 : Nat))) := hc
  clear hc
  go_enter Tryz.func61, Tryz.ntmps61
  go_upto_region 1 with fail
  rw [← hW1]
  clear hW1
  go_wp2
  go_loopw [5] (fun i wr => ∃ k : Nat, k ≤ ps.length ∧ i = .int .i64 k ∧ (∀ j, j < k → ps.getD j (0, 0) ≠ (x, y)) ∧ Below W1.heap.size W1 wr) (fun i _ => ps.length - (intOf i).toNat)
  case atStart => exact ⟨0, Nat.zero_le _, rfl, fun j hj => absurd hj (Nat.not_lt_zero j), Below.refl _ _⟩
  case round =>
    obtain ⟨k, hk, rfl, hall, bR⟩ := hrel
    have HA : Hid (∀ j, j < k → ps.getD j (0, 0) ≠ (x, y)) := hall
    clear hall
    have bW : Below w.heap.size w wr := B1.trans (bR.mono B1.size)
    by_cases hk2 : k < ps.length
    · have kI : (k : Int) < (ps.length : Int) := by omega
      obtain ⟨c0', c1'⟩ := HC.out k hk2
      have c0 := (bW.cell (p := ⟨g, _, none⟩) hg).trans c0'
      have c1 := (bW.cell (p := ⟨g, _, none⟩) hg).trans c1'
      clear c0' c1'
      have wx := (bR.block _ s1).trans bx
      have X0 : wr.cell? ⟨w.heap.size, 0, none⟩ = some (.int .i64 x) := by rw [cell_of_row _ _ _ _ _ _ wx]; rfl
      have X1 : wr.cell? ⟨w.heap.size, 1, none⟩ = some (.int .i64 y) := by rw [cell_of_row _ _ _ _ _ _ wx]; rfl
      obtain ⟨p, hp⟩ : ∃ p, p = ps.getD k (0, 0) := ⟨_, rfl⟩
      obtain ⟨a, b⟩ := p
      rw [← hp] at c0 c1
      have HP : Hid ((a, b) = ps.getD k (0, 0)) := hp
      clear hp
      dsimp only at c0 c1
      by_cases ha : a = x
      · have hd : ((a : Int) == (x : Int)) = true := by simp [ha]
        by_cases hb : b = y
        · have hd2 : ((b : Int) == (y : Int)) = true := by simp [hb]
          have hmem : (x, y) ∈ ps := by
            rw [← ha, ← hb, HP.out, List.getD_eq_getElem?_getD, List.getElem?_eq_getElem hk2]
            exact List.getElem_mem hk2
          subst ha hb
          go_wp2
          go_quiet (fail)
          go_wp2
          go_ret
          exact ⟨ret_bool (decide_eq_true hmem).symm, by first | exact below_drewN bW _ | exact bW.drew⟩
        · have hd2 : ((b : Int) == (y : Int)) = false := by simp; omega
          have hne : ps.getD k (0, 0) ≠ (x, y) := by rw [← HP.out]; intro e; cases e; exact hb rfl
          have HNE : Hid (ps.getD k (0, 0) ≠ (x, y)) := hne
          clear hne
          subst ha
          go_wp2
          go_quiet (fail)
          go_wp2
          go_roundw
          case rel => exact ⟨k + 1, by omega, by go_num, ne_succ HA.out HNE.out, by first | exact below_drewN bR _ | exact bR.drew⟩
          case measure => simp [intOf]; omega
      · have hd : ((a : Int) == (x : Int)) = false := by simp; omega
        have hne : ps.getD k (0, 0) ≠ (x, y) := by rw [← HP.out]; intro e; cases e; exact ha rfl
        have HNE : Hid (ps.getD k (0, 0) ≠ (x, y)) := hne
        clear hne
        go_wp2
        go_quiet (fail)
        go_wp2
        go_roundw
        case rel => exact ⟨k + 1, by omega, by go_num, ne_succ HA.out HNE.out, by first | exact below_drewN bR _ | exact bR.drew⟩
        case measure => simp [intOf]; omega
    · have hnm : ¬ (x, y) ∈ ps := fun hm => by
        obtain ⟨j, hj, e⟩ := List.getElem_of_mem hm
        exact HA.out j (by omega) (by simp [hj, e])
      go_wp2
      go_ret
      exact ⟨ret_bool (decide_eq_false hnm).symm, bW⟩

end Go.Proofs.YtgpaajdfkekjiaaGreatDoor
