/-
  What latchref's Write answers: the error, or the same text.
-/
import Derived.Test.YtgpaajdfkekjiaaGreatDoorTxt
import Derived.Test.YtgpaajdfkekjiaaGreatDoorDec
import Derived.Test.YtgpaajdfkekjiaaGreatDoorRefRun
import Derived.Test.YtgpaajdfkekjiaaGreatDoorMem
import Derived.Deep.RegionHeld3
namespace Go.Proofs.YtgpaajdfkekjiaaGreatDoor
open Go.RowKit

set_option maxHeartbeats 1000000 in
set_option maxRecDepth 100000 in
theorem refWrite_wrong (n : Int) (la ga oa : Option Addr) (lc gc oc : Nat) (ls gs : List (Int × Int)) (os : List Int) (w : World)
    (hL : PairsAt w la ls) (hG : PairsAt w ga gs) (hO : IntsAt w oa os) (fL : ∀ i, i < ls.length → Fits (ls.getD i (0, 0)).1) (fG : ∀ i, i < gs.length → Fits (gs.getD i (0, 0)).1 ∧ Fits (gs.getD i (0, 0)).2) (fO : ∀ i, i < os.length → Fits (os.getD i 0)) (hr : rightB n ls gs os = false) :
    Calls Tryz.prog 23 #[.agg #[.int .i64 n, .slice la ls.length lc, .slice ga gs.length gc, .slice oa os.length oc]] w fun e w' =>
      e = .returned (.tuple #[.string ⟨#[]⟩, .int .i64 2]) ∧ Below w.heap.size w w' := by
  have bel0 : Below w.heap.size w (w.alloc (.cells #[.int .i64 n, .slice la ls.length lc, .slice ga gs.length gc, .slice oa os.length oc] 34)) := (Below.refl _ _).alloc (Nat.le_refl _) _
  have hL0 := hL.below bel0
  have hG0 := hG.below bel0
  have hO0 := hO.below bel0
  go_enter Tryz.func23, Tryz.ntmps23
  go_wp2_with (go_at_call 46; refine (refRight_is _ hL0 hG0 hO0 fL fG fO hr).mono ?_; rintro e w1 ⟨rfl, b1⟩)
  go_ret2
  exact ⟨rfl, bel0.trans (b1.mono (by simp))⟩

theorem ba_size (l : List UInt8) : (⟨l.toArray⟩ : ByteArray).size = l.length := by simp [ByteArray.size]

/-- A line whose numbers have just been laid. -/
theorem line_at (nb : Nat) (ns : List Nat) (xs : Array Value) (m : Nat) (V : World) (hn : V.heap[nb]? = some (.cells xs 3 (0, 0))) (hxs : xs.toList = ivals ns) (hm : m = ns.length)
    (h100 : ∀ i, i < ns.length → ns.getD i 0 < 100) (h5 : ns.length ≤ 5) :
    Calls Tryz.prog 47 #[.slice (some ⟨nb, 0, none⟩) m m] V fun e w' => e = .returned (.string ⟨(lineB ns).toArray⟩) ∧ Below V.heap.size V w' := by
  subst hm
  have hx : xs = (ivals ns).toArray := by rw [← hxs]
  subst hx
  refine line_any _ _ ns V ?_ h100 h5
  refine .inr ⟨nb, 0, rfl, (Array.getElem?_eq_some_iff.1 hn).1, fun i hi => ?_⟩
  simp only [List.length_map] at hi
  rw [Nat.zero_add, ivals_cell hn i hi]
  simp [hi]

set_option maxHeartbeats 1000000 in
set_option maxRecDepth 100000 in
theorem refWrite_ok (n : Nat) (la ga oa : Option Addr) (lc gc oc : Nat) (ls gs : List (Int × Int)) (os : List Int) (w : World)
    (hL : PairsAt w la ls) (hG : PairsAt w ga gs) (hO : IntsAt w oa os) (fL : ∀ i, i < ls.length → Fits (ls.getD i (0, 0)).1) (fG : ∀ i, i < gs.length → Fits (gs.getD i (0, 0)).1 ∧ Fits (gs.getD i (0, 0)).2) (fO : ∀ i, i < os.length → Fits (os.getD i 0)) (hr : rightB n ls gs os = true) (s : Small n ls gs os) :
    Calls Tryz.prog 23 #[.agg #[.int .i64 n, .slice la ls.length lc, .slice ga gs.length gc, .slice oa os.length oc]] w fun e w' =>
      e = .returned (.tuple #[.string ⟨(txt n ls gs os).toArray⟩, .int .i64 0]) ∧ Below w.heap.size w w' := by
  obtain ⟨W0, hW0⟩ : ∃ W0, W0 = w.alloc (.cells #[.int .i64 n, .slice la ls.length lc, .slice ga gs.length gc, .slice oa os.length oc] 34) := ⟨_, rfl⟩
  have bel0 : Below w.heap.size w W0 := by rw [hW0]; exact (Below.refl _ _).alloc (Nat.le_refl _) _
  have s0 : W0.heap.size = w.heap.size + 1 := by rw [hW0]; simp
  have HC0 : Hid (∀ i, W0.cell? ⟨w.heap.size, i, none⟩ = #[.int .i64 n, .slice la ls.length lc, .slice ga gs.length gc, .slice oa os.length oc][i]?) := fun i => by rw [hW0]; exact cell_of_row _ _ _ _ _ _ (alloc_blk _ _ _ rfl)
  have hS := refRight_is W0 (lc := lc) (gc := gc) (oc := oc) (hL.below bel0) (hG.below bel0) (hO.below bel0) fL fG fO hr
  have hn4 := s.n4
  have hl4 := s.l4
  have ho4 := s.o4
  have hg30 := s.g30
  rw [hW0] at hS
  go_enter Tryz.func23, Tryz.ntmps23
  go_wp2_with fail
  refine hS.mono ?_
  rw [← hW0]
  rintro e w1 ⟨rfl, b1⟩
  clear hS hW0
  have z1 : w.heap.size < w1.heap.size := by have := b1.size; omega
  have HC1 : Hid (∀ i, w1.cell? ⟨w.heap.size, i, none⟩ = #[.int .i64 n, .slice la ls.length lc, .slice ga gs.length gc, .slice oa os.length oc][i]?) := fun i => ((bcell b1).1 _ i (by omega)).trans (HC0.out i)
  have m0 := HC1.out 0
  have m1 := HC1.out 1
  have m2 := HC1.out 2
  have m3 := HC1.out 3
  obtain ⟨H0, hH0⟩ : ∃ H0, H0 = lineB [n + ls.length + gs.length, n, ls.length, os.length, gs.length] := ⟨_, rfl⟩
  have hH0l : H0.length ≤ 16 := by rw [hH0]; exact lineB_len [n + ls.length + gs.length, n, ls.length, os.length, gs.length] (all5 (by omega) (by omega) (by omega) (by omega) (by omega))
  have hWL : Calls Tryz.prog 47 #[.slice (some ⟨w1.heap.size + 1, 0, none⟩) 5 5] ((w1.alloc (.cells #[.int .i64 n, .slice la ls.length lc, .slice ga gs.length gc, .slice oa os.length oc] 34)).alloc (.cells #[.int .i64 (↑n + ↑ls.length + ↑gs.length), .int .i64 n, .int .i64 ls.length, .int .i64 os.length, .int .i64 gs.length] 3)).drew fun e w' =>
      e = .returned (.string ⟨H0.toArray⟩) ∧ Below w1.heap.size w1 w' := by
    rw [hH0]
    refine (line_at (w1.heap.size + 1) [n + ls.length + gs.length, n, ls.length, os.length, gs.length] #[.int .i64 (↑n + ↑ls.length + ↑gs.length), .int .i64 n, .int .i64 ls.length, .int .i64 os.length, .int .i64 gs.length] 5 ((w1.alloc (.cells #[.int .i64 n, .slice la ls.length lc, .slice ga gs.length gc, .slice oa os.length oc] 34)).alloc (.cells #[.int .i64 (↑n + ↑ls.length + ↑gs.length), .int .i64 n, .int .i64 ls.length, .int .i64 os.length, .int .i64 gs.length] 3)).drew (alloc_blk (w1.alloc _) _ _ (by simp)) (by simp [ivals]) rfl (all5 (by omega) (by omega) (by omega) (by omega) (by omega)) (by simp)).mono ?_
    rintro e w3 ⟨rfl, b3⟩
    exact ⟨rfl, (((Below.refl _ _).alloc (Nat.le_refl _) _).alloc (by simp) _).drew.trans (b3.mono (by show _ ≤ (World.alloc _ _).heap.size; simp; omega))⟩
  have HT : Hid (txt n ls gs os = [97, 97, 103, 32] ++ H0 ++ txtIn n ++ txtLatch n ls ls.length ++ txtOut os os.length ++ txtGate (n + ls.length) gs gs.length) := by rw [hH0]; rfl
  clear hH0
  have hadd : ∀ w', (Op.stringOp .add ⟨#[97, 97, 103, 32]⟩ ⟨H0.toArray⟩).run Tryz.prog w' = .ok (.string ((⟨#[97, 97, 103, 32]⟩ : ByteArray) ++ ⟨H0.toArray⟩)) w' := fun w' => run_string_add_sum w' _ _ (by show 4 + (⟨H0.toArray⟩ : ByteArray).size ≤ _; rw [ba_size]; omega)
  go_wp2
  go_region_held3 (fun w' => w'.cell? ⟨w.heap.size, 0, none⟩ = some (.int .i64 n) ∧ w'.cell? ⟨w.heap.size, 1, none⟩ = some (.slice la ls.length lc) ∧ w'.cell? ⟨w.heap.size, 2, none⟩ = some (.slice ga gs.length gc) ∧ w'.cell? ⟨w.heap.size, 3, none⟩ = some (.slice oa os.length oc)) (first | exact ⟨k0, k1, k2, k3⟩ | (simp [go_sem, m0, m1, m2, m3]; done) | (simp [go_sem, World.cell?_alloc_past, *]; done)) (first | (go_at_call 48; refine (top_any n _ _ _ ls.length _ gs.length _ _ _ _ (by omega) (by omega) (by omega) (by omega)).mono ?_; rintro e w2 ⟨rfl, hw2⟩; have hw2 := hw2.symm; subst hw2) | (go_at_call 47; refine hWL.mono ?_; rintro e w3 ⟨rfl, b13⟩; have k0 := (b13.cell (p := ⟨w.heap.size, 0, none⟩) z1).trans m0; have k1 := (b13.cell (p := ⟨w.heap.size, 1, none⟩) z1).trans m1; have k2 := (b13.cell (p := ⟨w.heap.size, 2, none⟩) z1).trans m2; have k3 := (b13.cell (p := ⟨w.heap.size, 3, none⟩) z1).trans m3) | fail)
  go_wp2
  obtain ⟨H, hH⟩ : ∃ H, H = [97, 97, 103, 32] ++ H0 := ⟨_, rfl⟩
  have hHs : (⟨#[97, 97, 103, 32]⟩ : ByteArray) ++ ⟨H0.toArray⟩ = ⟨H.toArray⟩ := by rw [hH]; exact str_app [97, 97, 103, 32] H0
  have hHl : H.length ≤ 20 := by rw [hH]; simp; omega
  rw [← hH] at HT
  rw [hHs]
  clear hH hHs hadd hWL hH0l
  go_loopw [5, 6, 7] (fun st sg i wr => ∃ k : Nat, k ≤ n ∧ i = .int .i64 k ∧ sg = .int .i64 (2 * (k : Int) + 2) ∧ st = .string ⟨(H ++ txtIn k).toArray⟩ ∧ Below w1.heap.size w1 wr)
    (fun _ _ i _ => n - (intOf i).toNat)
  case atStart => exact ⟨0, Nat.zero_le _, rfl, rfl, by simp [txtIn], b13⟩
  case round =>
    obtain ⟨k, hk, rfl, rfl, rfl, bel⟩ := hrel
    clear b13 k0 k1 k2 k3
    have hzr : w1.heap.size ≤ wr.heap.size := bel.size
    have q0 := (bel.cell (p := ⟨w.heap.size, 0, none⟩) z1).trans m0
    have hil := txtIn_len k (by omega)
    by_cases hk2 : k < n
    · have hll : (lineB [2 * k + 2]).length ≤ 4 := lineB_len [2 * k + 2] (all1 (by omega))
      have HX : Hid (H ++ txtIn (k + 1) = H ++ txtIn k ++ lineB [2 * k + 2]) := by unfold Hid; simp [txtIn]
      obtain ⟨A, hA⟩ : ∃ A, A = H ++ txtIn k := ⟨_, rfl⟩
      have hAl : A.length ≤ 100 := by rw [hA, List.length_append]; omega
      rw [← hA]
      rw [← hA] at HX
      clear hA
      go_wp2_with (go_at_call 47; refine (line_at wr.heap.size [2 * k + 2] #[.int .i64 (2 * (k : Int) + 2)] 1 _ (alloc_blk wr _ _ rfl) (by simp [ivals]) rfl (all1 (by omega)) (by simp)).mono ?_; rintro e w4 ⟨rfl, b4⟩)
      go_roundw
      case rel => exact ⟨k + 1, by omega, by go_num, by go_num, by rw [HX.out, ← str_app], (bel.alloc hzr _).trans (b4.mono (by simp; omega))⟩
      case measure => simp [intOf]; omega
    · obtain rfl : n = k := by omega
      have q1 := (bel.cell (p := ⟨w.heap.size, 1, none⟩) z1).trans m1
      go_wp2
      obtain ⟨H2, hH2⟩ : ∃ H2, H2 = H ++ txtIn n := ⟨_, rfl⟩
      have hHl2 : H2.length ≤ 40 := by rw [hH2, List.length_append]; omega
      rw [← hH2]
      rw [← hH2] at HT
      clear hH2 hil
      go_loopw [5, 6, 8] (fun st sg i wx => ∃ k : Nat, k ≤ ls.length ∧ i = .int .i64 k ∧ sg = .int .i64 (2 * ((n : Int) + k) + 2) ∧ st = .string ⟨(H2 ++ txtLatch n ls k).toArray⟩ ∧ Below w1.heap.size w1 wx)
        (fun _ _ i _ => ls.length - (intOf i).toNat)
      case atStart => exact ⟨0, Nat.zero_le _, rfl, by simp, by simp [txtLatch], bel⟩
      case round =>
        clear hzr bel q0 q1
        obtain ⟨k, hk, rfl, rfl, rfl, bel⟩ := hrel
        rename World => wx
        have hzr : w1.heap.size ≤ wx.heap.size := bel.size
        have belw : Below w.heap.size w wx := (bel0.trans (b1.mono (by omega))).trans (bel.mono (by omega))
        have q1 := (bel.cell (p := ⟨w.heap.size, 1, none⟩) z1).trans m1
        have hil := txtLatch_len s k hk
        by_cases hk2 : k < ls.length
        · obtain ⟨b, off, rfl, hlt, hc⟩ := hL.get (by omega)
          obtain ⟨X, hX⟩ : ∃ X : Nat, X = (ls.getD k (0, 0)).1.toNat := ⟨_, rfl⟩
          obtain ⟨Y, hY⟩ : ∃ Y : Nat, Y = (ls.getD k (0, 0)).2.toNat := ⟨_, rfl⟩
          have hX1 : X < 100 := by rw [hX]; exact (s.l1 k hk2).2
          have hY1 : Y < 100 := by rw [hY]; exact (s.l2 k hk2).2
          have hc1 : wx.cell? ⟨b, off + k * 2, none⟩ = some (.int .i64 (X : Int)) := by rw [hX, (s.l1 k hk2).1]; exact (belw.cell (p := ⟨b, _, none⟩) hlt).trans (hc k hk2).1
          have hc2 : wx.cell? ⟨b, off + k * 2 + 1, none⟩ = some (.int .i64 (Y : Int)) := by rw [hY, (s.l2 k hk2).1]; exact (belw.cell (p := ⟨b, _, none⟩) hlt).trans (hc k hk2).2
          have HX : Hid (H2 ++ txtLatch n ls (k + 1) = H2 ++ txtLatch n ls k ++ lineB [2 * (n + k) + 2, X, Y]) := by unfold Hid; simp [txtLatch, hX, hY]
          clear hX hY hc
          obtain ⟨A, hA⟩ : ∃ A, A = H2 ++ txtLatch n ls k := ⟨_, rfl⟩
          have hAl : A.length ≤ 100 := by rw [hA, List.length_append]; omega
          obtain ⟨Z, hZ⟩ : ∃ Z, Z = lineB [2 * (n + k) + 2, X, Y] := ⟨_, rfl⟩
          have hll : Z.length ≤ 10 := by rw [hZ]; exact lineB_len [2 * (n + k) + 2, X, Y] (all3 (by omega) hX1 hY1)
          have hadd : ∀ w', (Op.stringOp .add ⟨A.toArray⟩ ⟨Z.toArray⟩).run Tryz.prog w' = .ok (.string ((⟨A.toArray⟩ : ByteArray) ++ ⟨Z.toArray⟩)) w' := fun w' => run_string_add_sum w' _ _ (by rw [ba_size, ba_size]; omega)
          have hbx : b < wx.heap.size := Nat.lt_of_lt_of_le hlt belw.size
          have hWL : Calls Tryz.prog 47 #[.slice (some ⟨wx.heap.size, 0, none⟩) 3 3] (wx.alloc (.cells #[.int .i64 (2 * ((n : Int) + k) + 2), .int .i64 X, .int .i64 Y] 3)).drew fun e w' => e = .returned (.string ⟨Z.toArray⟩) ∧ Below wx.heap.size wx w' := by
            rw [hZ]
            refine (line_at wx.heap.size [2 * (n + k) + 2, X, Y] #[.int .i64 (2 * ((n : Int) + k) + 2), .int .i64 X, .int .i64 Y] 3 (wx.alloc (.cells #[.int .i64 (2 * ((n : Int) + k) + 2), .int .i64 X, .int .i64 Y] 3)).drew (alloc_blk wx _ _ rfl) (by simp [ivals]) rfl (all3 (by omega) hX1 hY1) (by simp)).mono ?_
            rintro e w3 ⟨rfl, b3⟩
            exact ⟨rfl, ((Below.refl _ _).alloc (Nat.le_refl _) _).drew.trans (b3.mono (by show _ ≤ (World.alloc _ _).heap.size; simp))⟩
          rw [← hA]
          rw [← hA, ← hZ] at HX
          clear hA hZ
          have zx : w.heap.size < wx.heap.size := by omega
          go_wp2
          go_region_held3 (fun w' => w'.cell? ⟨w.heap.size, 1, none⟩ = some (.slice (some ⟨b, off, none⟩) ls.length lc) ∧ w'.cell? ⟨b, off + k * 2, none⟩ = some (.int .i64 (X : Int)) ∧ w'.cell? ⟨b, off + k * 2 + 1, none⟩ = some (.int .i64 (Y : Int))) (first | exact ⟨k0, k1, k2⟩ | (simp [go_sem, q1, hc1, hc2]; done) | (simp [go_sem, World.cell?_alloc_past, *]; done)) (first | (go_at_call 47; refine hWL.mono ?_; rintro e w4 ⟨rfl, b4⟩; have k0 := (b4.cell (p := ⟨w.heap.size, 1, none⟩) zx).trans q1; have k1 := (b4.cell (p := ⟨b, _, none⟩) hbx).trans hc1; have k2 := (b4.cell (p := ⟨b, _, none⟩) hbx).trans hc2) | fail)
          go_wp2
          go_roundw
          case rel => exact ⟨k + 1, by omega, by go_num, by go_num, by rw [HX.out, ← str_app], bel.trans (b4.mono hzr)⟩
          case measure => simp [intOf]; omega
        · obtain rfl : k = ls.length := by omega
          have q3 := (bel.cell (p := ⟨w.heap.size, 3, none⟩) z1).trans m3
          go_wp2
          obtain ⟨H3, hH3⟩ : ∃ H3, H3 = H2 ++ txtLatch n ls ls.length := ⟨_, rfl⟩
          have hHl3 : H3.length ≤ 80 := by rw [hH3, List.length_append]; omega
          rw [← hH3]
          rw [← hH3] at HT
          clear hH3 hil
          go_loopw [5, 9] (fun st i wy => ∃ k : Nat, k ≤ os.length ∧ i = .int .i64 k ∧ st = .string ⟨(H3 ++ txtOut os k).toArray⟩ ∧ Below w1.heap.size w1 wy)
            (fun _ i _ => os.length - (intOf i).toNat)
          case atStart => exact ⟨0, Nat.zero_le _, rfl, by simp [txtOut], bel⟩
          case round =>
            clear hzr bel belw q1 q3
            obtain ⟨k, hk, rfl, rfl, bel⟩ := hrel
            rename World => wy
            have hzr : w1.heap.size ≤ wy.heap.size := bel.size
            have belw : Below w.heap.size w wy := (bel0.trans (b1.mono (by omega))).trans (bel.mono (by omega))
            have q3 := (bel.cell (p := ⟨w.heap.size, 3, none⟩) z1).trans m3
            have hil := txtOut_len s k hk
            by_cases hk2 : k < os.length
            · obtain ⟨b, off, rfl, hlt, hc⟩ := hO.get (by omega)
              obtain ⟨X, hX⟩ : ∃ X : Nat, X = (os.getD k 0).toNat := ⟨_, rfl⟩
              have hX1 : X < 100 := by rw [hX]; exact (s.o1 k hk2).2
              have hc1 : wy.cell? ⟨b, off + k, none⟩ = some (.int .i64 (X : Int)) := by rw [hX, (s.o1 k hk2).1]; exact (belw.cell (p := ⟨b, _, none⟩) hlt).trans (hc k hk2)
              have HX : Hid (H3 ++ txtOut os (k + 1) = H3 ++ txtOut os k ++ lineB [X]) := by unfold Hid; simp [txtOut, hX]
              clear hX hc
              have hll : (lineB [X]).length ≤ 4 := lineB_len [X] (all1 hX1)
              obtain ⟨A, hA⟩ : ∃ A, A = H3 ++ txtOut os k := ⟨_, rfl⟩
              have hAl : A.length ≤ 200 := by rw [hA, List.length_append]; omega
              rw [← hA]
              rw [← hA] at HX
              clear hA
              go_wp2_with (go_at_call 47; refine (line_at wy.heap.size [X] #[.int .i64 X] 1 _ (alloc_blk wy _ _ rfl) (by simp [ivals]) rfl (all1 hX1) (by simp)).mono ?_; rintro e w4 ⟨rfl, b4⟩)
              go_roundw
              case rel => exact ⟨k + 1, by omega, by go_num, by rw [HX.out, ← str_app], (bel.alloc hzr _).trans (b4.mono (by simp; omega))⟩
              case measure => simp [intOf]; omega
            · obtain rfl : k = os.length := by omega
              have q2 := (bel.cell (p := ⟨w.heap.size, 2, none⟩) z1).trans m2
              go_wp2
              obtain ⟨H4, hH4⟩ : ∃ H4, H4 = H3 ++ txtOut os os.length := ⟨_, rfl⟩
              have hHl4 : H4.length ≤ 120 := by rw [hH4, List.length_append]; omega
              rw [← hH4]
              rw [← hH4] at HT
              clear hH4 hil
              go_loopw [5, 6, 10] (fun st sg i wz => ∃ k : Nat, k ≤ gs.length ∧ i = .int .i64 k ∧ sg = .int .i64 (2 * ((n : Int) + ls.length + k) + 2) ∧ st = .string ⟨(H4 ++ txtGate (n + ls.length) gs k).toArray⟩ ∧ Below w1.heap.size w1 wz)
                (fun _ _ i _ => gs.length - (intOf i).toNat)
              case atStart => exact ⟨0, Nat.zero_le _, rfl, by simp, by simp [txtGate], bel⟩
              case round =>
                clear hzr bel belw q2 q3
                obtain ⟨k, hk, rfl, rfl, rfl, bel⟩ := hrel
                rename World => wz
                have hzr : w1.heap.size ≤ wz.heap.size := bel.size
                have belw : Below w.heap.size w wz := (bel0.trans (b1.mono (by omega))).trans (bel.mono (by omega))
                have q2 := (bel.cell (p := ⟨w.heap.size, 2, none⟩) z1).trans m2
                have hil := txtGate_len s k hk
                by_cases hk2 : k < gs.length
                · obtain ⟨b, off, rfl, hlt, hc⟩ := hG.get (by omega)
                  obtain ⟨X, hX⟩ : ∃ X : Nat, X = (gs.getD k (0, 0)).1.toNat := ⟨_, rfl⟩
                  obtain ⟨Y, hY⟩ : ∃ Y : Nat, Y = (gs.getD k (0, 0)).2.toNat := ⟨_, rfl⟩
                  have hX1 : X < 100 := by rw [hX]; exact (s.g1 k hk2).2
                  have hY1 : Y < 100 := by rw [hY]; exact (s.g2 k hk2).2
                  have hc1 : wz.cell? ⟨b, off + k * 2, none⟩ = some (.int .i64 (X : Int)) := by rw [hX, (s.g1 k hk2).1]; exact (belw.cell (p := ⟨b, _, none⟩) hlt).trans (hc k hk2).1
                  have hc2 : wz.cell? ⟨b, off + k * 2 + 1, none⟩ = some (.int .i64 (Y : Int)) := by rw [hY, (s.g2 k hk2).1]; exact (belw.cell (p := ⟨b, _, none⟩) hlt).trans (hc k hk2).2
                  have HX : Hid (H4 ++ txtGate (n + ls.length) gs (k + 1) = H4 ++ txtGate (n + ls.length) gs k ++ lineB [2 * (n + ls.length + k) + 2, X, Y]) := by unfold Hid; simp [txtGate, hX, hY]
                  clear hX hY hc
                  obtain ⟨A, hA⟩ : ∃ A, A = H4 ++ txtGate (n + ls.length) gs k := ⟨_, rfl⟩
                  have hAl : A.length ≤ 1000 := by rw [hA, List.length_append]; omega
                  obtain ⟨Z, hZ⟩ : ∃ Z, Z = lineB [2 * (n + ls.length + k) + 2, X, Y] := ⟨_, rfl⟩
                  have hll : Z.length ≤ 10 := by rw [hZ]; exact lineB_len [2 * (n + ls.length + k) + 2, X, Y] (all3 (by omega) hX1 hY1)
                  have hadd : ∀ w', (Op.stringOp .add ⟨A.toArray⟩ ⟨Z.toArray⟩).run Tryz.prog w' = .ok (.string ((⟨A.toArray⟩ : ByteArray) ++ ⟨Z.toArray⟩)) w' := fun w' => run_string_add_sum w' _ _ (by rw [ba_size, ba_size]; omega)
                  have hbx : b < wz.heap.size := Nat.lt_of_lt_of_le hlt belw.size
                  have hWL : Calls Tryz.prog 47 #[.slice (some ⟨wz.heap.size, 0, none⟩) 3 3] (wz.alloc (.cells #[.int .i64 (2 * ((n : Int) + ls.length + k) + 2), .int .i64 X, .int .i64 Y] 3)).drew fun e w' => e = .returned (.string ⟨Z.toArray⟩) ∧ Below wz.heap.size wz w' := by
                    rw [hZ]
                    refine (line_at wz.heap.size [2 * (n + ls.length + k) + 2, X, Y] #[.int .i64 (2 * ((n : Int) + ls.length + k) + 2), .int .i64 X, .int .i64 Y] 3 (wz.alloc (.cells #[.int .i64 (2 * ((n : Int) + ls.length + k) + 2), .int .i64 X, .int .i64 Y] 3)).drew (alloc_blk wz _ _ rfl) (by simp [ivals]) rfl (all3 (by omega) hX1 hY1) (by simp)).mono ?_
                    rintro e w3 ⟨rfl, b3⟩
                    exact ⟨rfl, ((Below.refl _ _).alloc (Nat.le_refl _) _).drew.trans (b3.mono (by show _ ≤ (World.alloc _ _).heap.size; simp))⟩
                  rw [← hA]
                  rw [← hA, ← hZ] at HX
                  clear hA hZ
                  have zx : w.heap.size < wz.heap.size := by omega
                  go_wp2
                  go_region_held3 (fun w' => w'.cell? ⟨w.heap.size, 2, none⟩ = some (.slice (some ⟨b, off, none⟩) gs.length gc) ∧ w'.cell? ⟨b, off + k * 2, none⟩ = some (.int .i64 (X : Int)) ∧ w'.cell? ⟨b, off + k * 2 + 1, none⟩ = some (.int .i64 (Y : Int))) (first | exact ⟨k0, k1, k2⟩ | (simp [go_sem, q2, hc1, hc2]; done) | (simp [go_sem, World.cell?_alloc_past, *]; done)) (first | (go_at_call 47; refine hWL.mono ?_; rintro e w4 ⟨rfl, b4⟩; have k0 := (b4.cell (p := ⟨w.heap.size, 2, none⟩) zx).trans q2; have k1 := (b4.cell (p := ⟨b, _, none⟩) hbx).trans hc1; have k2 := (b4.cell (p := ⟨b, _, none⟩) hbx).trans hc2) | fail)
                  go_wp2
                  go_roundw
                  case rel => exact ⟨k + 1, by omega, by go_num, by go_num, by rw [HX.out, ← str_app], bel.trans (b4.mono hzr)⟩
                  case measure => simp [intOf]; omega
                · obtain rfl : k = gs.length := by omega
                  go_wp2
                  go_ret2
                  exact ⟨by rw [HT.out]; rfl, belw⟩

end Go.Proofs.YtgpaajdfkekjiaaGreatDoor
