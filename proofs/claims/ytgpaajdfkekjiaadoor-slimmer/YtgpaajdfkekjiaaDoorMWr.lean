/-
  What text.Write writes of a right circuit.
  Write of package latch, of any circuit.
-/
import Derived.Test.YtgpaajdfkekjiaaDoorMTxt
import Derived.Test.YtgpaajdfkekjiaaDoorMRight
import Derived.Deep.RegionHeld3
namespace Go.Proofs.YtgpaajdfkekjiaaDoor
open Go.RowKit

/-- A line whose numbers have just been laid. -/
theorem writeLine_at (B b nb : Nat) (acc : List UInt8) (ns : List Nat) (xs : Array Value) (m : Nat) (V : World) (hI : Lib.IsBuilderF 67 5 B b (Lib.byteCells acc) V) (hn : V.heap[nb]? = some (.cells xs 3 (0, 0))) (hxs : xs.toList = ivals ns) (hm : m = ns.length) (hB : B ≤ V.heap.size) (hnb : nb ≠ b)
    (h100 : ∀ i, i < ns.length → ns.getD i 0 < 100) (h5 : ns.length ≤ 5) (ha : acc.length ≤ 100000) :
    Calls Tryd.prog 32 #[.pointer (some ⟨b, 0, none⟩), .slice (some ⟨nb, 0, none⟩) m m] V fun e w' =>
      e = .returned (.tuple #[]) ∧ Lib.IsBuilderF 67 5 B b (Lib.byteCells (acc ++ lineB ns)) w' ∧ Below B V w' := by
  subst hm
  have hx : xs = (ivals ns).toArray := by rw [← hxs]
  subst hx
  refine (writeLine_any B b nb acc ns (0, 0) _ hI hB hn hnb h100 h5 ha).mono ?_
  rintro e w' ⟨rfl, h1, b1, _⟩
  exact ⟨rfl, h1, b1⟩

set_option maxHeartbeats 1000000 in
set_option maxRecDepth 100000 in
theorem write_ok (n : Nat) (la ga oa : Option Addr) (lc gc oc : Nat) (ls gs : List (Int × Int)) (os : List Int) (w : World)
    (hL : PairsAt w la ls) (hG : PairsAt w ga gs) (hO : IntsAt w oa os) (s : Small n ls gs os) :
    Calls Tryd.prog 19 #[.agg #[.int .i64 n, .slice la ls.length lc, .slice ga gs.length gc, .slice oa os.length oc]] w fun e w' =>
      e = .returned (.string ⟨(txt n ls gs os).toArray⟩) ∧ Below w.heap.size w w' := by
  obtain ⟨W0, hW0⟩ : ∃ W0, W0 = w.alloc (.cells #[.int .i64 n, .slice la ls.length lc, .slice ga gs.length gc, .slice oa os.length oc] 26) := ⟨_, rfl⟩
  have bel0 : Below w.heap.size w W0 := by rw [hW0]; exact (Below.refl _ _).alloc (Nat.le_refl _) _
  have s0 : W0.heap.size = w.heap.size + 1 := by rw [hW0]; simp
  have HC0 : Hid (∀ i, W0.cell? ⟨w.heap.size, i, none⟩ = #[.int .i64 n, .slice la ls.length lc, .slice ga gs.length gc, .slice oa os.length oc][i]?) := fun i => by rw [hW0]; exact cell_of_row _ _ _ _ _ _ (alloc_blk _ _ _ rfl)
  have hI0 : Lib.IsBuilderF 67 5 (w.heap.size + 1) (w.heap.size + 1) [] (W0.alloc (.cells #[.pointer none, .slice none 0 0] 67)) := by
    rw [← s0]; exact Lib.IsBuilderF.of (Lib.fresh_isBuilder 67 5 W0)
  have hS : Calls Tryd.prog 31 #[.pointer (some ⟨w.heap.size + 1, 0, none⟩), .string ⟨#[97, 97, 103, 32]⟩] (W0.alloc (.cells #[.pointer none, .slice none 0 0] 67)) fun e w' => e = .returned (.tuple #[.int .i64 4, .nilIface]) ∧
      Lib.IsBuilderF 67 5 (w.heap.size + 1) (w.heap.size + 1) (Lib.byteCells [97, 97, 103, 32]) w' ∧ Below W0.heap.size W0 w' := by
    refine (writeString (w.heap.size + 1) (w.heap.size + 1) [] [97, 97, 103, 32] _ hI0 (by simp) (by simp; omega)).mono ?_
    rintro e w' ⟨rfl, h1, b1, _⟩
    exact ⟨rfl, h1, ((Below.refl _ _).alloc (Nat.le_refl _) _).trans (by rw [s0]; exact b1)⟩
  have hn4 := s.n4
  have hl4 := s.l4
  have ho4 := s.o4
  have hg30 := s.g30
  rw [hW0] at hS
  go_enter Tryd.func19, Tryd.ntmps19
  go_wp2_with fail
  refine hS.mono ?_
  rw [← hW0]
  rintro e w1 ⟨rfl, hI1, b1⟩
  clear hS hI0 hW0
  have z1 : w.heap.size < w1.heap.size := by have := b1.size; omega
  have HC1 : Hid (∀ i, w1.cell? ⟨w.heap.size, i, none⟩ = #[.int .i64 n, .slice la ls.length lc, .slice ga gs.length gc, .slice oa os.length oc][i]?) := fun i => ((bcell b1).1 _ i (by omega)).trans (HC0.out i)
  have m0 := HC1.out 0
  have m1 := HC1.out 1
  have m2 := HC1.out 2
  have m3 := HC1.out 3
  have bl : w.heap.size + 1 < w1.heap.size := by
    rcases hI1 with ⟨_, v, hv, _⟩ | ⟨_, v, hv, _⟩ <;> exact (Array.getElem?_eq_some_iff.1 hv).1
  have hWL : Calls Tryd.prog 32 #[.pointer (some ⟨w.heap.size + 1, 0, none⟩), .slice (some ⟨w1.heap.size + 1, 0, none⟩) 5 5] ((w1.alloc (.cells #[.int .i64 n, .slice la ls.length lc, .slice ga gs.length gc, .slice oa os.length oc] 26)).alloc (.cells #[.int .i64 (↑n + ↑ls.length + ↑gs.length), .int .i64 n, .int .i64 ls.length, .int .i64 os.length, .int .i64 gs.length] 3)).drew fun e w' =>
      e = .returned (.tuple #[]) ∧ Lib.IsBuilderF 67 5 (w.heap.size + 1) (w.heap.size + 1) (Lib.byteCells (txtHead n ls.length gs.length os.length)) w' ∧ Below (w.heap.size + 1) w1 w' := by
    refine (writeLine_at (w.heap.size + 1) (w.heap.size + 1) (w1.heap.size + 1) [97, 97, 103, 32] [n + ls.length + gs.length, n, ls.length, os.length, gs.length] #[.int .i64 (↑n + ↑ls.length + ↑gs.length), .int .i64 n, .int .i64 ls.length, .int .i64 os.length, .int .i64 gs.length] 5 ((w1.alloc (.cells #[.int .i64 n, .slice la ls.length lc, .slice ga gs.length gc, .slice oa os.length oc] 26)).alloc (.cells #[.int .i64 (↑n + ↑ls.length + ↑gs.length), .int .i64 n, .int .i64 ls.length, .int .i64 os.length, .int .i64 gs.length] 3)).drew ((hI1.alloc _).alloc _) (alloc_blk (w1.alloc _) _ _ (by simp)) (by simp [ivals]) rfl (by show _ ≤ (World.alloc _ _).heap.size; simp; omega) (by omega) (all5 (by omega) (by omega) (by omega) (by omega) (by omega)) (by simp) (by simp)).mono ?_
    rintro e w3 ⟨rfl, hI3, b3⟩
    exact ⟨rfl, hI3, (((Below.refl _ _).alloc (by omega) _).alloc (by simp; omega) _).drew.trans b3⟩
  go_wp2
  go_region_held3 (fun w' => w'.cell? ⟨w.heap.size, 0, none⟩ = some (.int .i64 n) ∧ w'.cell? ⟨w.heap.size, 1, none⟩ = some (.slice la ls.length lc) ∧ w'.cell? ⟨w.heap.size, 2, none⟩ = some (.slice ga gs.length gc) ∧ w'.cell? ⟨w.heap.size, 3, none⟩ = some (.slice oa os.length oc)) (first | exact ⟨k0, k1, k2, k3⟩ | (simp [go_sem, m0, m1, m2, m3]; done) | (simp [go_sem, World.cell?_alloc_past, *]; done)) (first | (go_at_call 33; refine (last_any n _ _ _ ls.length _ gs.length _ _ _ _ (by omega) (by omega) (by omega) (by omega)).mono ?_; rintro e w2 ⟨rfl, hw2⟩; have hw2 := hw2.symm; subst hw2) | (go_at_call 32; refine hWL.mono ?_; rintro e w3 ⟨rfl, hI3, b13⟩; have k0 := (b13.cell (p := ⟨w.heap.size, 0, none⟩) (Nat.lt_succ_self _)).trans m0; have k1 := (b13.cell (p := ⟨w.heap.size, 1, none⟩) (Nat.lt_succ_self _)).trans m1; have k2 := (b13.cell (p := ⟨w.heap.size, 2, none⟩) (Nat.lt_succ_self _)).trans m2; have k3 := (b13.cell (p := ⟨w.heap.size, 3, none⟩) (Nat.lt_succ_self _)).trans m3) | fail)
  go_wp2
  obtain ⟨H, hH⟩ : ∃ H, H = txtHead n ls.length gs.length os.length := ⟨_, rfl⟩
  have hHl : H.length ≤ 20 := by rw [hH]; exact txtHead_len s
  have HT : Hid (txt n ls gs os = H ++ txtIn n ++ txtLatch n ls ls.length ++ txtOut os os.length ++ txtGate (n + ls.length) gs gs.length) := by rw [hH]; rfl
  rw [← hH] at hI3
  clear hH hWL hI1 k0 k1 k2 k3
  go_loopw [4, 29] (fun sg i wr => ∃ k : Nat, k ≤ n ∧ i = .int .i64 k ∧ sg = .int .i64 (2 * (k : Int)) ∧ Lib.IsBuilderF 67 5 (w.heap.size + 1) (w.heap.size + 1) (Lib.byteCells (H ++ txtIn k)) wr ∧ Below (w.heap.size + 1) w1 wr)
    (fun _ i _ => n - (intOf i).toNat)
  case atStart => exact ⟨0, Nat.zero_le _, rfl, rfl, by simpa [txtIn] using hI3, b13⟩
  case round =>
    obtain ⟨k, hk, rfl, rfl, hI, bel⟩ := hrel
    clear hI3 b13
    have hzr : w1.heap.size ≤ wr.heap.size := bel.size
    by_cases hk2 : k < n
    · have hal : (H ++ txtIn k).length ≤ 100000 := by have := txtIn_len k (by omega); rw [List.length_append]; omega
      have HX : Hid (H ++ txtIn (k + 1) = H ++ txtIn k ++ lineB [2 * k + 2]) := by unfold Hid; simp [txtIn]
      go_wp2_with (go_at_call 32; refine (writeLine_at (w.heap.size + 1) (w.heap.size + 1) wr.heap.size _ [2 * k + 2] #[.int .i64 (2 * (k : Int) + 2)] 1 _ (hI.alloc _) (alloc_blk wr _ _ rfl) (by simp [ivals]) rfl (by simp; omega) (by omega) (all1 (by omega)) (by simp) hal).mono ?_; rintro e w4 ⟨rfl, hI4, b4⟩)
      go_roundw
      case rel => exact ⟨k + 1, by omega, by go_num, by go_num, by rw [HX.out]; exact hI4, (bel.alloc (by omega) _).trans b4⟩
      case measure => simp [intOf]; omega
    · obtain rfl : n = k := by omega
      have q1 := (bel.cell (p := ⟨w.heap.size, 1, none⟩) (Nat.lt_succ_self _)).trans m1
      have q2 := (bel.cell (p := ⟨w.heap.size, 2, none⟩) (Nat.lt_succ_self _)).trans m2
      have q3 := (bel.cell (p := ⟨w.heap.size, 3, none⟩) (Nat.lt_succ_self _)).trans m3
      go_wp2
      obtain ⟨H2, hH2⟩ : ∃ H2, H2 = H ++ txtIn n := ⟨_, rfl⟩
      have hHl2 : H2.length ≤ 40 := by have := txtIn_len n hn4; rw [hH2, List.length_append]; omega
      rw [← hH2] at hI HT
      clear hH2
      go_loopw [4, 6, 40] (fun sg _ i wx => ∃ k : Nat, k ≤ ls.length ∧ i = .int .i64 k ∧ sg = .int .i64 (2 * ((n : Int) + k)) ∧ Lib.IsBuilderF 67 5 (w.heap.size + 1) (w.heap.size + 1) (Lib.byteCells (H2 ++ txtLatch n ls k)) wx ∧ Below (w.heap.size + 1) w1 wx)
        (fun _ _ i _ => ls.length - (intOf i).toNat)
      case atStart => exact ⟨0, Nat.zero_le _, rfl, by simp, by simpa [txtLatch] using hI, bel⟩
      case round =>
        obtain ⟨k, hk, rfl, rfl, hI, bel⟩ := hrel
        rename World => wx
        have hzr : w1.heap.size ≤ wx.heap.size := bel.size
        have belw : Below w.heap.size w wx := (bel0.trans (b1.mono (by omega))).trans (bel.mono (by omega))
        by_cases hk2 : k < ls.length
        · have hal : (H2 ++ txtLatch n ls k).length ≤ 100000 := by have := txtLatch_len s k hk; rw [List.length_append]; omega
          obtain ⟨b, off, rfl, hlt, hc⟩ := hL.get (by omega)
          obtain ⟨X, hX⟩ : ∃ X : Nat, X = (ls.getD k (0, 0)).1.toNat := ⟨_, rfl⟩
          obtain ⟨Y, hY⟩ : ∃ Y : Nat, Y = (ls.getD k (0, 0)).2.toNat := ⟨_, rfl⟩
          have hX1 : X < 100 := by rw [hX]; exact (s.l1 k hk2).2
          have hY1 : Y < 100 := by rw [hY]; exact (s.l2 k hk2).2
          have hc1 : wx.cell? ⟨b, off + k * 2, none⟩ = some (.int .i64 (X : Int)) := by rw [hX, (s.l1 k hk2).1]; exact (belw.cell (p := ⟨b, _, none⟩) hlt).trans (hc k hk2).1
          have hc2 : wx.cell? ⟨b, off + k * 2 + 1, none⟩ = some (.int .i64 (Y : Int)) := by rw [hY, (s.l2 k hk2).1]; exact (belw.cell (p := ⟨b, _, none⟩) hlt).trans (hc k hk2).2
          have HX : Hid (H2 ++ txtLatch n ls (k + 1) = H2 ++ txtLatch n ls k ++ lineB [2 * (n + k) + 2, X, Y]) := by unfold Hid; simp [txtLatch, hX, hY]
          clear hX hY hc
          go_wp2_with (go_at_call 32; refine (writeLine_at (w.heap.size + 1) (w.heap.size + 1) (wx.heap.size + 1) _ [2 * (n + k) + 2, X, Y] #[.int .i64 (2 * ((n : Int) + k) + 2), .int .i64 X, .int .i64 Y] 3 _ ((hI.alloc _).alloc _) (alloc_blk (wx.alloc _) _ _ (by simp)) (by simp [ivals]) rfl (by simp; omega) (by omega) (all3 (by omega) hX1 hY1) (by simp) hal).mono ?_; rintro e w4 ⟨rfl, hI4, b4⟩)
          go_roundw
          case rel => exact ⟨k + 1, by omega, by go_num, by go_num, by rw [HX.out]; exact hI4, ((bel.alloc (by omega) _).alloc (by simp; omega) _).trans b4⟩
          case measure => simp [intOf]; omega
        · obtain rfl : k = ls.length := by omega
          have q1 := (bel.cell (p := ⟨w.heap.size, 1, none⟩) (Nat.lt_succ_self _)).trans m1
          have q2 := (bel.cell (p := ⟨w.heap.size, 2, none⟩) (Nat.lt_succ_self _)).trans m2
          have q3 := (bel.cell (p := ⟨w.heap.size, 3, none⟩) (Nat.lt_succ_self _)).trans m3
          go_wp2
          obtain ⟨H3, hH3⟩ : ∃ H3, H3 = H2 ++ txtLatch n ls ls.length := ⟨_, rfl⟩
          have hHl3 : H3.length ≤ 100 := by have := txtLatch_len s ls.length (Nat.le_refl _); rw [hH3, List.length_append]; omega
          rw [← hH3] at hI HT
          clear hH3
          go_loopw [8, 57] (fun _ i wy => ∃ k : Nat, k ≤ os.length ∧ i = .int .i64 k ∧ Lib.IsBuilderF 67 5 (w.heap.size + 1) (w.heap.size + 1) (Lib.byteCells (H3 ++ txtOut os k)) wy ∧ Below (w.heap.size + 1) w1 wy)
            (fun _ i _ => os.length - (intOf i).toNat)
          case atStart => exact ⟨0, Nat.zero_le _, rfl, by simpa [txtOut] using hI, bel⟩
          case round =>
            clear belw hzr
            obtain ⟨k, hk, rfl, hI, bel⟩ := hrel
            rename World => wy
            have hzr : w1.heap.size ≤ wy.heap.size := bel.size
            have belw : Below w.heap.size w wy := (bel0.trans (b1.mono (by omega))).trans (bel.mono (by omega))
            by_cases hk2 : k < os.length
            · have hal : (H3 ++ txtOut os k).length ≤ 100000 := by have := txtOut_len s k hk; rw [List.length_append]; omega
              obtain ⟨b, off, rfl, hlt, hc⟩ := hO.get (by omega)
              obtain ⟨X, hX⟩ : ∃ X : Nat, X = (os.getD k 0).toNat := ⟨_, rfl⟩
              have hX1 : X < 100 := by rw [hX]; exact (s.o1 k hk2).2
              have hc1 : wy.cell? ⟨b, off + k, none⟩ = some (.int .i64 (X : Int)) := by rw [hX, (s.o1 k hk2).1]; exact (belw.cell (p := ⟨b, _, none⟩) hlt).trans (hc k hk2)
              have HX : Hid (H3 ++ txtOut os (k + 1) = H3 ++ txtOut os k ++ lineB [X]) := by unfold Hid; simp [txtOut, hX]
              clear hX hc
              go_wp2_with (go_at_call 32; refine (writeLine_at (w.heap.size + 1) (w.heap.size + 1) wy.heap.size _ [X] #[.int .i64 X] 1 _ (hI.alloc _) (alloc_blk wy _ _ rfl) (by simp [ivals]) rfl (by simp; omega) (by omega) (all1 hX1) (by simp) hal).mono ?_; rintro e w4 ⟨rfl, hI4, b4⟩)
              go_roundw
              case rel => exact ⟨k + 1, by omega, by go_num, by rw [HX.out]; exact hI4, (bel.alloc (by omega) _).trans b4⟩
              case measure => simp [intOf]; omega
            · obtain rfl : k = os.length := by omega
              have q1 := (bel.cell (p := ⟨w.heap.size, 1, none⟩) (Nat.lt_succ_self _)).trans m1
              have q2 := (bel.cell (p := ⟨w.heap.size, 2, none⟩) (Nat.lt_succ_self _)).trans m2
              have q3 := (bel.cell (p := ⟨w.heap.size, 3, none⟩) (Nat.lt_succ_self _)).trans m3
              go_wp2
              obtain ⟨H4, hH4⟩ : ∃ H4, H4 = H3 ++ txtOut os os.length := ⟨_, rfl⟩
              have hHl4 : H4.length ≤ 200 := by have := txtOut_len s os.length (Nat.le_refl _); rw [hH4, List.length_append]; omega
              rw [← hH4] at hI HT
              clear hH4
              go_loopw [4, 10, 68] (fun sg _ i wz => ∃ k : Nat, k ≤ gs.length ∧ i = .int .i64 k ∧ sg = .int .i64 (2 * ((n : Int) + ls.length + k)) ∧ Lib.IsBuilderF 67 5 (w.heap.size + 1) (w.heap.size + 1) (Lib.byteCells (H4 ++ txtGate (n + ls.length) gs k)) wz ∧ Below (w.heap.size + 1) w1 wz)
                (fun _ _ i _ => gs.length - (intOf i).toNat)
              case atStart => exact ⟨0, Nat.zero_le _, rfl, by simp, by simpa [txtGate] using hI, bel⟩
              case round =>
                clear belw hzr
                obtain ⟨k, hk, rfl, rfl, hI, bel⟩ := hrel
                rename World => wz
                have hzr : w1.heap.size ≤ wz.heap.size := bel.size
                have belw : Below w.heap.size w wz := (bel0.trans (b1.mono (by omega))).trans (bel.mono (by omega))
                have hal : (H4 ++ txtGate (n + ls.length) gs k).length ≤ 100000 := by have := txtGate_len s k hk; rw [List.length_append]; omega
                by_cases hk2 : k < gs.length
                · obtain ⟨b, off, rfl, hlt, hc⟩ := hG.get (by omega)
                  obtain ⟨X, hX⟩ : ∃ X : Nat, X = (gs.getD k (0, 0)).1.toNat := ⟨_, rfl⟩
                  obtain ⟨Y, hY⟩ : ∃ Y : Nat, Y = (gs.getD k (0, 0)).2.toNat := ⟨_, rfl⟩
                  have hX1 : X < 100 := by rw [hX]; exact (s.g1 k hk2).2
                  have hY1 : Y < 100 := by rw [hY]; exact (s.g2 k hk2).2
                  have hc1 : wz.cell? ⟨b, off + k * 2, none⟩ = some (.int .i64 (X : Int)) := by rw [hX, (s.g1 k hk2).1]; exact (belw.cell (p := ⟨b, _, none⟩) hlt).trans (hc k hk2).1
                  have hc2 : wz.cell? ⟨b, off + k * 2 + 1, none⟩ = some (.int .i64 (Y : Int)) := by rw [hY, (s.g2 k hk2).1]; exact (belw.cell (p := ⟨b, _, none⟩) hlt).trans (hc k hk2).2
                  have HX : Hid (H4 ++ txtGate (n + ls.length) gs (k + 1) = H4 ++ txtGate (n + ls.length) gs k ++ lineB [2 * (n + ls.length + k) + 2, X, Y]) := by unfold Hid; simp [txtGate, hX, hY]
                  clear hX hY hc
                  go_wp2_with (go_at_call 32; refine (writeLine_at (w.heap.size + 1) (w.heap.size + 1) (wz.heap.size + 1) _ [2 * (n + ls.length + k) + 2, X, Y] #[.int .i64 (2 * ((n : Int) + ls.length + k) + 2), .int .i64 X, .int .i64 Y] 3 _ ((hI.alloc _).alloc _) (alloc_blk (wz.alloc _) _ _ (by simp)) (by simp [ivals]) rfl (by simp; omega) (by omega) (all3 (by omega) hX1 hY1) (by simp) hal).mono ?_; rintro e w4 ⟨rfl, hI4, b4⟩)
                  go_roundw
                  case rel => exact ⟨k + 1, by omega, by go_num, by go_num, by rw [HX.out]; exact hI4, ((bel.alloc (by omega) _).alloc (by simp; omega) _).trans b4⟩
                  case measure => simp [intOf]; omega
                · obtain rfl : k = gs.length := by omega
                  go_wp2_with (go_at_call 34; refine (builderString (w.heap.size + 1) (w.heap.size + 1) _ _ hI (by omega)).mono ?_; rintro e w5 ⟨rfl, b5⟩)
                  go_ret
                  exact ⟨by rw [HT.out]; rfl, belw.trans (b5.mono (by omega))⟩

end Go.Proofs.YtgpaajdfkekjiaaDoor

namespace Go.Proofs.YtgpaajdfkekjiaaDoor
open Go.RowKit

def wrS (n : Int) (ls gs : List (Int × Int)) (os : List Int) : List UInt8 := if rightB n ls gs os then txt n.toNat ls gs os else []
def wrE (n : Int) (ls gs : List (Int × Int)) (os : List Int) : Int := if rightB n ls gs os then 0 else 2

set_option maxHeartbeats 1000000 in
set_option maxRecDepth 100000 in
theorem write_all (n : Int) (la ga oa : Option Addr) (lc gc oc : Nat) (ls gs : List (Int × Int)) (os : List Int) (w : World)
    (hL : PairsAt w la ls) (hG : PairsAt w ga gs) (hO : IntsAt w oa os) :
    Calls Tryd.prog 9 #[.agg #[.int .i64 n, .slice la ls.length lc, .slice ga gs.length gc, .slice oa os.length oc]] w fun e w' =>
      e = .returned (.tuple #[.string ⟨(wrS n ls gs os).toArray⟩, .int .i64 (wrE n ls gs os)]) ∧ Below w.heap.size w w' := by
  have bel0 : Below w.heap.size w (w.alloc (.cells #[.int .i64 n, .slice la ls.length lc, .slice ga gs.length gc, .slice oa os.length oc] 26)) := (Below.refl _ _).alloc (Nat.le_refl _) _
  have hL0 := hL.below bel0
  have hG0 := hG.below bel0
  have hO0 := hO.below bel0
  cases hr : rightB n ls gs os
  · have e1 : wrS n ls gs os = [] := by simp [wrS, hr]
    have e2 : wrE n ls gs os = 2 := by simp [wrE, hr]
    rw [e1, e2]
    go_enter Tryd.func9, Tryd.ntmps9
    go_wp2_with (go_at_call 18; refine (right_is _ hL0 hG0 hO0 hr).mono ?_; rintro e w1 ⟨rfl, b1⟩)
    go_ret2
    exact ⟨rfl, bel0.trans (b1.mono (by simp))⟩
  · have e2 : wrE n ls gs os = 0 := by simp [wrE, hr]
    have e1 : wrS n ls gs os = txt n.toNat ls gs os := by simp [wrS, hr]
    rw [e1, e2]
    clear e1 e2
    obtain ⟨N, rfl⟩ := Int.eq_ofNat_of_zero_le (rightB_pos hr).1.1
    have s := small_of hr
    have hT : ((N : Int)).toNat = N := rfl
    rw [hT]
    go_enter Tryd.func9, Tryd.ntmps9
    go_wp2_with (first | (go_at_call 18; refine (right_is _ hL0 hG0 hO0 hr).mono ?_; rintro e w1 ⟨rfl, b1⟩; have c1 := (bcell b1).1; have y1 : w.heap.size < w1.heap.size := Nat.lt_of_lt_of_le (by simp) b1.size) | (go_at_call 19; refine (write_ok N la ga oa lc gc oc ls gs os _ (hL0.below b1) (hG0.below b1) (hO0.below b1) s).mono ?_; rintro e w2 ⟨rfl, b2⟩))
    go_ret2
    exact ⟨rfl, (bel0.trans (b1.mono (by simp))).trans (b2.mono (by omega))⟩

end Go.Proofs.YtgpaajdfkekjiaaDoor
