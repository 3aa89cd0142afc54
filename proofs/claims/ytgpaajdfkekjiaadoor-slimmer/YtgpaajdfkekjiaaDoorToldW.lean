/-
  The walk of the statement Told of package latchkeep.
-/
import Derived.Test.YtgpaajdfkekjiaaDoorShown
import Derived.Test.YtgpaajdfkekjiaaDoorKAll
import Derived.Test.YtgpaajdfkekjiaaDoorIns
import Derived.Deep.DeepCutAuto
import Derived.Deep.RegionHeld3
namespace Go.Proofs.YtgpaajdfkekjiaaDoor
open Go.RowKit
attribute [local go_sem ↓] Go.wp_at_zero Go.wp_at_succ

theorem keep_boxT {w1 : World} {b b' : Nat} (hne : b' ≠ b) (v0 v1 v2 v3 : Value) (i : Nat) : (box4 w1 b v0 v1 v2 v3).cell? ⟨b', i, none⟩ = w1.cell? ⟨b', i, none⟩ := by
  apply World.cell?_of_block
  unfold box4
  show ((((w1.setCell _ _).setCell _ _).setCell _ _).setCell _ _).heap[b']? = w1.heap[b']?
  rw [Deep.blk_setCell_other _ _ _ _ hne, Deep.blk_setCell_other _ _ _ _ hne, Deep.blk_setCell_other _ _ _ _ hne, Deep.blk_setCell_other _ _ _ _ hne]

theorem keep_chainT {w1 : World} {b b' : Nat} (hne : b' ≠ b) (v0 v1 v2 v3 : Value) (i : Nat) : ((((w1.setCell ⟨b, 0, none⟩ v0).setCell ⟨b, 1, none⟩ v1).setCell ⟨b, 2, none⟩ v2).setCell ⟨b, 3, none⟩ v3).cell? ⟨b', i, none⟩ = w1.cell? ⟨b', i, none⟩ := keep_boxT hne v0 v1 v2 v3 i

/-- The inputs as numbers. -/
def insN (n : Nat) (raw : List Int) (k : Nat) : List Nat := (ins50 n raw k).map Int.toNat
theorem pow_cast (n : Nat) : ((2 ^ n : Nat) : Int) = (2 : Int) ^ n := by simp
theorem insN_zs (n : Nat) (raw : List Int) (k : Nat) : zs (insN n raw k) = ins50 n raw k := by
  unfold zs insN
  rw [List.map_map]
  conv => rhs; rw [← List.map_id (ins50 n raw k)]
  refine List.map_congr_left fun x hx => ?_
  obtain ⟨c, _, rfl⟩ := List.mem_map.1 hx
  have hp : (1 : Int) ≤ 2 ^ n := by have := Nat.two_pow_pos n; have := pow_cast n; omega
  have := (pickI_bd c (2 ^ n) (by omega)).1
  simp only [Function.comp, id]
  omega
theorem insN_lt (n : Nat) (raw : List Int) (k : Nat) : ∀ i ∈ insN n raw k, i < 2 ^ n := fun i hi => by
  obtain ⟨x, hx, rfl⟩ := List.mem_map.1 hi
  obtain ⟨c, _, rfl⟩ := List.mem_map.1 hx
  have hp : (1 : Int) ≤ 2 ^ n := by have := Nat.two_pow_pos n; have := pow_cast n; omega
  have := pickI_bd c (2 ^ n) (by omega)
  have := pow_cast n
  omega
theorem insN_len (n : Nat) (raw : List Int) (k : Nat) (h : k ≤ raw.length) : (insN n raw k).length = k := by unfold insN; rw [List.length_map, ins50_len n raw k h]
/-- Numbers that are owned, read. -/
theorem own_zs {w : World} {base cap : Nat} {a : Option Addr} {u : List Nat} (h : w.ownsRow base 3 1 (.slice a u.length cap) u.length (ivals u)) : IntsAt w a (zs u) := by
  have e : ivals u = ivs (zs u) := by simp [ivals, ivs, zs]
  have h2 : w.ownsRow base 3 1 (.slice a u.length cap) (zs u).length (ivs (zs u)) := by rw [← e, zs_len]; exact h
  obtain ⟨a', c', hv, _, hh⟩ := own_intlist h2
  simp only [Value.slice.injEq] at hv
  obtain ⟨rfl, _, _⟩ := hv
  exact hh
theorem outs_eq {n : Nat} {la ga : List (Int × Int)} {oa : List Int} {lb gb : List (Int × Int)} {ob : List Int} {u : List Nat} (h : ∀ k, k < u.length → outAt n la ga oa (zs u) k = outAt n lb gb ob (zs u) k) : outs n la ga oa (zs u) = outs n lb gb ob (zs u) := by
  unfold outs
  refine List.map_congr_left fun k hk => ?_
  rw [List.mem_range, zs_len] at hk
  exact h k hk

set_option maxHeartbeats 4000000 in
set_option maxRecDepth 100000 in
theorem told_walk (r0 q0 n m : Int) (la ga oa lb gb ob ia : Option Addr) (lc gc oc ld gd od ic : Nat) (rl rg : List (Int × Int)) (ro : List Int) (sl sg : List (Int × Int)) (so : List Int) (raw : List Int) (w : World) (hdb : TabDB w)
    (hml : ro.length ≤ maxLen) (hms : so.length ≤ maxLen) (hmr : raw.length ≤ maxLen) (hn : FitsK n) (hm : FitsK m)
    (hL : PairsAt w la rl) (hG : PairsAt w ga rg) (hO : IntsAt w oa ro) (hLs : PairsAt w lb sl) (hGs : PairsAt w gb sg) (hOs : IntsAt w ob so) (hR : IntsAt w ia raw) (hw : ∀ x ∈ raw, -9223372036854775808 ≤ x ∧ x ≤ 9223372036854775807)
    (fL : ∀ i, i < rl.length → FitsK (rl.getD i (0, 0)).1 ∧ FitsK (rl.getD i (0, 0)).2) (fG : ∀ i, i < rg.length → FitsK (rg.getD i (0, 0)).1 ∧ FitsK (rg.getD i (0, 0)).2) (fO : ∀ i, i < ro.length → FitsK (ro.getD i 0))
    (eL : ∀ i, i < sl.length → FitsK (sl.getD i (0, 0)).1 ∧ FitsK (sl.getD i (0, 0)).2) (eG : ∀ i, i < sg.length → FitsK (sg.getD i (0, 0)).1 ∧ FitsK (sg.getD i (0, 0)).2) (eO : ∀ i, i < so.length → FitsK (so.getD i 0)) :
    Calls Tryd.prog 5 #[.agg #[.int .i64 r0, .slice la rl.length lc, .slice ga rg.length gc, .slice oa ro.length oc], .agg #[.int .i64 q0, .slice lb sl.length ld, .slice gb sg.length gd, .slice ob so.length od], .int .i64 n, .int .i64 m, .slice ia raw.length ic] w fun e w' => e = .returned (.bool true) ∧ Below w.heap.size w w' := by
  obtain ⟨hn1, hn2⟩ := hn
  obtain ⟨hm1, hm2⟩ := hm
  obtain ⟨N, hN⟩ := Int.eq_ofNat_of_zero_le (pickI_bd n 5 (by omega)).1
  obtain ⟨O, hO'⟩ := Int.eq_ofNat_of_zero_le (pickI_bd m 5 (by omega)).1
  have hN4 : N ≤ 4 := by have := (pickI_bd n 5 (by omega)).2; omega
  have hO4 : O ≤ 4 := by have := (pickI_bd m 5 (by omega)).2; omega
  have HN : Hid (pickI n 5 = N) := hN
  have HM : Hid (pickI m 5 = O) := hO'
  clear hN hO'
  obtain ⟨LA, hLA⟩ : ∃ LA, LA = cL N rl rg := ⟨_, rfl⟩
  obtain ⟨GA, hGA⟩ : ∃ GA, GA = cG N rl rg := ⟨_, rfl⟩
  obtain ⟨OA, hOA⟩ : ∃ OA, OA = cO N rl rg ro O := ⟨_, rfl⟩
  obtain ⟨LB, hLB⟩ : ∃ LB, LB = cL N sl sg := ⟨_, rfl⟩
  obtain ⟨GB, hGB⟩ : ∃ GB, GB = cG N sl sg := ⟨_, rfl⟩
  obtain ⟨OB, hOB⟩ : ∃ OB, OB = cO N sl sg so O := ⟨_, rfl⟩
  have hoa : OA.length = O := by rw [hOA]; exact cO_len _ _ _ _ _
  have hob : OB.length = O := by rw [hOB]; exact cO_len _ _ _ _ _
  have rA : rightB N LA GA OA = true := by rw [hLA, hGA, hOA]; exact c_right N rl rg ro O hN4 hO4
  have rB : rightB N LB GB OB = true := by rw [hLB, hGB, hOB]; exact c_right N sl sg so O hN4 hO4
  have cAny : ∀ W, Below w.heap.size w W → Calls Tryd.prog 7 #[.agg #[.int .i64 r0, .slice la rl.length lc, .slice ga rg.length gc, .slice oa ro.length oc], .int .i64 N, .int .i64 O] W (CircRes W N LA GA OA) := fun W hW => by
    rw [hLA, hGA, hOA]
    exact circuit_any r0 la ga oa lc gc oc rl rg ro N O W hN4 hO4 hml (hL.below hW) (hG.below hW) (hO.below hW) fL fG fO
  have cBny : ∀ W, Below w.heap.size w W → Calls Tryd.prog 7 #[.agg #[.int .i64 q0, .slice lb sl.length ld, .slice gb sg.length gd, .slice ob so.length od], .int .i64 N, .int .i64 O] W (CircRes W N LB GB OB) := fun W hW => by
    rw [hLB, hGB, hOB]
    exact circuit_any q0 lb gb ob ld gd od sl sg so N O W hN4 hO4 hms (hLs.below hW) (hGs.below hW) (hOs.below hW) eL eG eO
  have hoa4 : OA.length ≤ 4 := by omega
  have hobl : OB.length = OA.length := by omega
  have HOBL := hideK hobl
  clear hobl hoa hob hLA hGA hOA hLB hGB hOB fL fG fO eL eG eO hL hG hO hLs hGs hOs hml hms
  have HCA := hideK cAny
  have HCB := hideK cBny
  clear cAny cBny
  obtain ⟨W1, hW1⟩ : ∃ W1, W1 = (w.alloc (.cells #[.int .i64 r0, .slice la rl.length lc, .slice ga rg.length gc, .slice oa ro.length oc] 26)).alloc (.cells #[.int .i64 q0, .slice lb sl.length ld, .slice gb sg.length gd, .slice ob so.length od] 26) := ⟨_, rfl⟩
  have b1 : Below w.heap.size w W1 := by rw [hW1]; exact ((Below.refl _ _).alloc (Nat.le_refl _) _).alloc (by simp) _
  have s1 : W1.heap.size = w.heap.size + 2 := by rw [hW1]; simp
  have xA : W1.heap[w.heap.size]? = some (.cells #[.int .i64 r0, .slice la rl.length lc, .slice ga rg.length gc, .slice oa ro.length oc] 26 (0, 0)) := by rw [hW1]; exact alloc_old (alloc_blk _ _ _ rfl)
  have xB : W1.heap[w.heap.size + 1]? = some (.cells #[.int .i64 q0, .slice lb sl.length ld, .slice gb sg.length gd, .slice ob so.length od] 26 (0, 0)) := by rw [hW1]; exact alloc_blk _ _ _ (by simp)
  go_enter Tryd.func5, Tryd.ntmps5
  go_upto_region 1 with fail
  rw [← hW1]
  clear hW1
  go_wp2_with fail
  refine (ran_any W1).mono ?_
  rintro e W2 ⟨rfl, b2⟩
  have B2 : Below w.heap.size w W2 := b1.trans (b2.mono b1.size)
  have s2 := b2.size
  have yA := (b2.block w.heap.size (by omega)).trans xA
  have yB := (b2.block (w.heap.size + 1) (by omega)).trans xB
  have HS1 := hideK s1
  clear xA xB s1 b1 b2
  have hw2 : w.heap.size + 1 < W2.heap.size := by have := HS1.out; omega
  go_wp2_with fail
  refine (pick_to _ hn1 hn2 (by omega) (by omega) HN.out).mono ?_
  rintro e w' ⟨rfl, hw'⟩
  obtain rfl := hw'.symm
  go_upto_region 3 with fail
  go_cut [13] (fun p wx => MadeC W2 wx p N LA GA OA)
  case first =>
    obtain ⟨u0, u1, u2, u3⟩ := cells4S yA
    have y0 : w.heap.size < W2.heap.size := by omega
    have cA := HCA.out W2.drew B2.drew
    have bZ : Below W2.heap.size W2 (W2.alloc (.cells #[.int .i64 0, .slice none 0 0, .slice none 0 0, .slice none 0 0] 26)).drew := ((Below.refl _ _).alloc (Nat.le_refl _) _).drew
    have cB := HCA.out (W2.alloc (.cells #[.int .i64 0, .slice none 0 0, .slice none 0 0, .slice none 0 0] 26)).drew (B2.trans (bZ.mono B2.size))
    have yBB : W2.heap.size < (W2.alloc (.cells #[.int .i64 0, .slice none 0 0, .slice none 0 0, .slice none 0 0] 26)).drew.heap.size := by show W2.heap.size < (W2.heap.push _).size; simp
    have y1 : w.heap.size < (W2.alloc (.cells #[.int .i64 0, .slice none 0 0, .slice none 0 0, .slice none 0 0] 26)).drew.heap.size := by show w.heap.size < (W2.heap.push _).size; simp; omega
    go_region_held3 (fun w' => w'.cell? ⟨w.heap.size, 0, none⟩ = some (.int .i64 r0) ∧ w'.cell? ⟨w.heap.size, 1, none⟩ = some (.slice la rl.length lc) ∧ w'.cell? ⟨w.heap.size, 2, none⟩ = some (.slice ga rg.length gc) ∧ w'.cell? ⟨w.heap.size, 3, none⟩ = some (.slice oa ro.length oc))
      (first | (with_reducible exact ⟨(kk 0).trans u0, (kk 1).trans u1, (kk 2).trans u2, (kk 3).trans u3⟩) | (with_reducible exact ⟨(keep_chainT (Nat.ne_of_lt y0) _ _ _ _ 0).trans ((kk 0).trans u0), (keep_chainT (Nat.ne_of_lt y0) _ _ _ _ 1).trans ((kk 1).trans u1), (keep_chainT (Nat.ne_of_lt y0) _ _ _ _ 2).trans ((kk 2).trans u2), (keep_chainT (Nat.ne_of_lt y0) _ _ _ _ 3).trans ((kk 3).trans u3)⟩) | (with_reducible exact ⟨(World.cell?_alloc_past _ _ _ zz).trans ((kk 0).trans u0), (World.cell?_alloc_past _ _ _ zz).trans ((kk 1).trans u1), (World.cell?_alloc_past _ _ _ zz).trans ((kk 2).trans u2), (World.cell?_alloc_past _ _ _ zz).trans ((kk 3).trans u3)⟩) | go_keep)
      (first | (go_at_call 8; refine (pick_to _ hm1 hm2 (by omega) (by omega) HM.out).mono ?_; rintro e w' ⟨rfl, rfl⟩) | (go_at_call 7; (with_reducible refine cA.mono ?_); rintro e w1 ⟨lv, gv, ov, rfl, oL, oG, oO, d1, d2, d3, bb⟩; obtain ⟨la', ln', lc', rfl⟩ := own_slice oL; obtain ⟨ga', gn', gc', rfl⟩ := own_slice oG; obtain ⟨oa', on', oc', rfl⟩ := own_slice oO; obtain ⟨cc, ff⟩ := bcell bb; have zz : w.heap.size < w1.heap.size := Nat.lt_of_lt_of_le y0 bb.size; have kk : ∀ i, w1.cell? ⟨w.heap.size, i, none⟩ = W2.cell? ⟨w.heap.size, i, none⟩ := (fun i => cc _ _ y0); have AA := made_after (w := W2) (N := N) (V := W2.drew) ((Below.refl _ _).drew) oL oG oO d1 d2 d3 bb) | (go_at_call 7; (with_reducible refine cB.mono ?_); rintro e w1 ⟨lv, gv, ov, rfl, oL, oG, oO, d1, d2, d3, bb⟩; obtain ⟨la', ln', lc', rfl⟩ := own_slice oL; obtain ⟨ga', gn', gc', rfl⟩ := own_slice oG; obtain ⟨oa', on', oc', rfl⟩ := own_slice oO; obtain ⟨cc, ff⟩ := bcell bb; have zz : w.heap.size < w1.heap.size := Nat.lt_of_lt_of_le y1 bb.size; have kk : ∀ i, w1.cell? ⟨w.heap.size, i, none⟩ = W2.cell? ⟨w.heap.size, i, none⟩ := (fun i => (cc _ _ y1).trans (World.cell?_alloc_past _ _ _ y0)); have BB := made_ahead (w := W2) (N := N) (Nat.le_refl _) (show W2.heap.size < (W2.alloc (.cells #[.int .i64 0, .slice none 0 0, .slice none 0 0, .slice none 0 0] 26)).drew.heap.size from yBB) bZ (heap_alloc_new _ _) oL oG oO d1 d2 d3 bb))
    all_goals
      go_wp2
      go_meet
      case rel => first | exact AA | exact BB
  case rest =>
    obtain ⟨bA, la1, lc1, ga1, gc1, oa1, oc1, rfl, hbA, boxA, pLa, pGa, pOa, b3⟩ := hcut.read
    clear hcut
    have B3 : Below w.heap.size w wc := B2.trans (b3.mono B2.size)
    have zB := (b3.block (w.heap.size + 1) hw2).trans yB
    have s3 := b3.size
    obtain ⟨W3, hW3⟩ : ∃ W3, W3 = wc := ⟨_, rfl⟩
    subst hW3
    go_upto_region 4 with fail
    go_cut [14] (fun p wx => MadeC W3 wx p N LB GB OB)
    case first =>
      obtain ⟨u0, u1, u2, u3⟩ := cells4S zB
      have y0 : w.heap.size + 1 < W3.heap.size := by omega
      have cA := HCB.out W3.drew B3.drew
      have bZ : Below W3.heap.size W3 (W3.alloc (.cells #[.int .i64 0, .slice none 0 0, .slice none 0 0, .slice none 0 0] 26)).drew := ((Below.refl _ _).alloc (Nat.le_refl _) _).drew
      have cB := HCB.out (W3.alloc (.cells #[.int .i64 0, .slice none 0 0, .slice none 0 0, .slice none 0 0] 26)).drew (B3.trans (bZ.mono B3.size))
      have yBB : W3.heap.size < (W3.alloc (.cells #[.int .i64 0, .slice none 0 0, .slice none 0 0, .slice none 0 0] 26)).drew.heap.size := by show W3.heap.size < (W3.heap.push _).size; simp
      have y1 : w.heap.size + 1 < (W3.alloc (.cells #[.int .i64 0, .slice none 0 0, .slice none 0 0, .slice none 0 0] 26)).drew.heap.size := by show w.heap.size + 1 < (W3.heap.push _).size; simp; omega
      go_region_held3 (fun w' => w'.cell? ⟨w.heap.size + 1, 0, none⟩ = some (.int .i64 q0) ∧ w'.cell? ⟨w.heap.size + 1, 1, none⟩ = some (.slice lb sl.length ld) ∧ w'.cell? ⟨w.heap.size + 1, 2, none⟩ = some (.slice gb sg.length gd) ∧ w'.cell? ⟨w.heap.size + 1, 3, none⟩ = some (.slice ob so.length od))
        (first | (with_reducible exact ⟨(kk 0).trans u0, (kk 1).trans u1, (kk 2).trans u2, (kk 3).trans u3⟩) | (with_reducible exact ⟨(keep_chainT (Nat.ne_of_lt y0) _ _ _ _ 0).trans ((kk 0).trans u0), (keep_chainT (Nat.ne_of_lt y0) _ _ _ _ 1).trans ((kk 1).trans u1), (keep_chainT (Nat.ne_of_lt y0) _ _ _ _ 2).trans ((kk 2).trans u2), (keep_chainT (Nat.ne_of_lt y0) _ _ _ _ 3).trans ((kk 3).trans u3)⟩) | (with_reducible exact ⟨(World.cell?_alloc_past _ _ _ zz).trans ((kk 0).trans u0), (World.cell?_alloc_past _ _ _ zz).trans ((kk 1).trans u1), (World.cell?_alloc_past _ _ _ zz).trans ((kk 2).trans u2), (World.cell?_alloc_past _ _ _ zz).trans ((kk 3).trans u3)⟩) | go_keep)
        (first | (go_at_call 8; refine (pick_to _ hm1 hm2 (by omega) (by omega) HM.out).mono ?_; rintro e w' ⟨rfl, rfl⟩) | (go_at_call 7; (with_reducible refine cA.mono ?_); rintro e w1 ⟨lv, gv, ov, rfl, oL, oG, oO, d1, d2, d3, bb⟩; obtain ⟨la', ln', lc', rfl⟩ := own_slice oL; obtain ⟨ga', gn', gc', rfl⟩ := own_slice oG; obtain ⟨oa', on', oc', rfl⟩ := own_slice oO; obtain ⟨cc, ff⟩ := bcell bb; have zz : w.heap.size + 1 < w1.heap.size := Nat.lt_of_lt_of_le y0 bb.size; have kk : ∀ i, w1.cell? ⟨w.heap.size + 1, i, none⟩ = W3.cell? ⟨w.heap.size + 1, i, none⟩ := (fun i => cc _ _ y0); have AA := made_after (w := W3) (N := N) (V := W3.drew) ((Below.refl _ _).drew) oL oG oO d1 d2 d3 bb) | (go_at_call 7; (with_reducible refine cB.mono ?_); rintro e w1 ⟨lv, gv, ov, rfl, oL, oG, oO, d1, d2, d3, bb⟩; obtain ⟨la', ln', lc', rfl⟩ := own_slice oL; obtain ⟨ga', gn', gc', rfl⟩ := own_slice oG; obtain ⟨oa', on', oc', rfl⟩ := own_slice oO; obtain ⟨cc, ff⟩ := bcell bb; have zz : w.heap.size + 1 < w1.heap.size := Nat.lt_of_lt_of_le y1 bb.size; have kk : ∀ i, w1.cell? ⟨w.heap.size + 1, i, none⟩ = W3.cell? ⟨w.heap.size + 1, i, none⟩ := (fun i => (cc _ _ y1).trans (World.cell?_alloc_past _ _ _ y0)); have BB := made_ahead (w := W3) (N := N) (Nat.le_refl _) (show W3.heap.size < (W3.alloc (.cells #[.int .i64 0, .slice none 0 0, .slice none 0 0, .slice none 0 0] 26)).drew.heap.size from yBB) bZ (heap_alloc_new _ _) oL oG oO d1 d2 d3 bb))
      all_goals
        go_wp2
        go_meet
        case rel => first | exact AA | exact BB
    case rest =>
      obtain ⟨bB, lb1, ld1, gb1, gd1, ob1, od1, rfl, hbB, boxB, pLb, pGb, pOb, b4⟩ := hcut.read
      clear hcut
      obtain ⟨W4, hW4⟩ : ∃ W4, W4 = wc := ⟨_, rfl⟩
      subst hW4
      have B4 : Below w.heap.size w W4 := B3.trans (b4.mono B3.size)
      have s4 := b4.size
      have aA := (b4.block bA hbA).trans boxA
      clear yA yB zB HCA HCB boxA
      have pLa := pLa.below b4
      have pGa := pGa.below b4
      have pOa := pOa.below b4
      obtain ⟨A0, A1, A2, A3⟩ := cells4S aA
      obtain ⟨D0, D1, D2, D3⟩ := cells4S boxB
      have hC := cmp_ok N LA GA OA LB GB OB la1 ga1 oa1 lb1 gb1 ob1 lc1 gc1 oc1 ld1 gd1 od1 W4 rA rB HOBL.out (hdb.below B4) pLa pGa pOa pLb pGb pOb
      go_wp2_with fail
      refine hC.mono ?_
      rintro e W5 ⟨same, reached, trace, d, ta, tc, hs, he, ho, h256, b5⟩
      clear hC A0 A1 A2 A3 D0 D1 D2 D3
      obtain ⟨X, hX⟩ : ∃ X : Int, X = ((if same then 0 else tzN d : Nat) : Int) := ⟨_, rfl⟩
      rw [← hX] at he
      subst he
      have HX := hideK hX
      have HS := hideK hs
      clear hX hs
      have s5 := b5.size
      have pT := own_zs ho
      clear ho
      go_upto_region 6 with fail
      obtain ⟨W6, hW6⟩ : ∃ W6, W6 = W5.alloc (.cells #[.bool same, .int .i64 reached, .slice ta trace.length tc, .int .i64 X] 42) := ⟨_, rfl⟩
      have s6 : W6.heap.size = W5.heap.size + 1 := by rw [hW6]; simp
      have b56 : Below W5.heap.size W5 W6 := by rw [hW6]; exact (Below.refl _ _).alloc (Nat.le_refl _) _
      have xR : W6.heap[W5.heap.size]? = some (.cells #[.bool same, .int .i64 reached, .slice ta trace.length tc, .int .i64 X] 42 (0, 0)) := by rw [hW6]; exact heap_alloc_new _ _
      rw [← hW6]
      clear hW6
      have b46 : Below W4.heap.size W4 W6 := b5.trans (b56.mono b5.size)
      have B6 : Below w.heap.size w W6 := B4.trans (b46.mono B4.size)
      obtain ⟨A0, A1, A2, A3⟩ := cells4S ((b46.block bA (by omega)).trans aA)
      obtain ⟨D0, D1, D2, D3⟩ := cells4S ((b46.block bB hbB).trans boxB)
      have hC := cmp_ok N LB GB OB LA GA OA lb1 gb1 ob1 la1 ga1 oa1 ld1 gd1 od1 lc1 gc1 oc1 W6 rB rA HOBL.out.symm (hdb.below B6) (pLb.below b46) (pGb.below b46) (pOb.below b46) (pLa.below b46) (pGa.below b46) (pOa.below b46)
      go_wp2_with fail
      refine hC.mono ?_
      rintro e W7 ⟨same2, reached2, trace2, d2, ta2, tc2, hs2, he, ho, h256', b67⟩
      clear hC A0 A1 A2 A3 D0 D1 D2 D3 h256'
      obtain ⟨e1, e2, e3, e4⟩ := Duo.says_one (duo_K hN4) HS.out (says_swap hs2)
      clear hs2
      subst e1 e2 e3 e4
      rw [← HX.out] at he
      subst he
      have pT2 := own_zs ho
      clear ho
      have s7 := b67.size
      go_upto_region 7 with fail
      obtain ⟨W8, hW8⟩ : ∃ W8, W8 = W7.alloc (.cells #[.bool same, .int .i64 reached, .slice ta2 trace.length tc2, .int .i64 X] 42) := ⟨_, rfl⟩
      have s8 : W8.heap.size = W7.heap.size + 1 := by rw [hW8]; simp
      have b78 : Below W7.heap.size W7 W8 := by rw [hW8]; exact (Below.refl _ _).alloc (Nat.le_refl _) _
      have xS : W8.heap[W7.heap.size]? = some (.cells #[.bool same, .int .i64 reached, .slice ta2 trace.length tc2, .int .i64 X] 42 (0, 0)) := by rw [hW8]; exact heap_alloc_new _ _
      rw [← hW8]
      clear hW8
      have b68 : Below W6.heap.size W6 W8 := b67.trans (b78.mono b67.size)
      have B8 : Below w.heap.size w W8 := B6.trans (b68.mono B6.size)
      have b48 : Below W4.heap.size W4 W8 := b46.trans (b68.mono b46.size)
      have yR := (b68.block W5.heap.size (by omega)).trans xR
      have b58 : Below W5.heap.size W5 W8 := b56.trans (b68.mono b56.size)
      have pT := pT.below b58
      have pT2 := pT2.below b78
      obtain ⟨A0, A1, A2, A3⟩ := cells4S yR
      obtain ⟨D0, D1, D2, D3⟩ := cells4S xS
      have hSI := sameInts_any ta ta2 tc tc2 (zs trace) (zs trace) W8 (by rw [zs_len]; unfold maxLen; omega) (by rw [zs_len]; unfold maxLen; omega) pT pT2
      rw [zs_len, decide_eq_true rfl] at hSI
      clear xR xS
      go_wp2_with fail
      refine hSI.mono ?_
      rintro e W9 ⟨rfl, b9⟩
      clear hSI A0 A1 A2 A3 D0 D1 D2 D3
      have B9 : Below w.heap.size w W9 := B8.trans (b9.mono B8.size)
      have hIn := inputs_any N ia ic raw W9 hN4 hmr (hR.below B9) hw
      go_wp2_with fail
      refine hIn.mono ?_
      rintro e W10 ⟨v, rfl, own, b10⟩
      clear hIn
      obtain ⟨u, hu⟩ : ∃ u, u = insN N raw (min raw.length 50) := ⟨_, rfl⟩
      have own' : W10.ownsRow W9.heap.size 3 1 v (zs u).length (ivs (zs u)) := by
        rw [hu, insN_zs, ins50_len _ _ _ (by omega)]
        exact own
      have hul : u.length ≤ 50 := by rw [hu, insN_len _ _ _ (by omega)]; omega
      have hval : (duo N LA GA OA LB GB OB).Valid u := by rw [hu]; exact insN_lt N raw _
      clear own hu
      obtain ⟨iu, iuc, hv, _, pU⟩ := own_intlist own'
      rw [zs_len] at hv
      subst hv
      clear own'
      have b810 : Below W8.heap.size W8 W10 := b9.trans (b10.mono b9.size)
      have b410 : Below W4.heap.size W4 W10 := b48.trans (b810.mono b48.size)
      have hin := zs_in hul hval
      have rRa := run_ok N la1 ga1 oa1 iu lc1 gc1 oc1 iuc LA GA OA (zs u) W10 (by rw [zs_len]; unfold maxLen; omega) (pLa.below b410) (pGa.below b410) (pOa.below b410) pU rA hin
      rw [zs_len] at rRa
      obtain ⟨A0, A1, A2, A3⟩ := cells4S ((b410.block bA (by omega)).trans aA)
      go_wp2_with fail
      refine rRa.mono ?_
      rintro e W11 ⟨g1, rfl, own1, b11⟩
      clear rRa A0 A1 A2 A3
      have b411 : Below W4.heap.size W4 W11 := b410.trans (b11.mono b410.size)
      have rRb := run_ok N lb1 gb1 ob1 iu ld1 gd1 od1 iuc LB GB OB (zs u) W11 (by rw [zs_len]; unfold maxLen; omega) (pLb.below b411) (pGb.below b411) (pOb.below b411) (pU.below b11) rB hin
      rw [zs_len] at rRb
      obtain ⟨D0, D1, D2, D3⟩ := cells4S ((b411.block bB hbB).trans boxB)
      go_wp2_with fail
      refine rRb.mono ?_
      rintro e W12 ⟨g2, rfl, own2, b12⟩
      clear rRb D0 D1 D2 D3
      have b412 : Below W4.heap.size W4 W12 := b411.trans (b12.mono b411.size)
      have b812 : Below W8.heap.size W8 W12 := (b810.trans (b11.mono b810.size)).trans (b12.mono (b810.trans (b11.mono b810.size)).size)
      have B12 : Below w.heap.size w W12 := B8.trans (b812.mono B8.size)
      obtain ⟨F0, F1, F2, F3⟩ := cells4S ((b812.block W5.heap.size (by omega)).trans yR)
      have cA : ∀ k, k < u.length → W12.cell? ⟨g1, k, none⟩ = some (.int .i64 ((outAt N LA GA OA (zs u) k : Nat) : Int)) := fun k hk => by
        have h1 := own_cells own1 k hk
        rw [Nat.zero_add, outs_get _ _ _ _ _ (by rw [zs_len]; exact hk)] at h1
        exact (World.cell?_of_block (w := W11) (b12.block g1 (own1.lt g1 rfl).2)).trans h1
      have cB : ∀ k, k < u.length → W12.cell? ⟨g2, k, none⟩ = some (.int .i64 ((outAt N LB GB OB (zs u) k : Nat) : Int)) := fun k hk => by
        have h1 := own_cells own2 k hk
        rw [Nat.zero_add, outs_get _ _ _ _ _ (by rw [zs_len]; exact hk)] at h1
        exact h1
      have CA := hideK cA
      have CB := hideK cB
      clear cA cB
      rcases HS.out with ⟨rfl, rfl, rfl, hall, L, hLn, rfl, hLm⟩ | ⟨rfl, rfl, hle, rfl⟩
      · have hX0 : X = 0 := by rw [HX.out]; rfl
        subst hX0
        have hr1 : 1 ≤ L.length := List.length_pos_iff_exists_mem.2 ⟨_, (hLm _).2 ⟨[], Duo.valid_nil _, rfl⟩⟩
        have hr1I : (1 : Int) ≤ (L.length : Int) := by omega
        have hol : (outs N LA GA OA (zs u)).length = u.length := by rw [outs_len, zs_len]
        have hol2 : (outs N LB GB OB (zs u)).length = u.length := by rw [outs_len, zs_len]
        have heq := outs_eq (fun k hk => outs_same hall hval k hk)
        have pX : IntsAt W12 (some ⟨g1, 0, none⟩) (zs (outs N LA GA OA (zs u))) := (own_zs (cap := u.length) (by rw [hol]; exact own1)).below b12
        have pY : IntsAt W12 (some ⟨g2, 0, none⟩) (zs (outs N LB GB OB (zs u))) := own_zs (cap := u.length) (by rw [hol2]; exact own2)
        have hSI := sameInts_any (some ⟨g1, 0, none⟩) (some ⟨g2, 0, none⟩) u.length u.length _ _ W12 (by rw [zs_len, hol]; unfold maxLen; omega) (by rw [zs_len, hol2]; unfold maxLen; omega) pX pY
        rw [zs_len, zs_len, hol, hol2, decide_eq_true (by rw [heq])] at hSI
        clear heq hol hol2 hall hLm
        go_wp2_with fail
        refine hSI.mono ?_
        rintro e W13 ⟨rfl, b13⟩
        clear hSI F0 F1 F2 F3
        have b813 : Below W8.heap.size W8 W13 := b812.trans (b13.mono b812.size)
        obtain ⟨F0, F1, F2, F3⟩ := cells4S ((b813.block W5.heap.size (by omega)).trans yR)
        go_wp2
        go_ret
        exact ⟨rfl, B12.trans (b13.mono B12.size)⟩
      · obtain ⟨T, hT⟩ : ∃ T, T = tzN ((duo N LA GA OA LB GB OB).difL trace) := ⟨_, rfl⟩
        have hXT : X = (T : Int) := by rw [HX.out, hT]; rfl
        subst hXT
        have HT := hideK hT
        have HLE := hideK hle
        clear hT hle HX HS own1 own2
        go_wp2
        go_loopw [26] (fun i wr => ∃ k : Nat, k ≤ u.length ∧ i = .int .i64 k ∧ Below W12.heap.size W12 wr) (fun i _ => u.length - (intOf i).toNat)
        case atStart => exact ⟨0, Nat.zero_le _, rfl, Below.refl _ _⟩
        case round =>
          obtain ⟨k, hk, rfl, bR⟩ := hrel
          have b4r : Below W4.heap.size W4 wr := b412.trans (bR.mono b412.size)
          have b8r : Below W8.heap.size W8 wr := b812.trans (bR.mono b812.size)
          clear F0 F1 F2 F3
          obtain ⟨F0, F1, F2, F3⟩ := cells4S ((b8r.block W5.heap.size (by omega)).trans yR)
          by_cases hk2 : k < u.length
          · have k2 : (k : Int) < (u.length : Int) := by omega
            by_cases hk3 : k + 1 < trace.length
            · have k3 : (k : Int) + 1 < (trace.length : Int) := by omega
              have e := outs_early hN4 HLE.out hval k hk2 hk3
              have l1 : g1 < W12.heap.size := World.block_lt_of_cell? _ _ (CA.out k hk2)
              have l2 : g2 < W12.heap.size := World.block_lt_of_cell? _ _ (CB.out k hk2)
              have cX := (World.cell?_of_block (w := W12) (bR.block g1 l1)).trans (CA.out k hk2)
              have cY := (World.cell?_of_block (w := W12) (bR.block g2 l2)).trans (CB.out k hk2)
              rw [← e] at cY
              obtain ⟨x, hx⟩ : ∃ x, x = outAt N LA GA OA (zs u) k := ⟨_, rfl⟩
              rw [← hx] at cX cY
              clear hx e
              go_wp2
              go_quiet (fail)
              go_wp2
              go_roundw
              case rel => exact ⟨k + 1, by omega, by go_num, by first | exact bR.drew | exact below_drewN bR _⟩
              case measure => simp [intOf]; omega
            · have k3 : ¬ ((k : Int) + 1 < (trace.length : Int)) := by omega
              obtain ⟨A0, A1, A2, A3⟩ := cells4S ((b4r.block bA (by omega)).trans aA)
              obtain ⟨D0, D1, D2, D3⟩ := cells4S ((b4r.block bB hbB).trans boxB)
              have hSh := shown_ok N LA GA OA LB GB OB la1 ga1 oa1 lb1 gb1 ob1 lc1 gc1 oc1 ld1 gd1 od1 trace ta tc wr rA rB hN4 hoa4 HOBL.out HLE.out h256 (pLa.below b4r) (pGa.below b4r) (pOa.below b4r) (pLb.below b4r) (pGb.below b4r) (pOb.below b4r) (pT.below b8r)
              rw [← HT.out] at hSh
              go_wp2_with fail
              refine hSh.mono ?_
              rintro e W14 ⟨rfl, b14⟩
              go_wp2
              go_ret
              exact ⟨rfl, B12.trans ((bR.trans (b14.mono bR.size)).mono B12.size)⟩
          · have k2 : ¬ ((k : Int) < (u.length : Int)) := by omega
            obtain ⟨A0, A1, A2, A3⟩ := cells4S ((b4r.block bA (by omega)).trans aA)
            obtain ⟨D0, D1, D2, D3⟩ := cells4S ((b4r.block bB hbB).trans boxB)
            have hSh := shown_ok N LA GA OA LB GB OB la1 ga1 oa1 lb1 gb1 ob1 lc1 gc1 oc1 ld1 gd1 od1 trace ta tc wr rA rB hN4 hoa4 HOBL.out HLE.out h256 (pLa.below b4r) (pGa.below b4r) (pOa.below b4r) (pLb.below b4r) (pGb.below b4r) (pOb.below b4r) (pT.below b8r)
            rw [← HT.out] at hSh
            go_wp2_with fail
            refine hSh.mono ?_
            rintro e W14 ⟨rfl, b14⟩
            go_wp2
            go_ret
            exact ⟨rfl, B12.trans ((bR.trans (b14.mono bR.size)).mono B12.size)⟩
end Go.Proofs.YtgpaajdfkekjiaaDoor
