/-
  The walk of the statement Slimmer of package latchkeep. Written by wip/mk_slimmerw.py.
-/
import Derived.Test.YtgpaajdfkekjiaaDoorToldW
import Derived.Test.YtgpaajdfkekjiaaDoorMSlmG
import Derived.Test.YtgpaajdfkekjiaaDoorMWr
namespace Go.Proofs.YtgpaajdfkekjiaaDoor
open Go.RowKit
attribute [local go_sem ↓] Go.wp_at_zero Go.wp_at_succ

set_option maxHeartbeats 4000000 in
set_option maxRecDepth 100000 in
theorem slimmer_walk (r0 n m : Int) (la ga oa ia : Option Addr) (lc gc oc ic : Nat) (rl rg : List (Int × Int)) (ro : List Int) (raw : List Int) (w : World) (hdb : TabDB w)
    (hml : ro.length ≤ maxLen) (hmr : raw.length ≤ maxLen) (hn : FitsK n) (hm : FitsK m)
    (hL : PairsAt w la rl) (hG : PairsAt w ga rg) (hO : IntsAt w oa ro) (hR : IntsAt w ia raw) (hw : ∀ x ∈ raw, -9223372036854775808 ≤ x ∧ x ≤ 9223372036854775807)
    (fL : ∀ i, i < rl.length → FitsK (rl.getD i (0, 0)).1 ∧ FitsK (rl.getD i (0, 0)).2) (fG : ∀ i, i < rg.length → FitsK (rg.getD i (0, 0)).1 ∧ FitsK (rg.getD i (0, 0)).2) (fO : ∀ i, i < ro.length → FitsK (ro.getD i 0)) :
    Calls Tryd.prog 4 #[.agg #[.int .i64 r0, .slice la rl.length lc, .slice ga rg.length gc, .slice oa ro.length oc], .int .i64 n, .int .i64 m, .slice ia raw.length ic] w fun e w' => e = .returned (.bool true) ∧ Below w.heap.size w w' := by
  obtain ⟨hn1, hn2⟩ := hn
  obtain ⟨hm1, hm2⟩ := hm
  obtain ⟨N, hN⟩ := Int.eq_ofNat_of_zero_le (pickI_bd n 5 (by omega)).1
  obtain ⟨O, hO'⟩ := Int.eq_ofNat_of_zero_le (pickI_bd m 5 (by omega)).1
  have hN4 : N ≤ 4 := by have := (pickI_bd n 5 (by omega)).2; omega
  have hO4 : O ≤ 4 := by have := (pickI_bd m 5 (by omega)).2; omega
  have HN : Hid (pickI n 5 = N) := hN
  have HM : Hid (pickI m 5 = O) := hO'
  clear hN hO'
  obtain ⟨LA, hLA⟩ : ∃ LA, LA = cL N rl rg := ⟨_, rfl⟩
  obtain ⟨GA, hGA⟩ : ∃ GA, GA = cG N rl rg := ⟨_, rfl⟩
  obtain ⟨OA, hOA⟩ : ∃ OA, OA = cO N rl rg ro O := ⟨_, rfl⟩
  have rA : rightB N LA GA OA = true := by rw [hLA, hGA, hOA]; exact c_right N rl rg ro O hN4 hO4
  have cAny : ∀ W, Below w.heap.size w W → Calls Tryd.prog 7 #[.agg #[.int .i64 r0, .slice la rl.length lc, .slice ga rg.length gc, .slice oa ro.length oc], .int .i64 N, .int .i64 O] W (CircRes W N LA GA OA) := fun W hW => by
    rw [hLA, hGA, hOA]
    exact circuit_any r0 la ga oa lc gc oc rl rg ro N O W hN4 hO4 hml (hL.below hW) (hG.below hW) (hO.below hW) fL fG fO
  clear hLA hGA hOA fL fG fO hL hG hO hml
  have HCA := hideK cAny
  clear cAny
  have rN := rightN_iff.1 rA
  obtain ⟨LB, hLB⟩ : ∃ LB, LB = slL N LA GA OA := ⟨_, rfl⟩
  obtain ⟨GB, hGB⟩ : ∃ GB, GB = slG N LA GA OA := ⟨_, rfl⟩
  obtain ⟨OB, hOB⟩ : ∃ OB, OB = slO N LA GA OA := ⟨_, rfl⟩
  have rB : rightB N LB GB OB = true := by rw [hLB, hGB, hOB]; exact rightN_iff.2 (slim_right rN)
  have again : slL N LB GB OB = LB ∧ slG N LB GB OB = GB ∧ slO N LB GB OB = OB := by rw [hLB, hGB, hOB]; exact slim_again rN
  have lLB : LB.length = LA.length := by rw [hLB]; exact slL_len
  have lOB : OB.length = OA.length := by rw [hOB]; exact slO_len
  have lGB : GB.length ≤ GA.length := by rw [hGB, slG_len]; exact Nat.le_trans slStay_le slKept_le
  have says : ∀ (s : Bool) (r : Nat) (t : List Nat) (d : Nat), (duo N LA GA OA LB GB OB).Says s r t d → s = true := by rw [hLB, hGB, hOB]; exact fun s r t d h => slim_says rN h
  have outE : ∀ ins : List Int, outs N LB GB OB ins = outs N LA GA OA ins := fun ins => by
    rw [hLB, hGB, hOB]
    unfold outs
    exact List.map_congr_left fun k _ => slim_outAt rN ins k
  have HSL := hideK hLB
  have HSG := hideK hGB
  have HSO := hideK hOB
  have SAYS := hideK says
  have OUTE := hideK outE
  have LLB := hideK lLB
  have LOB := hideK lOB
  have AGAIN := hideK again
  have hGI : (GB.length : Int) ≤ (GA.length : Int) := by omega
  have hLI : ((LB.length : Int) == (LA.length : Int)) = true := by simp [lLB]
  clear hLB hGB hOB says outE lLB lOB lGB again rN
  obtain ⟨W1, hW1⟩ : ∃ W1, W1 = w.alloc (.cells #[.int .i64 r0, .slice la rl.length lc, .slice ga rg.length gc, .slice oa ro.length oc] 26) := ⟨_, rfl⟩
  have b1 : Below w.heap.size w W1 := by rw [hW1]; exact (Below.refl _ _).alloc (Nat.le_refl _) _
  have s1 : W1.heap.size = w.heap.size + 1 := by rw [hW1]; simp
  have xA : W1.heap[w.heap.size]? = some (.cells #[.int .i64 r0, .slice la rl.length lc, .slice ga rg.length gc, .slice oa ro.length oc] 26 (0, 0)) := by rw [hW1]; exact alloc_blk _ _ _ rfl
  go_enter Tryd.func4, Tryd.ntmps4
  go_upto_region 1 with fail
  rw [← hW1]
  clear hW1
  go_wp2_with fail
  refine (ran_any W1).mono ?_
  rintro e W2 ⟨rfl, b2⟩
  have B2 : Below w.heap.size w W2 := b1.trans (b2.mono b1.size)
  have s2 := b2.size
  have yA := (b2.block w.heap.size (by omega)).trans xA
  have HS1 := hideK s1
  have hw2 : w.heap.size < W2.heap.size := by omega
  clear xA s1 b1 b2
  go_wp2_with fail
  refine (pick_to _ hn1 hn2 (by omega) (by omega) HN.out).mono ?_
  rintro e w' ⟨rfl, hw'⟩
  obtain rfl := hw'.symm
  go_upto_region 3 with fail
  go_cut [11] (fun p wx => MadeC W2 wx p N LA GA OA)
  case first =>
    obtain ⟨u0, u1, u2, u3⟩ := cells4S yA
    have y0 : w.heap.size < W2.heap.size := by omega
    have cA := HCA.out W2.drew B2.drew
    have bZ : Below W2.heap.size W2 (W2.alloc (.cells #[.int .i64 0, .slice none 0 0, .slice none 0 0, .slice none 0 0] 26)).drew := ((Below.refl _ _).alloc (Nat.le_refl _) _).drew
    have cB := HCA.out (W2.alloc (.cells #[.int .i64 0, .slice none 0 0, .slice none 0 0, .slice none 0 0] 26)).drew (B2.trans (bZ.mono B2.size))
    have yBB : W2.heap.size < (W2.alloc (.cells #[.int .i64 0, .slice none 0 0, .slice none 0 0, .slice none 0 0] 26)).drew.heap.size := by show W2.heap.size < (W2.heap.push _).size; simp
    have y1 : w.heap.size < (W2.alloc (.cells #[.int .i64 0, .slice none 0 0, .slice none 0 0, .slice none 0 0] 26)).drew.heap.size := by show w.heap.size < (W2.heap.push _).size; simp; omega
    go_region_held3 (fun w' => w'.cell? ⟨w.heap.size, 0, none⟩ = some (.int .i64 r0) ∧ w'.cell? ⟨w.heap.size, 1, none⟩ = some (.slice la rl.length lc) ∧ w'.cell? ⟨w.heap.size, 2, none⟩ = some (.slice ga rg.length gc) ∧ w'.cell? ⟨w.heap.size, 3, none⟩ = some (.slice oa ro.length oc))
      (first | (with_reducible exact ⟨(kk 0).trans u0, (kk 1).trans u1, (kk 2).trans u2, (kk 3).trans u3⟩) | (with_reducible exact ⟨(keep_chainT (Nat.ne_of_lt y0) _ _ _ _ 0).trans ((kk 0).trans u0), (keep_chainT (Nat.ne_of_lt y0) _ _ _ _ 1).trans ((kk 1).trans u1), (keep_chainT (Nat.ne_of_lt y0) _ _ _ _ 2).trans ((kk 2).trans u2), (keep_chainT (Nat.ne_of_lt y0) _ _ _ _ 3).trans ((kk 3).trans u3)⟩) | (with_reducible exact ⟨(World.cell?_alloc_past _ _ _ zz).trans ((kk 0).trans u0), (World.cell?_alloc_past _ _ _ zz).trans ((kk 1).trans u1), (World.cell?_alloc_past _ _ _ zz).trans ((kk 2).trans u2), (World.cell?_alloc_past _ _ _ zz).trans ((kk 3).trans u3)⟩) | go_keep)
      (first | (go_at_call 8; refine (pick_to _ hm1 hm2 (by omega) (by omega) HM.out).mono ?_; rintro e w' ⟨rfl, rfl⟩) | (go_at_call 7; (with_reducible refine cA.mono ?_); rintro e w1 ⟨lv, gv, ov, rfl, oL, oG, oO, d1, d2, d3, bb⟩; obtain ⟨la', ln', lc', rfl⟩ := own_slice oL; obtain ⟨ga', gn', gc', rfl⟩ := own_slice oG; obtain ⟨oa', on', oc', rfl⟩ := own_slice oO; obtain ⟨cc, ff⟩ := bcell bb; have zz : w.heap.size < w1.heap.size := Nat.lt_of_lt_of_le y0 bb.size; have kk : ∀ i, w1.cell? ⟨w.heap.size, i, none⟩ = W2.cell? ⟨w.heap.size, i, none⟩ := (fun i => cc _ _ y0); have AA := made_after (w := W2) (N := N) (V := W2.drew) ((Below.refl _ _).drew) oL oG oO d1 d2 d3 bb) | (go_at_call 7; (with_reducible refine cB.mono ?_); rintro e w1 ⟨lv, gv, ov, rfl, oL, oG, oO, d1, d2, d3, bb⟩; obtain ⟨la', ln', lc', rfl⟩ := own_slice oL; obtain ⟨ga', gn', gc', rfl⟩ := own_slice oG; obtain ⟨oa', on', oc', rfl⟩ := own_slice oO; obtain ⟨cc, ff⟩ := bcell bb; have zz : w.heap.size < w1.heap.size := Nat.lt_of_lt_of_le y1 bb.size; have kk : ∀ i, w1.cell? ⟨w.heap.size, i, none⟩ = W2.cell? ⟨w.heap.size, i, none⟩ := (fun i => (cc _ _ y1).trans (World.cell?_alloc_past _ _ _ y0)); have BB := made_ahead (w := W2) (N := N) (Nat.le_refl _) (show W2.heap.size < (W2.alloc (.cells #[.int .i64 0, .slice none 0 0, .slice none 0 0, .slice none 0 0] 26)).drew.heap.size from yBB) bZ (heap_alloc_new _ _) oL oG oO d1 d2 d3 bb))
    all_goals
      go_wp2
      go_meet
      case rel => first | exact AA | exact BB
  case rest =>
    obtain ⟨bA, la1, lc1, ga1, gc1, oa1, oc1, rfl, hbA, boxA, pLa, pGa, pOa, b3⟩ := hcut.read
    clear hcut
    have B3 : Below w.heap.size w wc := B2.trans (b3.mono B2.size)
    have s3 := b3.size
    obtain ⟨W3, hW3⟩ : ∃ W3, W3 = wc := ⟨_, rfl⟩
    subst hW3
    clear yA HCA HS1 b3
    obtain ⟨A0, A1, A2, A3⟩ := cells4S boxA
    have hS := slim_ok N la1 ga1 oa1 lc1 gc1 oc1 LA GA OA W3 rA pLa pGa pOa
    rw [← HSL.out, ← HSG.out, ← HSO.out] at hS
    go_wp2_with fail
    refine hS.mono ?_
    rintro e W4 ⟨lv, gv, ov, rfl, oL, oG, oO, _, _, _, b4⟩
    clear hS A0 A1 A2 A3
    obtain ⟨lb1, ld1, rfl, pLb⟩ := pairs_own oL rfl
    obtain ⟨gb1, gd1, rfl, pGb⟩ := pairs_own oG rfl
    obtain ⟨ob1, od1, rfl, pOb⟩ := ints_own oO rfl
    clear oL oG oO
    have s4 := b4.size
    go_upto_region 5 with fail
    obtain ⟨W5, hW5⟩ : ∃ W5, W5 = W4.alloc (.cells #[.int .i64 N, .slice lb1 LB.length ld1, .slice gb1 GB.length gd1, .slice ob1 OB.length od1] 26) := ⟨_, rfl⟩
    have s5 : W5.heap.size = W4.heap.size + 1 := by rw [hW5]; simp
    have b45 : Below W4.heap.size W4 W5 := by rw [hW5]; exact (Below.refl _ _).alloc (Nat.le_refl _) _
    have boxB : W5.heap[W4.heap.size]? = some (.cells #[.int .i64 N, .slice lb1 LB.length ld1, .slice gb1 GB.length gd1, .slice ob1 OB.length od1] 26 (0, 0)) := by rw [hW5]; exact heap_alloc_new _ _
    rw [← hW5]
    clear hW5
    have b35 : Below W3.heap.size W3 W5 := b4.trans (b45.mono b4.size)
    have B5 : Below w.heap.size w W5 := B3.trans (b35.mono B3.size)
    have pLb := pLb.below b45
    have pGb := pGb.below b45
    have pOb := pOb.below b45
    obtain ⟨D0, D1, D2, D3⟩ := cells4S boxB
    have hS := slim_ok N lb1 gb1 ob1 ld1 gd1 od1 LB GB OB W5 rB pLb pGb pOb
    rw [AGAIN.out.1, AGAIN.out.2.1, AGAIN.out.2.2] at hS
    go_wp2_with fail
    refine hS.mono ?_
    rintro e W6 ⟨lv, gv, ov, rfl, oL, oG, oO, _, _, _, b6⟩
    clear hS D0 D1 D2 D3
    obtain ⟨lx1, lx2, rfl, pLx⟩ := pairs_own oL rfl
    obtain ⟨gx1, gx2, rfl, pGx⟩ := pairs_own oG rfl
    obtain ⟨ox1, ox2, rfl, pOx⟩ := ints_own oO rfl
    clear oL oG oO
    have s6 := b6.size
    go_upto_region 6 with fail
    obtain ⟨W7, hW7⟩ : ∃ W7, W7 = W6.alloc (.cells #[.int .i64 N, .slice lx1 LB.length lx2, .slice gx1 GB.length gx2, .slice ox1 OB.length ox2] 26) := ⟨_, rfl⟩
    have s7 : W7.heap.size = W6.heap.size + 1 := by rw [hW7]; simp
    have b67 : Below W6.heap.size W6 W7 := by rw [hW7]; exact (Below.refl _ _).alloc (Nat.le_refl _) _
    have boxX : W7.heap[W6.heap.size]? = some (.cells #[.int .i64 N, .slice lx1 LB.length lx2, .slice gx1 GB.length gx2, .slice ox1 OB.length ox2] 26 (0, 0)) := by rw [hW7]; exact heap_alloc_new _ _
    rw [← hW7]
    clear hW7
    have b57 : Below W5.heap.size W5 W7 := b6.trans (b67.mono b6.size)
    have b37 : Below W3.heap.size W3 W7 := b35.trans (b57.mono b35.size)
    have B7 : Below w.heap.size w W7 := B5.trans (b57.mono B5.size)
    have boxB7 := (b57.block W4.heap.size (by omega)).trans boxB
    have pLx := pLx.below b67
    have pGx := pGx.below b67
    have pOx := pOx.below b67
    have pLb := pLb.below b57
    have pGb := pGb.below b57
    have pOb := pOb.below b57
    obtain ⟨T, hT⟩ : ∃ T, T = txt N LB GB OB := ⟨_, rfl⟩
    have eS : wrS N LB GB OB = T := by rw [hT]; simp [wrS, rB]
    have eE : wrE N LB GB OB = 0 := by simp [wrE, rB]
    have HT := hideK hT
    clear hT
    have wA := write_all N lb1 gb1 ob1 ld1 gd1 od1 LB GB OB W7 pLb pGb pOb
    rw [eS, eE] at wA
    obtain ⟨D0, D1, D2, D3⟩ := cells4S boxB7
    have HES := hideK eS
    have HEE := hideK eE
    clear eS eE boxB
    go_wp2_with fail
    refine wA.mono ?_
    rintro e W8 ⟨rfl, b8⟩
    clear wA D0 D1 D2 D3
    have b78 := b8
    have B8 : Below w.heap.size w W8 := B7.trans (b8.mono B7.size)
    have boxX8 := (b8.block W6.heap.size (by omega)).trans boxX
    have wA := write_all N lx1 gx1 ox1 lx2 gx2 ox2 LB GB OB W8 (pLx.below b8) (pGx.below b8) (pOx.below b8)
    rw [HES.out, HEE.out] at wA
    obtain ⟨D0, D1, D2, D3⟩ := cells4S boxX8
    clear boxX
    go_wp2_with fail
    refine wA.mono ?_
    rintro e W9 ⟨rfl, b9⟩
    clear wA D0 D1 D2 D3 boxX8 pLx pGx pOx
    have b79 : Below W7.heap.size W7 W9 := b78.trans (b9.mono b78.size)
    have b39 : Below W3.heap.size W3 W9 := b37.trans (b79.mono b37.size)
    have B9 : Below w.heap.size w W9 := B7.trans (b79.mono B7.size)
    have boxA9 := (b39.block bA (by omega)).trans boxA
    have boxB9 := (b79.block W4.heap.size (by omega)).trans boxB7
    have pLa := pLa.below b39
    have pGa := pGa.below b39
    have pOa := pOa.below b39
    have pLb := pLb.below b79
    have pGb := pGb.below b79
    have pOb := pOb.below b79
    clear boxA boxB7 b8 b9 b78 b79 b39 b37 b57 b67 b6 b35 b45 b4
    go_upto_region 8 with fail
    have hIn := inputs_any N ia ic raw W9.drew hN4 hmr (hR.below (B9).drew) hw
    obtain ⟨A0, A1, A2, A3⟩ := cells4S boxA9
    refine wp_region_noPanic ?_
    refine wp_region_any (by kernel_rfl) ?_
    simp only [List.size_toArray, List.length_cons, List.length_nil, Nat.zero_add, Nat.reduceAdd]
    refine wpAny_of_held (S := fun w' => w'.cell? ⟨bA, 0, none⟩ = some (.int .i64 N) ∧ w'.cell? ⟨bA, 1, none⟩ = some (.slice la1 LA.length lc1) ∧ w'.cell? ⟨bA, 2, none⟩ = some (.slice ga1 GA.length gc1) ∧ w'.cell? ⟨bA, 3, none⟩ = some (.slice oa1 OA.length oc1)) _ _ _ _ ?_
    have hHeld : (fun w' : World => w'.cell? ⟨bA, 0, none⟩ = some (.int .i64 N) ∧ w'.cell? ⟨bA, 1, none⟩ = some (.slice la1 LA.length lc1) ∧ w'.cell? ⟨bA, 2, none⟩ = some (.slice ga1 GA.length gc1) ∧ w'.cell? ⟨bA, 3, none⟩ = some (.slice oa1 OA.length oc1)) W9.drew := ⟨A0, A1, A2, A3⟩
    refine wpAnyH_take (i := 0) (v := ?_) (by simp only [List.getElem?_toArray, List.getElem?_cons_zero]; rfl) (by kernel_rfl) (by kernel_rfl) (by kernel_rfl) (fun _ _ _ h => h) (Or.inl ⟨by rfl, ?_⟩) hHeld ?_
    rotate_left 1
    · (intro w0 hSw; (try dsimp only at hSw); go_simp; try (with_reducible rfl))
    simp only [Act.put, List.setIfInBounds_toArray, List.set_cons_zero, List.set_cons_succ]
    refine wpAnyH_take (i := 1) (v := ?_) (by simp only [List.getElem?_toArray, List.getElem?_cons_succ, List.getElem?_cons_zero]; rfl) (by kernel_rfl) (by kernel_rfl) (by kernel_rfl) (fun _ _ _ h => h) (Or.inl ⟨by rfl, ?_⟩) hHeld ?_
    rotate_left 1
    · (intro w0 hSw; (try dsimp only at hSw); go_simp; try (with_reducible rfl))
    simp only [Act.put, List.setIfInBounds_toArray, List.set_cons_zero, List.set_cons_succ]
    refine wpAnyH_take (i := 2) (v := ?_) (by simp only [List.getElem?_toArray, List.getElem?_cons_succ, List.getElem?_cons_zero]; rfl) (by kernel_rfl) (by kernel_rfl) (by kernel_rfl) (fun _ _ _ h => h) (Or.inl ⟨by rfl, ?_⟩) hHeld ?_
    rotate_left 1
    · (intro w0 hSw; (try dsimp only at hSw); go_simp; try (with_reducible rfl))
    simp only [Act.put, List.setIfInBounds_toArray, List.set_cons_zero, List.set_cons_succ]
    refine wpAnyH_ready (rs := [3]) (by kernel_rfl) (by simp) (AllReadyH.cons (by simp only [List.getElem?_toArray, List.getElem?_cons_succ, List.getElem?_cons_zero]; rfl) (fun K hK => ?_) AllReadyH.nil)
    go_simp
    refine hIn.mono ?_
    rintro e W10 ⟨v, rfl, own, b10⟩
    clear hIn
    obtain ⟨u, hu⟩ : ∃ u, u = insN N raw (min raw.length 50) := ⟨_, rfl⟩
    have hul : u.length ≤ 50 := by rw [hu, insN_len _ _ _ (by omega)]; omega
    have hval : ∀ i ∈ u, i < 2 ^ N := by rw [hu]; exact insN_lt N raw _
    have hin := zs_in hul hval
    have HU := hideK hu
    clear hu hval
    have own' : W10.ownsRow W9.drew.heap.size 3 1 v (zs u).length (ivs (zs u)) := by
      rw [HU.out, insN_zs, ins50_len _ _ _ (by omega)]
      exact own
    clear own
    obtain ⟨iu1, iuc1, hv, _, pU⟩ := own_intlist own'
    rw [zs_len] at hv
    subst hv
    clear own'
    have b9W10 : Below W9.heap.size W9 W10 := ((Below.refl W9.heap.size W9).drew).trans b10
    have hb1 : ∀ i, W10.cell? ⟨bA, i, none⟩ = W9.cell? ⟨bA, i, none⟩ := fun i => b9W10.cell (p := ⟨bA, i, none⟩) (Array.getElem?_eq_some_iff.1 boxA9).1
    refine hK.out _ _ ⟨(hb1 0).trans A0, (hb1 1).trans A1, (hb1 2).trans A2, (hb1 3).trans A3⟩ (fun hHeld => ?_)
    clear hK K
    have rR := run_ok N la1 ga1 oa1 iu1 lc1 gc1 oc1 iuc1 LA GA OA (zs u) W10 (by rw [zs_len]; unfold maxLen; omega) (pLa.below b9W10) (pGa.below b9W10) (pOa.below b9W10) pU rA hin
    rw [zs_len] at rR
    try simp only [Act.put, List.setIfInBounds_toArray, List.set_cons_zero, List.set_cons_succ]
    refine wpAnyH_ready (rs := [4]) (by kernel_rfl) (by simp) (AllReadyH.cons (by simp only [List.getElem?_toArray, List.getElem?_cons_succ, List.getElem?_cons_zero]; rfl) (fun K hK => ?_) AllReadyH.nil)
    go_simp
    refine rR.mono ?_
    rintro e W11 ⟨g1, rfl, own1, b11⟩
    clear rR pU
    have hb2 : ∀ i, W11.cell? ⟨bA, i, none⟩ = W9.cell? ⟨bA, i, none⟩ := fun i => (b11.cell (p := ⟨bA, i, none⟩) (Nat.lt_of_lt_of_le (Array.getElem?_eq_some_iff.1 boxA9).1 b9W10.size)).trans (hb1 i)
    refine hK.out _ _ ⟨(hb2 0).trans A0, (hb2 1).trans A1, (hb2 2).trans A2, (hb2 3).trans A3⟩ (fun hHeld => ?_)
    clear hK K
    try simp only [Act.put, List.setIfInBounds_toArray, List.set_cons_zero, List.set_cons_succ]
    refine wpAnyH_take (i := 5) (v := ?_) (by simp only [List.getElem?_toArray, List.getElem?_cons_succ, List.getElem?_cons_zero]; rfl) (by kernel_rfl) (by kernel_rfl) (by kernel_rfl) (fun _ _ _ h => h) (Or.inl ⟨by rfl, ?_⟩) hHeld ?_
    rotate_left 1
    · (intro w0 hSw; (try dsimp only at hSw); go_simp; try (with_reducible rfl))
    simp only [Act.put, List.setIfInBounds_toArray, List.set_cons_zero, List.set_cons_succ]
    refine wpAnyH_take (i := 6) (v := ?_) (by simp only [List.getElem?_toArray, List.getElem?_cons_succ, List.getElem?_cons_zero]; rfl) (by kernel_rfl) (by kernel_rfl) (by kernel_rfl) (fun _ _ _ h => h) (Or.inl ⟨by rfl, ?_⟩) hHeld ?_
    rotate_left 1
    · (intro w0 hSw; (try dsimp only at hSw); go_simp; try (with_reducible rfl))
    simp only [Act.put, List.setIfInBounds_toArray, List.set_cons_zero, List.set_cons_succ]
    refine wpAnyH_take (i := 7) (v := ?_) (by simp only [List.getElem?_toArray, List.getElem?_cons_succ, List.getElem?_cons_zero]; rfl) (by kernel_rfl) (by kernel_rfl) (by kernel_rfl) (fun _ _ _ h => h) (Or.inl ⟨by rfl, ?_⟩) hHeld ?_
    rotate_left 1
    · (intro w0 hSw; (try dsimp only at hSw); go_simp; try (with_reducible rfl))
    simp only [Act.put, List.setIfInBounds_toArray, List.set_cons_zero, List.set_cons_succ]
    refine wpAnyH_take (i := 8) (v := ?_) (by simp only [List.getElem?_toArray, List.getElem?_cons_succ, List.getElem?_cons_zero]; rfl) (by kernel_rfl) (by kernel_rfl) (by kernel_rfl) (fun _ _ _ h => h) (Or.inl ⟨by rfl, ?_⟩) hHeld ?_
    rotate_left 1
    · (intro w0 hSw; (try dsimp only at hSw); go_simp; try (with_reducible rfl))
    simp only [Act.put, List.setIfInBounds_toArray, List.set_cons_zero, List.set_cons_succ]
    refine wpAnyH_take (i := 9) (v := ?_) (by simp only [List.getElem?_toArray, List.getElem?_cons_succ, List.getElem?_cons_zero]; rfl) (by kernel_rfl) (by kernel_rfl) (by kernel_rfl) (fun _ _ _ h => h) (Or.inl ⟨by rfl, ?_⟩) hHeld ?_
    rotate_left 1
    · (intro w0 hSw; (try dsimp only at hSw); go_simp; try (with_reducible rfl))
    simp only [Act.put, List.setIfInBounds_toArray, List.set_cons_zero, List.set_cons_succ]
    refine wpAnyH_done (by kernel_rfl) ?_ _
    refine NoPanic.normal ?_
    clear hHeld A0 A1 A2 A3 hb1 hb2
    have b911 : Below W9.heap.size W9 W11 := b9W10.trans (b11.mono b9W10.size)
    have B11 : Below w.heap.size w W11 := B9.trans (b911.mono B9.size)
    have boxA11 := (b911.block bA (Array.getElem?_eq_some_iff.1 boxA9).1).trans boxA9
    have boxB11 := (b911.block W4.heap.size (Array.getElem?_eq_some_iff.1 boxB9).1).trans boxB9
    have pLa := pLa.below b911
    have pGa := pGa.below b911
    have pOa := pOa.below b911
    have pLb := pLb.below b911
    have pGb := pGb.below b911
    have pOb := pOb.below b911
    have s11 := b911.size
    clear b9W10 boxA9 boxB9 b911
    go_upto_region 9 with fail
    have hIn := inputs_any N ia ic raw W11.drew hN4 hmr (hR.below (B11).drew) hw
    obtain ⟨A0, A1, A2, A3⟩ := cells4S boxB11
    refine wp_region_noPanic ?_
    refine wp_region_any (by kernel_rfl) ?_
    simp only [List.size_toArray, List.length_cons, List.length_nil, Nat.zero_add, Nat.reduceAdd]
    refine wpAny_of_held (S := fun w' => w'.cell? ⟨W4.heap.size, 0, none⟩ = some (.int .i64 N) ∧ w'.cell? ⟨W4.heap.size, 1, none⟩ = some (.slice lb1 LB.length ld1) ∧ w'.cell? ⟨W4.heap.size, 2, none⟩ = some (.slice gb1 GB.length gd1) ∧ w'.cell? ⟨W4.heap.size, 3, none⟩ = some (.slice ob1 OB.length od1)) _ _ _ _ ?_
    have hHeld : (fun w' : World => w'.cell? ⟨W4.heap.size, 0, none⟩ = some (.int .i64 N) ∧ w'.cell? ⟨W4.heap.size, 1, none⟩ = some (.slice lb1 LB.length ld1) ∧ w'.cell? ⟨W4.heap.size, 2, none⟩ = some (.slice gb1 GB.length gd1) ∧ w'.cell? ⟨W4.heap.size, 3, none⟩ = some (.slice ob1 OB.length od1)) W11.drew := ⟨A0, A1, A2, A3⟩
    refine wpAnyH_take (i := 0) (v := ?_) (by simp only [List.getElem?_toArray, List.getElem?_cons_zero]; rfl) (by kernel_rfl) (by kernel_rfl) (by kernel_rfl) (fun _ _ _ h => h) (Or.inl ⟨by rfl, ?_⟩) hHeld ?_
    rotate_left 1
    · (intro w0 hSw; (try dsimp only at hSw); go_simp; try (with_reducible rfl))
    simp only [Act.put, List.setIfInBounds_toArray, List.set_cons_zero, List.set_cons_succ]
    refine wpAnyH_take (i := 1) (v := ?_) (by simp only [List.getElem?_toArray, List.getElem?_cons_succ, List.getElem?_cons_zero]; rfl) (by kernel_rfl) (by kernel_rfl) (by kernel_rfl) (fun _ _ _ h => h) (Or.inl ⟨by rfl, ?_⟩) hHeld ?_
    rotate_left 1
    · (intro w0 hSw; (try dsimp only at hSw); go_simp; try (with_reducible rfl))
    simp only [Act.put, List.setIfInBounds_toArray, List.set_cons_zero, List.set_cons_succ]
    refine wpAnyH_take (i := 2) (v := ?_) (by simp only [List.getElem?_toArray, List.getElem?_cons_succ, List.getElem?_cons_zero]; rfl) (by kernel_rfl) (by kernel_rfl) (by kernel_rfl) (fun _ _ _ h => h) (Or.inl ⟨by rfl, ?_⟩) hHeld ?_
    rotate_left 1
    · (intro w0 hSw; (try dsimp only at hSw); go_simp; try (with_reducible rfl))
    simp only [Act.put, List.setIfInBounds_toArray, List.set_cons_zero, List.set_cons_succ]
    refine wpAnyH_ready (rs := [3]) (by kernel_rfl) (by simp) (AllReadyH.cons (by simp only [List.getElem?_toArray, List.getElem?_cons_succ, List.getElem?_cons_zero]; rfl) (fun K hK => ?_) AllReadyH.nil)
    go_simp
    refine hIn.mono ?_
    rintro e W12 ⟨v, rfl, own, b12⟩
    clear hIn
    have own' : W12.ownsRow W11.drew.heap.size 3 1 v (zs u).length (ivs (zs u)) := by
      rw [HU.out, insN_zs, ins50_len _ _ _ (by omega)]
      exact own
    clear own
    obtain ⟨iu2, iuc2, hv, _, pU⟩ := own_intlist own'
    rw [zs_len] at hv
    subst hv
    clear own'
    have b9W12 : Below W11.heap.size W11 W12 := ((Below.refl W11.heap.size W11).drew).trans b12
    have hb1 : ∀ i, W12.cell? ⟨W4.heap.size, i, none⟩ = W11.cell? ⟨W4.heap.size, i, none⟩ := fun i => b9W12.cell (p := ⟨W4.heap.size, i, none⟩) (Array.getElem?_eq_some_iff.1 boxB11).1
    refine hK.out _ _ ⟨(hb1 0).trans A0, (hb1 1).trans A1, (hb1 2).trans A2, (hb1 3).trans A3⟩ (fun hHeld => ?_)
    clear hK K
    have rR := run_ok N lb1 gb1 ob1 iu2 ld1 gd1 od1 iuc2 LB GB OB (zs u) W12 (by rw [zs_len]; unfold maxLen; omega) (pLb.below b9W12) (pGb.below b9W12) (pOb.below b9W12) pU rB hin
    rw [zs_len] at rR
    try simp only [Act.put, List.setIfInBounds_toArray, List.set_cons_zero, List.set_cons_succ]
    refine wpAnyH_ready (rs := [4]) (by kernel_rfl) (by simp) (AllReadyH.cons (by simp only [List.getElem?_toArray, List.getElem?_cons_succ, List.getElem?_cons_zero]; rfl) (fun K hK => ?_) AllReadyH.nil)
    go_simp
    refine rR.mono ?_
    rintro e W13 ⟨g2, rfl, own2, b13⟩
    clear rR pU
    have hb2 : ∀ i, W13.cell? ⟨W4.heap.size, i, none⟩ = W11.cell? ⟨W4.heap.size, i, none⟩ := fun i => (b13.cell (p := ⟨W4.heap.size, i, none⟩) (Nat.lt_of_lt_of_le (Array.getElem?_eq_some_iff.1 boxB11).1 b9W12.size)).trans (hb1 i)
    refine hK.out _ _ ⟨(hb2 0).trans A0, (hb2 1).trans A1, (hb2 2).trans A2, (hb2 3).trans A3⟩ (fun hHeld => ?_)
    clear hK K
    try simp only [Act.put, List.setIfInBounds_toArray, List.set_cons_zero, List.set_cons_succ]
    refine wpAnyH_take (i := 5) (v := ?_) (by simp only [List.getElem?_toArray, List.getElem?_cons_succ, List.getElem?_cons_zero]; rfl) (by kernel_rfl) (by kernel_rfl) (by kernel_rfl) (fun _ _ _ h => h) (Or.inl ⟨by rfl, ?_⟩) hHeld ?_
    rotate_left 1
    · (intro w0 hSw; (try dsimp only at hSw); go_simp; try (with_reducible rfl))
    simp only [Act.put, List.setIfInBounds_toArray, List.set_cons_zero, List.set_cons_succ]
    refine wpAnyH_take (i := 6) (v := ?_) (by simp only [List.getElem?_toArray, List.getElem?_cons_succ, List.getElem?_cons_zero]; rfl) (by kernel_rfl) (by kernel_rfl) (by kernel_rfl) (fun _ _ _ h => h) (Or.inl ⟨by rfl, ?_⟩) hHeld ?_
    rotate_left 1
    · (intro w0 hSw; (try dsimp only at hSw); go_simp; try (with_reducible rfl))
    simp only [Act.put, List.setIfInBounds_toArray, List.set_cons_zero, List.set_cons_succ]
    refine wpAnyH_take (i := 7) (v := ?_) (by simp only [List.getElem?_toArray, List.getElem?_cons_succ, List.getElem?_cons_zero]; rfl) (by kernel_rfl) (by kernel_rfl) (by kernel_rfl) (fun _ _ _ h => h) (Or.inl ⟨by rfl, ?_⟩) hHeld ?_
    rotate_left 1
    · (intro w0 hSw; (try dsimp only at hSw); go_simp; try (with_reducible rfl))
    simp only [Act.put, List.setIfInBounds_toArray, List.set_cons_zero, List.set_cons_succ]
    refine wpAnyH_take (i := 8) (v := ?_) (by simp only [List.getElem?_toArray, List.getElem?_cons_succ, List.getElem?_cons_zero]; rfl) (by kernel_rfl) (by kernel_rfl) (by kernel_rfl) (fun _ _ _ h => h) (Or.inl ⟨by rfl, ?_⟩) hHeld ?_
    rotate_left 1
    · (intro w0 hSw; (try dsimp only at hSw); go_simp; try (with_reducible rfl))
    simp only [Act.put, List.setIfInBounds_toArray, List.set_cons_zero, List.set_cons_succ]
    refine wpAnyH_take (i := 9) (v := ?_) (by simp only [List.getElem?_toArray, List.getElem?_cons_succ, List.getElem?_cons_zero]; rfl) (by kernel_rfl) (by kernel_rfl) (by kernel_rfl) (fun _ _ _ h => h) (Or.inl ⟨by rfl, ?_⟩) hHeld ?_
    rotate_left 1
    · (intro w0 hSw; (try dsimp only at hSw); go_simp; try (with_reducible rfl))
    simp only [Act.put, List.setIfInBounds_toArray, List.set_cons_zero, List.set_cons_succ]
    refine wpAnyH_done (by kernel_rfl) ?_ _
    refine NoPanic.normal ?_
    clear hHeld A0 A1 A2 A3 hb1 hb2
    have b1113 : Below W11.heap.size W11 W13 := b9W12.trans (b13.mono b9W12.size)
    have B13 : Below w.heap.size w W13 := B11.trans (b1113.mono B11.size)
    have boxA13 := (b1113.block bA (Array.getElem?_eq_some_iff.1 boxA11).1).trans boxA11
    have boxB13 := (b1113.block W4.heap.size (Array.getElem?_eq_some_iff.1 boxB11).1).trans boxB11
    have s13 := b1113.size
    have hC := cmp_ok N LA GA OA LB GB OB la1 ga1 oa1 lb1 gb1 ob1 lc1 gc1 oc1 ld1 gd1 od1 W13 rA rB LOB.out (hdb.below B13) (pLa.below b1113) (pGa.below b1113) (pOa.below b1113) (pLb.below b1113) (pGb.below b1113) (pOb.below b1113)
    obtain ⟨A0, A1, A2, A3⟩ := cells4S boxA13
    obtain ⟨D0, D1, D2, D3⟩ := cells4S boxB13
    have hol : (outs N LA GA OA (zs u)).length = u.length := by rw [outs_len, zs_len]
    have hol2 : (outs N LB GB OB (zs u)).length = u.length := by rw [outs_len, zs_len]
    have pX : IntsAt W13 (some ⟨g1, 0, none⟩) (zs (outs N LA GA OA (zs u))) := (own_zs (cap := u.length) (by rw [hol]; exact own1)).below b1113
    have pY : IntsAt W13 (some ⟨g2, 0, none⟩) (zs (outs N LB GB OB (zs u))) := own_zs (cap := u.length) (by rw [hol2]; exact own2)
    clear own1 own2 b9W12 boxA11 boxB11
    have HOL := hideK hol
    have HOL2 := hideK hol2
    clear hol hol2
    go_wp2_with fail
    refine hC.mono ?_
    rintro e W14 ⟨same, reached, trace, d, ta, tc, hs, he, ho, h256, b14⟩
    clear hC A0 A1 A2 A3 D0 D1 D2 D3
    have hsame := SAYS.out _ _ _ _ hs
    subst hsame
    clear hs
    obtain ⟨X, hX⟩ : ∃ X : Int, X = ((if true then 0 else tzN d : Nat) : Int) := ⟨_, rfl⟩
    rw [← hX] at he
    subst he
    clear hX ho
    have s14 := b14.size
    go_upto_region 11 with fail
    obtain ⟨W15, hW15⟩ : ∃ W15, W15 = W14.alloc (.cells #[.bool true, .int .i64 reached, .slice ta trace.length tc, .int .i64 X] 42) := ⟨_, rfl⟩
    have b1415 : Below W14.heap.size W14 W15 := by rw [hW15]; exact (Below.refl _ _).alloc (Nat.le_refl _) _
    have s15 : W15.heap.size = W14.heap.size + 1 := by rw [hW15]; simp
    have xR : W15.heap[W14.heap.size]? = some (.cells #[.bool true, .int .i64 reached, .slice ta trace.length tc, .int .i64 X] 42 (0, 0)) := by rw [hW15]; exact heap_alloc_new _ _
    rw [← hW15]
    clear hW15
    have b1315 : Below W13.heap.size W13 W15 := b14.trans (b1415.mono b14.size)
    have B15 : Below w.heap.size w W15 := B13.trans (b1315.mono B13.size)
    have heq : zs (outs N LA GA OA (zs u)) = zs (outs N LB GB OB (zs u)) := by rw [OUTE.out]
    have hSI := sameInts_any (some ⟨g1, 0, none⟩) (some ⟨g2, 0, none⟩) u.length u.length _ _ W15 (by rw [zs_len, HOL.out]; unfold maxLen; omega) (by rw [zs_len, HOL2.out]; unfold maxLen; omega) (pX.below b1315) (pY.below b1315)
    rw [zs_len, zs_len, HOL.out, HOL2.out, decide_eq_true heq] at hSI
    clear heq
    go_wp2_with fail
    refine hSI.mono ?_
    rintro e W16 ⟨rfl, b16⟩
    clear hSI
    have b1316 : Below W13.heap.size W13 W16 := b1315.trans (b16.mono b1315.size)
    obtain ⟨A0, A1, A2, A3⟩ := cells4S ((b1316.block bA (Array.getElem?_eq_some_iff.1 boxA13).1).trans boxA13)
    obtain ⟨D0, D1, D2, D3⟩ := cells4S ((b1316.block W4.heap.size (Array.getElem?_eq_some_iff.1 boxB13).1).trans boxB13)
    obtain ⟨F0, F1, F2, F3⟩ := cells4S ((b16.block W14.heap.size (Array.getElem?_eq_some_iff.1 xR).1).trans xR)
    go_wp2
    go_ret
    exact ⟨rfl, B15.trans (b16.mono B15.size)⟩

end Go.Proofs.YtgpaajdfkekjiaaDoor
