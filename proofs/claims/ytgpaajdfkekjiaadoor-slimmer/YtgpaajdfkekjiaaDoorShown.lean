/-
  What shown of package latchkeep answers of the least inputs by which two circuits differ.
-/
import Derived.Test.YtgpaajdfkekjiaaDoorCmpN
import Derived.Test.YtgpaajdfkekjiaaDoorMKeep
namespace Go.Proofs.YtgpaajdfkekjiaaDoor
open Go.RowKit
attribute [local go_sem ↓] Go.wp_at_zero Go.wp_at_succ

theorem tz_all : ∀ d, d < 16 → 1 ≤ d → tzN d < 4 ∧ d / 2 ^ tzN d % 2 = 1 ∧ d &&& (2 ^ tzN d - 1) = 0 ∧ 2 ^ tzN d ≤ d := by decide
theorem least_some {M : Duo} {t : List Nat} (h : M.Least t) : 1 ≤ t.length := by
  rcases snoc_cases t with rfl | ⟨q, i, rfl⟩
  · exact absurd (M.difL_nil) h.2.1
  · simp
theorem zs_in {n : Nat} {t : List Nat} (hl : t.length ≤ 50) (h : ∀ i ∈ t, i < 2 ^ n) : inputsB n (zs t) = true := by
  refine decide_eq_true ⟨by rw [zs_len]; exact hl, fun i hi => ?_⟩
  rw [zs_len] at hi
  have e : (zs t).getD i 0 = ((t.getD i 0 : Nat) : Int) := by simp [zs, hi]
  have hm : t.getD i 0 ∈ t := by rw [List.getD_eq_getElem?_getD, List.getElem?_eq_getElem hi]; exact List.getElem_mem hi
  have h1 := h _ hm
  rw [e]
  refine inB_mk (by omega) ?_
  have : ((2 ^ n : Nat) : Int) = (2 : Int) ^ n := by simp
  omega
theorem outs_get (n : Nat) (ls gs : List (Int × Int)) (os ins : List Int) {k : Nat} (hk : k < ins.length) : (outs n ls gs os ins).getD k 0 = outAt n ls gs os ins k := by simp [outs, hk]
theorem outAt_lt {n : Nat} {ls gs : List (Int × Int)} {os ins : List Int} (h : os.length ≤ 4) (k : Nat) : outAt n ls gs os ins k < 16 := out_lt16 _ h

theorem and_low {d T : Nat} (hT : T < 4) (hd : d < 16) (h : d &&& (2 ^ T - 1) = 0) : (bits .and .i64 (d : Int) (wrap64 (wrap64 (2 ^ T) - 1)) == 0) = true := by
  have e : wrap64 (wrap64 (2 ^ T) - 1) = ((2 ^ T - 1 : Nat) : Int) := by
    have : T = 0 ∨ T = 1 ∨ T = 2 ∨ T = 3 := by omega
    rcases this with rfl | rfl | rfl | rfl <;> first | decide +kernel | kernel_rfl | (simp [wrap64]; done)
  have hp : 2 ^ T ≤ 16 := pow_le16 (by omega)
  rw [e, i64_and_nat d (2 ^ T - 1) (by omega) (by omega), h]
  rfl
theorem cells4S {W : World} {b : Nat} {v0 v1 v2 v3 : Value} {ty : TypeId} (h : W.heap[b]? = some (.cells #[v0, v1, v2, v3] ty (0, 0))) : W.cell? ⟨b, 0, none⟩ = some v0 ∧ W.cell? ⟨b, 1, none⟩ = some v1 ∧ W.cell? ⟨b, 2, none⟩ = some v2 ∧ W.cell? ⟨b, 3, none⟩ = some v3 := by
  refine ⟨?_, ?_, ?_, ?_⟩ <;> (rw [cell_of_row _ _ _ _ _ _ h]; rfl)

set_option maxHeartbeats 4000000 in
set_option maxRecDepth 100000 in
theorem shown_ok (n : Nat) (la ga : List (Int × Int)) (oa : List Int) (lb gb : List (Int × Int)) (ob : List Int) (la1 ga1 oa1 lb1 gb1 ob1 : Option Addr) (lc1 gc1 oc1 ld1 gd1 od1 : Nat) (t : List Nat) (ta : Option Addr) (tc : Nat) (w : World)
    (ra : rightB n la ga oa = true) (rb : rightB n lb gb ob = true) (hn4 : n ≤ 4) (ho4 : oa.length ≤ 4) (hab : ob.length = oa.length) (hle : (duo n la ga oa lb gb ob).Least t) (h256 : t.length ≤ 256)
    (pLa : PairsAt w la1 la) (pGa : PairsAt w ga1 ga) (pOa : IntsAt w oa1 oa) (pLb : PairsAt w lb1 lb) (pGb : PairsAt w gb1 gb) (pOb : IntsAt w ob1 ob) (pT : IntsAt w ta (zs t)) :
    Calls Tryd.prog 17 #[.agg #[.int .i64 n, .slice la1 la.length lc1, .slice ga1 ga.length gc1, .slice oa1 oa.length oc1], .agg #[.int .i64 n, .slice lb1 lb.length ld1, .slice gb1 gb.length gd1, .slice ob1 ob.length od1], .agg #[.bool false, .int .i64 0, .slice ta t.length tc, .int .i64 (tzN ((duo n la ga oa lb gb ob).difL t) : Nat)]] w fun e w' => e = .returned (.bool true) ∧ Below w.heap.size w w' := by
  obtain ⟨d, hd⟩ : ∃ d, d = (duo n la ga oa lb gb ob).difL t := ⟨_, rfl⟩
  rw [← hd]
  have hlt := duo_difL_lt (n := n) (la := la) (ga := ga) (lb := lb) (gb := gb) hab t
  rw [← hd] at hlt
  have hd1 : 1 ≤ d := by have := hle.2.1; omega
  have hd16 : d < 16 := Nat.lt_of_lt_of_le hlt (pow_le16 ho4)
  obtain ⟨hT4, hTb, hTa, hTp⟩ := tz_all d hd16 hd1
  obtain ⟨T, hT⟩ : ∃ T, T = tzN d := ⟨_, rfl⟩
  rw [← hT] at hT4 hTb hTa hTp
  rw [← hT]
  have hTo : T < oa.length := (Nat.pow_lt_pow_iff_right (by omega : 1 < 2)).1 (Nat.lt_of_le_of_lt hTp hlt)
  have hl1 := least_some hle
  have hl1I : (1 : Int) ≤ (t.length : Int) := by omega
  have hlI : (t.length : Int) ≤ 256 := by omega
  have hT0 : (0 : Int) ≤ (T : Int) := by omega
  have hT1 : (T : Int) < (oa.length : Int) := by omega
  have HD := hideW hd
  have HTb := hideW hTb
  have HTa := hideW hTa
  have HL := hideW hle
  have HAB := hideW hab
  clear hd hTb hTa hle hT hab
  obtain ⟨W3, hW3⟩ : ∃ W3, W3 = ((w.alloc (.cells #[.int .i64 n, .slice la1 la.length lc1, .slice ga1 ga.length gc1, .slice oa1 oa.length oc1] 26)).alloc (.cells #[.int .i64 n, .slice lb1 lb.length ld1, .slice gb1 gb.length gd1, .slice ob1 ob.length od1] 26)).alloc (.cells #[.bool false, .int .i64 0, .slice ta t.length tc, .int .i64 T] 42) := ⟨_, rfl⟩
  have s3 : W3.heap.size = w.heap.size + 3 := by rw [hW3]; simp
  have B3 : Below w.heap.size w W3 := by rw [hW3]; exact (((Below.refl _ _).alloc (Nat.le_refl _) _).alloc (by simp) _).alloc (by simp; omega) _
  have xA : W3.heap[w.heap.size]? = some (.cells #[.int .i64 n, .slice la1 la.length lc1, .slice ga1 ga.length gc1, .slice oa1 oa.length oc1] 26 (0, 0)) := by rw [hW3]; exact alloc_old (alloc_old (alloc_blk _ _ _ rfl))
  have xB : W3.heap[w.heap.size + 1]? = some (.cells #[.int .i64 n, .slice lb1 lb.length ld1, .slice gb1 gb.length gd1, .slice ob1 ob.length od1] 26 (0, 0)) := by rw [hW3]; exact alloc_old (alloc_blk _ _ _ (by simp))
  have xR : W3.heap[w.heap.size + 1 + 1]? = some (.cells #[.bool false, .int .i64 0, .slice ta t.length tc, .int .i64 T] 42 (0, 0)) := by rw [hW3]; exact alloc_blk _ _ _ (by simp)
  obtain ⟨A0, A1, A2, A3, D0, D1, D2, D3⟩ := row8 xA xB
  obtain ⟨F0, F1, F2, F3⟩ := cells4S xR
  by_cases h50 : t.length ≤ 50
  · have h50I : (t.length : Int) ≤ 50 := by omega
    have hin := zs_in h50 HL.out.1
    have hzl : (zs t).length = t.length := zs_len t
    have HZ := hideW hzl
    go_enter Tryd.func17, Tryd.ntmps17
    go_upto_region 1 with fail
    rw [← hW3]
    clear hW3
    have rA := run_ok n la1 ga1 oa1 ta lc1 gc1 oc1 tc la ga oa (zs t) W3 (by rw [hzl]; unfold maxLen; omega) (pLa.below B3) (pGa.below B3) (pOa.below B3) (pT.below B3) ra hin
    rw [hzl] at rA
    clear hzl
    go_wp2_with fail
    refine rA.mono ?_
    rintro r W4 ⟨g1, rfl, own1, b4⟩
    clear rA A0 A1 A2 A3 D0 D1 D2 D3 F0 F1 F2 F3
    have s4 := b4.size
    have B4 : Below w.heap.size w W4 := B3.trans (b4.mono B3.size)
    have yB := (b4.block (w.heap.size + 1) (by omega)).trans xB
    have yR := (b4.block (w.heap.size + 1 + 1) (by omega)).trans xR
    obtain ⟨D0, D1, D2, D3⟩ := cells4S yB
    obtain ⟨F0, F1, F2, F3⟩ := cells4S yR
    have rB := run_ok n lb1 gb1 ob1 ta ld1 gd1 od1 tc lb gb ob (zs t) W4 (by rw [HZ.out]; unfold maxLen; omega) (pLb.below B4) (pGb.below B4) (pOb.below B4) (pT.below B4) rb hin
    rw [HZ.out] at rB
    go_wp2_with fail
    refine rB.mono ?_
    rintro r W5 ⟨g2, rfl, own2, b5⟩
    clear rB D0 D1 D2 D3 F0 F1 F2 F3
    have s5 := b5.size
    have B5 : Below w.heap.size w W5 := B4.trans (b5.mono B4.size)
    have zR := (b5.block (w.heap.size + 1 + 1) (by omega)).trans yR
    obtain ⟨F0, F1, F2, F3⟩ := cells4S zR
    have cA : ∀ k, k < t.length → W5.cell? ⟨g1, k, none⟩ = some (.int .i64 ((outAt n la ga oa (zs t) k : Nat) : Int)) := fun k hk => by
      have h1 := own_cells own1 k hk
      rw [Nat.zero_add, outs_get _ _ _ _ _ (by rw [HZ.out]; exact hk)] at h1
      exact (World.cell?_of_block (w := W4) (b5.block g1 (own1.lt g1 rfl).2)).trans h1
    have cB : ∀ k, k < t.length → W5.cell? ⟨g2, k, none⟩ = some (.int .i64 ((outAt n lb gb ob (zs t) k : Nat) : Int)) := fun k hk => by
      have h1 := own_cells own2 k hk
      rw [Nat.zero_add, outs_get _ _ _ _ _ (by rw [HZ.out]; exact hk)] at h1
      exact h1
    have CA := hideW cA
    have CB := hideW cB
    clear cA cB own1 own2 xA xB xR yB yR
    go_wp2
    go_loopw [12] (fun i wr => ∃ k : Nat, k + 1 ≤ t.length ∧ i = .int .i64 k ∧ Below W5.heap.size W5 wr) (fun i _ => t.length - (intOf i).toNat)
    case atStart => exact ⟨0, hl1, rfl, Below.refl _ _⟩
    case round =>
      obtain ⟨k, hk, rfl, bR⟩ := hrel
      have blk : ∀ q, q < W5.heap.size → wr.heap[q]? = W5.heap[q]? := fun q hq => bR.block q hq
      have l1 : g1 < W5.heap.size := World.block_lt_of_cell? _ _ (CA.out 0 (by omega))
      have l2 : g2 < W5.heap.size := World.block_lt_of_cell? _ _ (CB.out 0 (by omega))
      by_cases hk2 : k + 1 < t.length
      · have e := outs_early hn4 HL.out HL.out.1 k (by omega) hk2
        have cX := (World.cell?_of_block (w := W5) (blk g1 l1)).trans (CA.out k (by omega))
        have cY := (World.cell?_of_block (w := W5) (blk g2 l2)).trans (CB.out k (by omega))
        rw [← e] at cY
        obtain ⟨x, hx⟩ : ∃ x, x = outAt n la ga oa (zs t) k := ⟨_, rfl⟩
        rw [← hx] at cX cY
        clear hx e
        have k1 : (k : Int) + 1 < (t.length : Int) := by omega
        have k2 : (k : Int) < (t.length : Int) := by omega
        go_wp2
        go_quiet (fail)
        go_wp2
        go_roundw
        case rel => exact ⟨k + 1, by omega, by go_num, by first | exact bR.drew | exact below_drewN bR _⟩
        case measure => simp [intOf]; omega
      · have hkk : t.length = k + 1 := by omega
        have e := outs_last (n := n) (la := la) (ga := ga) (oa := oa) (lb := lb) (gb := gb) (ob := ob) k hkk
        rw [← HD.out] at e
        have cX := (World.cell?_of_block (w := W5) (blk g1 l1)).trans (CA.out k (by omega))
        have cY := (World.cell?_of_block (w := W5) (blk g2 l2)).trans (CB.out k (by omega))
        have wR := (blk (w.heap.size + 1 + 1) (by omega)).trans zR
        obtain ⟨G0, G1, G2, G3⟩ := cells4S wR
        have x16 := outAt_lt (n := n) (ls := la) (gs := ga) (ins := zs t) ho4 k
        have y16 := outAt_lt (n := n) (ls := lb) (gs := gb) (os := ob) (ins := zs t) (by have := HAB.out; omega) k
        obtain ⟨x, hx⟩ : ∃ x, x = outAt n la ga oa (zs t) k := ⟨_, rfl⟩
        obtain ⟨y, hy⟩ : ∃ y, y = outAt n lb gb ob (zs t) k := ⟨_, rfl⟩
        rw [← hx] at cX e x16
        rw [← hy] at cY e y16
        clear hx hy F0 F1 F2 F3
        have hxor : bits .xor .i64 (x : Int) (y : Int) = (d : Int) := by rw [i64_xor_nat x y (by omega) (by omega), e]
        have k1 : ¬ ((k : Int) + 1 < (t.length : Int)) := by omega
        have k2 : (t.length : Int) - 1 = (k : Int) := by omega
        have k3 : (k : Int) < (t.length : Int) := by omega
        have hb1 := shr_and1 d T 1 hd16 (by rw [HTb.out])
        clear e hkk hk2
        go_wp2
        go_quiet (fail)
        go_wp2
        go_ret
        exact ⟨ret_bool (and_low hT4 hd16 HTa.out), by first | exact B5.trans ((below_drewN bR _).mono B5.size) | exact B5.trans (bR.drew.mono B5.size)⟩
  · have h50I : (50 : Int) < (t.length : Int) := by omega
    go_enter Tryd.func17, Tryd.ntmps17
    go_upto_region 1 with fail
    rw [← hW3]
    clear hW3
    go_wp2
    go_ret
    exact ⟨rfl, B3⟩
end Go.Proofs.YtgpaajdfkekjiaaDoor
