/-
  behind of package chances: the chances one step further. Written by wip/mk_chbh.py.
-/
import Derived.Test.YtgpaajdfkekjiabChEach
import Derived.Test.YtgpaajdfkekjiabKeeps
import Derived.Test.YtgpaajdfkekjiabSet16
namespace Go.Proofs.Ytgpaajdfkekjiab
open Go.RowKit

/-- The chances so far, at an exponent. -/
def fvf (f : Nat → Nat) (E t : Nat) : Value := .float .f64 (fq (f t) E)
theorem fq_zero (E : Nat) : fq 0 E = 0 := by unfold fq; rw [Nat.zero_mul]; exact flw_zero
theorem zero16 (w : World) (E : Nat) : (w.alloc (.cells #[.float .f64 0, .float .f64 0, .float .f64 0, .float .f64 0, .float .f64 0, .float .f64 0, .float .f64 0, .float .f64 0, .float .f64 0, .float .f64 0, .float .f64 0, .float .f64 0, .float .f64 0, .float .f64 0, .float .f64 0, .float .f64 0] 52)).rowIs w.heap.size 52 16 (fvf (fun _ => 0) E) := by
  refine ⟨_, heap_alloc_new _ _, rfl, fun i hi => ?_⟩
  unfold fvf
  rw [fq_zero]
  match i, hi with
  | 0, _ => rfl
  | 1, _ => rfl
  | 2, _ => rfl
  | 3, _ => rfl
  | 4, _ => rfl
  | 5, _ => rfl
  | 6, _ => rfl
  | 7, _ => rfl
  | 8, _ => rfl
  | 9, _ => rfl
  | 10, _ => rfl
  | 11, _ => rfl
  | 12, _ => rfl
  | 13, _ => rfl
  | 14, _ => rfl
  | 15, _ => rfl
  | i + 16, h => omega

/-- What stands while behind counts: B the new chances' block, e0 the size at eachStep's call. -/
def BhInv (w : World) (B e0 : Nat) (n : Nat) (la ga oa : Option Addr) (lc gc oc : Nat) (ls gs : List (Int × Int)) (os : List Int) (f : Nat → Nat) (E s j : Nat) (W : World) : Prop :=
  W.rowIs B 52 16 (fvf (partW (nxF n ls gs) (2 ^ n) f s j) (E + n)) ∧ W.heap[e0]? = some (.cells #[.int .i64 n, .slice la ls.length lc, .slice ga gs.length gc, .slice oa os.length oc] 26 (0, 0)) ∧ w.heap.size + 3 ≤ B ∧ B < e0 ∧ Below w.heap.size w W ∧ W.heap[w.heap.size + 2]? = some (.cells #[.float .f64 0, .float .f64 0, .float .f64 0, .float .f64 0, .float .f64 0, .float .f64 0, .float .f64 0, .float .f64 0, .float .f64 0, .float .f64 0, .float .f64 0, .float .f64 0, .float .f64 0, .float .f64 0, .float .f64 0, .float .f64 0] 52 (0, 0))
theorem BhInv.below {w : World} {B e0 n : Nat} {la ga oa : Option Addr} {lc gc oc : Nat} {ls gs : List (Int × Int)} {os : List Int} {f : Nat → Nat} {E s j : Nat} {W W' : World} (h : BhInv w B e0 n la ga oa lc gc oc ls gs os f E s j W) (hb : Below W.heap.size W W') : BhInv w B e0 n la ga oa lc gc oc ls gs os f E s j W' := by
  obtain ⟨h1, h2, h3, h4, h5, h6⟩ := h
  exact ⟨h1.of_block (hb.block B h1.lt), (hb.block e0 (Array.getElem?_eq_some_iff.1 h2).1).trans h2, h3, h4, h5.trans (hb.mono h5.size), (hb.block _ (Array.getElem?_eq_some_iff.1 h6).1).trans h6⟩
theorem BhInv.tell {w : World} {B e0 n : Nat} {la ga oa : Option Addr} {lc gc oc : Nat} {ls gs : List (Int × Int)} {os : List Int} {f : Nat → Nat} {E s j : Nat} {W : World} (h : BhInv w B e0 n la ga oa lc gc oc ls gs os f E s j W) :
    BhInv w B e0 n la ga oa lc gc oc ls gs os f E s (j + 1) (W.setCell ⟨B, nxF n ls gs s j, none⟩ (.float .f64 (fq (partW (nxF n ls gs) (2 ^ n) f s j (nxF n ls gs s j) + f s) (E + n)))) := by
  obtain ⟨h1, h2, h3, h4, h5, h6⟩ := h
  refine ⟨(h1.set _ _).congr (fun t _ => ?_), (Deep.blk_setCell_other _ _ _ _ (show e0 ≠ B by omega)).trans h2, h3, h4, h5.setCell (p := ⟨B, _, none⟩) (show w.heap.size ≤ B by omega) _, (Deep.blk_setCell_other _ _ _ _ (show w.heap.size + 2 ≠ B by omega)).trans h6⟩
  unfold fvf
  rw [partW_succ]
  by_cases e : t = nxF n ls gs s j
  · rw [if_pos e, if_pos e.symm, e]
  · rw [if_neg e, if_neg (fun h => e h.symm), Nat.add_zero]

set_option maxHeartbeats 2000000 in
set_option maxRecDepth 100000 in
theorem bh_close {tmps : Array Value} {Q : Ending → World → Prop} {w : World} {b E : Nat} {f : Nat → Nat} (h : w.heap[b]? = some (.cells (arr16 f E) 52 (0, 0))) (h4 : tmps[4]?.getD undef = .pointer (some ⟨b, 0, none⟩)) (hQ : Q (.returned (.agg (arr16 f E))) w) :
    bodyPost Try.prog Try.f20 Q Exit.ret ⟨tmps, []⟩ w := by
  have c0 : w.cell? ⟨b, 0, none⟩ = some (.float .f64 (fq (f 0) E)) := by rw [cell_of_row _ _ _ _ _ _ h]; rfl
  have c1 : w.cell? ⟨b, 1, none⟩ = some (.float .f64 (fq (f 1) E)) := by rw [cell_of_row _ _ _ _ _ _ h]; rfl
  have c2 : w.cell? ⟨b, 2, none⟩ = some (.float .f64 (fq (f 2) E)) := by rw [cell_of_row _ _ _ _ _ _ h]; rfl
  have c3 : w.cell? ⟨b, 3, none⟩ = some (.float .f64 (fq (f 3) E)) := by rw [cell_of_row _ _ _ _ _ _ h]; rfl
  have c4 : w.cell? ⟨b, 4, none⟩ = some (.float .f64 (fq (f 4) E)) := by rw [cell_of_row _ _ _ _ _ _ h]; rfl
  have c5 : w.cell? ⟨b, 5, none⟩ = some (.float .f64 (fq (f 5) E)) := by rw [cell_of_row _ _ _ _ _ _ h]; rfl
  have c6 : w.cell? ⟨b, 6, none⟩ = some (.float .f64 (fq (f 6) E)) := by rw [cell_of_row _ _ _ _ _ _ h]; rfl
  have c7 : w.cell? ⟨b, 7, none⟩ = some (.float .f64 (fq (f 7) E)) := by rw [cell_of_row _ _ _ _ _ _ h]; rfl
  have c8 : w.cell? ⟨b, 8, none⟩ = some (.float .f64 (fq (f 8) E)) := by rw [cell_of_row _ _ _ _ _ _ h]; rfl
  have c9 : w.cell? ⟨b, 9, none⟩ = some (.float .f64 (fq (f 9) E)) := by rw [cell_of_row _ _ _ _ _ _ h]; rfl
  have c10 : w.cell? ⟨b, 10, none⟩ = some (.float .f64 (fq (f 10) E)) := by rw [cell_of_row _ _ _ _ _ _ h]; rfl
  have c11 : w.cell? ⟨b, 11, none⟩ = some (.float .f64 (fq (f 11) E)) := by rw [cell_of_row _ _ _ _ _ _ h]; rfl
  have c12 : w.cell? ⟨b, 12, none⟩ = some (.float .f64 (fq (f 12) E)) := by rw [cell_of_row _ _ _ _ _ _ h]; rfl
  have c13 : w.cell? ⟨b, 13, none⟩ = some (.float .f64 (fq (f 13) E)) := by rw [cell_of_row _ _ _ _ _ _ h]; rfl
  have c14 : w.cell? ⟨b, 14, none⟩ = some (.float .f64 (fq (f 14) E)) := by rw [cell_of_row _ _ _ _ _ _ h]; rfl
  have c15 : w.cell? ⟨b, 15, none⟩ = some (.float .f64 (fq (f 15) E)) := by rw [cell_of_row _ _ _ _ _ _ h]; rfl
  exact bodyPost_ret (v := .agg (arr16 f E)) (by simp [results, Try.results20, go_sem, h4, c0, c1, c2, c3, c4, c5, c6, c7, c8, c9, c10, c11, c12, c13, c14, c15]; rfl) rfl hQ

set_option maxHeartbeats 4000000 in
set_option maxRecDepth 100000 in
theorem chBehind (n E : Nat) (la ga oa : Option Addr) (lc gc oc : Nat) (ls gs : List (Int × Int)) (os : List Int) (f : Nat → Nat) (w : World) (h1 : n ≤ 4) (h2 : ls.length ≤ 4) (h3 : gs.length ≤ 30) (h4 : os.length ≤ 4) (hL : PairsAt w la ls) (hG : PairsAt w ga gs) (hO : IntsAt w oa os)
    (hg : ∀ i, i < gs.length → gateOk (n + ls.length + (i : Nat)) (gs.getD i (0, 0)) = true) (hl : ∀ i, i < ls.length → inB (ls.getD i (0, 0)).1 (2 * (n + ls.length + gs.length) + 1) = true) (ho : ∀ i, i < os.length → inB (os.getD i 0) (2 * (n + ls.length + gs.length) + 1) = true)
    (hE : E + n ≤ 100) (hfl : ∀ s, s < 16 → f s < 9007199254740992) (hpl : ∀ s j t, s < 16 → j ≤ 2 ^ n → partW (nxF n ls gs) (2 ^ n) f s j t < 9007199254740992) :
    Calls Try.prog 20 #[.agg #[.int .i64 n, .slice la ls.length lc, .slice ga gs.length gc, .slice oa os.length oc], .agg (arr16 f E)] w fun e w' => e = .returned (.agg (arr16 (wayStep (nxF n ls gs) (2 ^ n) f) (E + n))) ∧ Below w.heap.size w w' := by
  have hmf : ∀ (fn : Fn) (first cap : Array Value) (w : World), (Instr.makeFunc fn first cap).run Try.prog w = .ok (.func fn first cap) w := fun _ _ _ _ => rfl
  obtain ⟨W5, hW5⟩ : ∃ W5, W5 = (((w.alloc (.cells #[.int .i64 n, .slice la ls.length lc, .slice ga gs.length gc, .slice oa os.length oc] 26)).alloc (.cells (arr16 f E) 52)).alloc (.cells #[.float .f64 0, .float .f64 0, .float .f64 0, .float .f64 0, .float .f64 0, .float .f64 0, .float .f64 0, .float .f64 0, .float .f64 0, .float .f64 0, .float .f64 0, .float .f64 0, .float .f64 0, .float .f64 0, .float .f64 0, .float .f64 0] 52)).alloc (.cells #[.float .f64 0, .float .f64 0, .float .f64 0, .float .f64 0, .float .f64 0, .float .f64 0, .float .f64 0, .float .f64 0, .float .f64 0, .float .f64 0, .float .f64 0, .float .f64 0, .float .f64 0, .float .f64 0, .float .f64 0, .float .f64 0] 52) := ⟨_, rfl⟩
  have s5 : W5.heap.size = w.heap.size + 4 := by rw [hW5]; simp
  have B5 : Below w.heap.size w W5 := by rw [hW5]; exact ((((Below.refl _ _).alloc (Nat.le_refl _) _).alloc (by simp) _).alloc (by simp; omega) _).alloc (by simp; omega) _
  have xC : W5.heap[w.heap.size]? = some (.cells #[.int .i64 n, .slice la ls.length lc, .slice ga gs.length gc, .slice oa os.length oc] 26 (0, 0)) := by rw [hW5]; exact alloc_old (alloc_old (alloc_old (alloc_blk _ _ _ rfl)))
  have xN : W5.heap[w.heap.size + 1]? = some (.cells (arr16 f E) 52 (0, 0)) := by rw [hW5]; exact alloc_old (alloc_old (alloc_blk _ _ _ (by simp)))
  have xR : W5.heap[w.heap.size + 2]? = some (.cells #[.float .f64 0, .float .f64 0, .float .f64 0, .float .f64 0, .float .f64 0, .float .f64 0, .float .f64 0, .float .f64 0, .float .f64 0, .float .f64 0, .float .f64 0, .float .f64 0, .float .f64 0, .float .f64 0, .float .f64 0, .float .f64 0] 52 (0, 0)) := by rw [hW5]; exact alloc_old (alloc_blk _ _ _ (by simp))
  have r5 : W5.rowIs (w.heap.size + 3) 52 16 (fvf (fun _ => 0) (E + n)) := by
    rw [hW5]
    have h := zero16 (((w.alloc (.cells #[.int .i64 n, .slice la ls.length lc, .slice ga gs.length gc, .slice oa os.length oc] 26)).alloc (.cells (arr16 f E) 52)).alloc (.cells #[.float .f64 0, .float .f64 0, .float .f64 0, .float .f64 0, .float .f64 0, .float .f64 0, .float .f64 0, .float .f64 0, .float .f64 0, .float .f64 0, .float .f64 0, .float .f64 0, .float .f64 0, .float .f64 0, .float .f64 0, .float .f64 0] 52)) (E + n)
    simpa using h
  have q0 : W5.cell? ⟨w.heap.size, 0, none⟩ = some (.int .i64 n) := by rw [cell_of_row _ _ _ _ _ _ xC]; rfl
  have q1 : W5.cell? ⟨w.heap.size, 1, none⟩ = some (.slice la ls.length lc) := by rw [cell_of_row _ _ _ _ _ _ xC]; rfl
  have q2 : W5.cell? ⟨w.heap.size, 2, none⟩ = some (.slice ga gs.length gc) := by rw [cell_of_row _ _ _ _ _ _ xC]; rfl
  have q3 : W5.cell? ⟨w.heap.size, 3, none⟩ = some (.slice oa os.length oc) := by rw [cell_of_row _ _ _ _ _ _ xC]; rfl
  have d0 : W5.cell? ⟨w.heap.size + 1, 0, none⟩ = some (.float .f64 (fq (f 0) E)) := by rw [cell_of_row _ _ _ _ _ _ xN]; rfl
  have d1 : W5.cell? ⟨w.heap.size + 1, 1, none⟩ = some (.float .f64 (fq (f 1) E)) := by rw [cell_of_row _ _ _ _ _ _ xN]; rfl
  have d2 : W5.cell? ⟨w.heap.size + 1, 2, none⟩ = some (.float .f64 (fq (f 2) E)) := by rw [cell_of_row _ _ _ _ _ _ xN]; rfl
  have d3 : W5.cell? ⟨w.heap.size + 1, 3, none⟩ = some (.float .f64 (fq (f 3) E)) := by rw [cell_of_row _ _ _ _ _ _ xN]; rfl
  have d4 : W5.cell? ⟨w.heap.size + 1, 4, none⟩ = some (.float .f64 (fq (f 4) E)) := by rw [cell_of_row _ _ _ _ _ _ xN]; rfl
  have d5 : W5.cell? ⟨w.heap.size + 1, 5, none⟩ = some (.float .f64 (fq (f 5) E)) := by rw [cell_of_row _ _ _ _ _ _ xN]; rfl
  have d6 : W5.cell? ⟨w.heap.size + 1, 6, none⟩ = some (.float .f64 (fq (f 6) E)) := by rw [cell_of_row _ _ _ _ _ _ xN]; rfl
  have d7 : W5.cell? ⟨w.heap.size + 1, 7, none⟩ = some (.float .f64 (fq (f 7) E)) := by rw [cell_of_row _ _ _ _ _ _ xN]; rfl
  have d8 : W5.cell? ⟨w.heap.size + 1, 8, none⟩ = some (.float .f64 (fq (f 8) E)) := by rw [cell_of_row _ _ _ _ _ _ xN]; rfl
  have d9 : W5.cell? ⟨w.heap.size + 1, 9, none⟩ = some (.float .f64 (fq (f 9) E)) := by rw [cell_of_row _ _ _ _ _ _ xN]; rfl
  have d10 : W5.cell? ⟨w.heap.size + 1, 10, none⟩ = some (.float .f64 (fq (f 10) E)) := by rw [cell_of_row _ _ _ _ _ _ xN]; rfl
  have d11 : W5.cell? ⟨w.heap.size + 1, 11, none⟩ = some (.float .f64 (fq (f 11) E)) := by rw [cell_of_row _ _ _ _ _ _ xN]; rfl
  have d12 : W5.cell? ⟨w.heap.size + 1, 12, none⟩ = some (.float .f64 (fq (f 12) E)) := by rw [cell_of_row _ _ _ _ _ _ xN]; rfl
  have d13 : W5.cell? ⟨w.heap.size + 1, 13, none⟩ = some (.float .f64 (fq (f 13) E)) := by rw [cell_of_row _ _ _ _ _ _ xN]; rfl
  have d14 : W5.cell? ⟨w.heap.size + 1, 14, none⟩ = some (.float .f64 (fq (f 14) E)) := by rw [cell_of_row _ _ _ _ _ _ xN]; rfl
  have d15 : W5.cell? ⟨w.heap.size + 1, 15, none⟩ = some (.float .f64 (fq (f 15) E)) := by rw [cell_of_row _ _ _ _ _ _ xN]; rfl
  go_enter Try.func20, Try.ntmps20
  go_upto_region 2 with fail
  rw [← hW5]
  clear hW5
  go_wp2_with fail
  have hst := @run_store_flt Try.prog
  refine (eachStep_behind n E la ga oa lc gc oc ls gs os f (2 ^ n) (nxF n ls gs) (fun s j => outOf os (vals n ls.length gs s j) os.length) (.pointer (some ⟨w.heap.size + 1 + 1 + 1, 0, none⟩)) (BhInv w (w.heap.size + 3) W5.heap.size n la ga oa lc gc oc ls gs os f E) W5 h1 rfl hE hfl
    (fun W s j hs hj I => (step_any n s j la ga oa lc gc oc ls gs os W h1 h2 h3 h4 hs (by have := pow_le16 h1; omega) (hL.below I.2.2.2.2.1) (hG.below I.2.2.2.2.1) (hO.below I.2.2.2.2.1) hg hl ho).mono fun e w' h => ⟨h.1, I.below h.2⟩)
    (fun W s j hs hj hp I => (behindCl _ (nxF n ls gs s j) _ _ _ (w.heap.size + 3) W (nxF_lt h2 s j) (I.1.cell (nxF_lt h2 s j)) (I.1.frozen _) (fq_add (hpl s j _ hs (by omega)) (hfl s hs))).mono fun e w' h => ⟨h.1, by rw [h.2]; exact I.tell⟩)
    (fun W s hs I => ⟨I.1.congr (fun t _ => by unfold fvf; rw [partW_next]), I.2⟩) (fun W s hs h0 I => ⟨I.1.congr (fun t _ => by unfold fvf; rw [partW_skip _ _ _ _ _ h0]), I.2⟩) (fun W s j I => I.2.1)
    ⟨((r5.alloc _).alloc _).congr (fun t _ => by unfold fvf; rw [partW_zero]), alloc_old (alloc_blk _ _ _ rfl), by omega, by omega, (B5.alloc B5.size _).alloc (by simp; omega) _, alloc_old (alloc_old xR)⟩).mono ?_
  rintro e w6 ⟨rfl, I6⟩
  obtain ⟨G, hG9⟩ : ∃ G, G = wayStep (nxF n ls gs) (2 ^ n) f := ⟨_, rfl⟩
  have r6 : w6.rowIs (w.heap.size + 3) 52 16 (fvf G (E + n)) := I6.1.congr (fun t _ => by unfold fvf; rw [partW_all, hG9])
  have b6 := I6.2.2.2.2.1
  have x6 := I6.2.2.2.2.2
  have HG9 := hidK hG9
  have e0 : w6.cell? ⟨w.heap.size + 3, 0, none⟩ = some (.float .f64 (fq (G 0) (E + n))) := r6.cell (by omega)
  have u0 : w6.cell? ⟨w.heap.size + 2, 0, none⟩ = some (.float .f64 0) := by rw [cell_of_row _ _ _ _ _ _ x6]; rfl
  have v0 : w6.frozen? ⟨w.heap.size + 2, 0, none⟩ = false := frozen_of_row _ _ _ _ _ x6
  have e1 : w6.cell? ⟨w.heap.size + 3, 1, none⟩ = some (.float .f64 (fq (G 1) (E + n))) := r6.cell (by omega)
  have u1 : w6.cell? ⟨w.heap.size + 2, 1, none⟩ = some (.float .f64 0) := by rw [cell_of_row _ _ _ _ _ _ x6]; rfl
  have v1 : w6.frozen? ⟨w.heap.size + 2, 1, none⟩ = false := frozen_of_row _ _ _ _ _ x6
  have e2 : w6.cell? ⟨w.heap.size + 3, 2, none⟩ = some (.float .f64 (fq (G 2) (E + n))) := r6.cell (by omega)
  have u2 : w6.cell? ⟨w.heap.size + 2, 2, none⟩ = some (.float .f64 0) := by rw [cell_of_row _ _ _ _ _ _ x6]; rfl
  have v2 : w6.frozen? ⟨w.heap.size + 2, 2, none⟩ = false := frozen_of_row _ _ _ _ _ x6
  have e3 : w6.cell? ⟨w.heap.size + 3, 3, none⟩ = some (.float .f64 (fq (G 3) (E + n))) := r6.cell (by omega)
  have u3 : w6.cell? ⟨w.heap.size + 2, 3, none⟩ = some (.float .f64 0) := by rw [cell_of_row _ _ _ _ _ _ x6]; rfl
  have v3 : w6.frozen? ⟨w.heap.size + 2, 3, none⟩ = false := frozen_of_row _ _ _ _ _ x6
  have e4 : w6.cell? ⟨w.heap.size + 3, 4, none⟩ = some (.float .f64 (fq (G 4) (E + n))) := r6.cell (by omega)
  have u4 : w6.cell? ⟨w.heap.size + 2, 4, none⟩ = some (.float .f64 0) := by rw [cell_of_row _ _ _ _ _ _ x6]; rfl
  have v4 : w6.frozen? ⟨w.heap.size + 2, 4, none⟩ = false := frozen_of_row _ _ _ _ _ x6
  have e5 : w6.cell? ⟨w.heap.size + 3, 5, none⟩ = some (.float .f64 (fq (G 5) (E + n))) := r6.cell (by omega)
  have u5 : w6.cell? ⟨w.heap.size + 2, 5, none⟩ = some (.float .f64 0) := by rw [cell_of_row _ _ _ _ _ _ x6]; rfl
  have v5 : w6.frozen? ⟨w.heap.size + 2, 5, none⟩ = false := frozen_of_row _ _ _ _ _ x6
  have e6 : w6.cell? ⟨w.heap.size + 3, 6, none⟩ = some (.float .f64 (fq (G 6) (E + n))) := r6.cell (by omega)
  have u6 : w6.cell? ⟨w.heap.size + 2, 6, none⟩ = some (.float .f64 0) := by rw [cell_of_row _ _ _ _ _ _ x6]; rfl
  have v6 : w6.frozen? ⟨w.heap.size + 2, 6, none⟩ = false := frozen_of_row _ _ _ _ _ x6
  have e7 : w6.cell? ⟨w.heap.size + 3, 7, none⟩ = some (.float .f64 (fq (G 7) (E + n))) := r6.cell (by omega)
  have u7 : w6.cell? ⟨w.heap.size + 2, 7, none⟩ = some (.float .f64 0) := by rw [cell_of_row _ _ _ _ _ _ x6]; rfl
  have v7 : w6.frozen? ⟨w.heap.size + 2, 7, none⟩ = false := frozen_of_row _ _ _ _ _ x6
  have e8 : w6.cell? ⟨w.heap.size + 3, 8, none⟩ = some (.float .f64 (fq (G 8) (E + n))) := r6.cell (by omega)
  have u8 : w6.cell? ⟨w.heap.size + 2, 8, none⟩ = some (.float .f64 0) := by rw [cell_of_row _ _ _ _ _ _ x6]; rfl
  have v8 : w6.frozen? ⟨w.heap.size + 2, 8, none⟩ = false := frozen_of_row _ _ _ _ _ x6
  have e9 : w6.cell? ⟨w.heap.size + 3, 9, none⟩ = some (.float .f64 (fq (G 9) (E + n))) := r6.cell (by omega)
  have u9 : w6.cell? ⟨w.heap.size + 2, 9, none⟩ = some (.float .f64 0) := by rw [cell_of_row _ _ _ _ _ _ x6]; rfl
  have v9 : w6.frozen? ⟨w.heap.size + 2, 9, none⟩ = false := frozen_of_row _ _ _ _ _ x6
  have e10 : w6.cell? ⟨w.heap.size + 3, 10, none⟩ = some (.float .f64 (fq (G 10) (E + n))) := r6.cell (by omega)
  have u10 : w6.cell? ⟨w.heap.size + 2, 10, none⟩ = some (.float .f64 0) := by rw [cell_of_row _ _ _ _ _ _ x6]; rfl
  have v10 : w6.frozen? ⟨w.heap.size + 2, 10, none⟩ = false := frozen_of_row _ _ _ _ _ x6
  have e11 : w6.cell? ⟨w.heap.size + 3, 11, none⟩ = some (.float .f64 (fq (G 11) (E + n))) := r6.cell (by omega)
  have u11 : w6.cell? ⟨w.heap.size + 2, 11, none⟩ = some (.float .f64 0) := by rw [cell_of_row _ _ _ _ _ _ x6]; rfl
  have v11 : w6.frozen? ⟨w.heap.size + 2, 11, none⟩ = false := frozen_of_row _ _ _ _ _ x6
  have e12 : w6.cell? ⟨w.heap.size + 3, 12, none⟩ = some (.float .f64 (fq (G 12) (E + n))) := r6.cell (by omega)
  have u12 : w6.cell? ⟨w.heap.size + 2, 12, none⟩ = some (.float .f64 0) := by rw [cell_of_row _ _ _ _ _ _ x6]; rfl
  have v12 : w6.frozen? ⟨w.heap.size + 2, 12, none⟩ = false := frozen_of_row _ _ _ _ _ x6
  have e13 : w6.cell? ⟨w.heap.size + 3, 13, none⟩ = some (.float .f64 (fq (G 13) (E + n))) := r6.cell (by omega)
  have u13 : w6.cell? ⟨w.heap.size + 2, 13, none⟩ = some (.float .f64 0) := by rw [cell_of_row _ _ _ _ _ _ x6]; rfl
  have v13 : w6.frozen? ⟨w.heap.size + 2, 13, none⟩ = false := frozen_of_row _ _ _ _ _ x6
  have e14 : w6.cell? ⟨w.heap.size + 3, 14, none⟩ = some (.float .f64 (fq (G 14) (E + n))) := r6.cell (by omega)
  have u14 : w6.cell? ⟨w.heap.size + 2, 14, none⟩ = some (.float .f64 0) := by rw [cell_of_row _ _ _ _ _ _ x6]; rfl
  have v14 : w6.frozen? ⟨w.heap.size + 2, 14, none⟩ = false := frozen_of_row _ _ _ _ _ x6
  have e15 : w6.cell? ⟨w.heap.size + 3, 15, none⟩ = some (.float .f64 (fq (G 15) (E + n))) := r6.cell (by omega)
  have u15 : w6.cell? ⟨w.heap.size + 2, 15, none⟩ = some (.float .f64 0) := by rw [cell_of_row _ _ _ _ _ _ x6]; rfl
  have v15 : w6.frozen? ⟨w.heap.size + 2, 15, none⟩ = false := frozen_of_row _ _ _ _ _ x6
  clear I6 r6 hG9 d0 d1 d2 d3 d4 d5 d6 d7 d8 d9 d10 d11 d12 d13 d14 d15 q0 q1 q2 q3
  go_wp2
  exact bh_close (b := w.heap.size + 2) (f := G) (E := E + n) (set16 x6) (by rfl) ⟨by rw [HG9.out], below16 b6 (show w.heap.size ≤ w.heap.size + 2 by omega)⟩

end Go.Proofs.Ytgpaajdfkekjiab
