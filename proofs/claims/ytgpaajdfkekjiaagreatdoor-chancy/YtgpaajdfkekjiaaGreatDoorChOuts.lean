/-
  outputs of package chances: how likely each output is.
  Of of package chances: how likely each output is in a step. Written by wip/mk_chof.py.
  Chances of package latch, of a right circuit and a right number of steps.
-/
import Derived.Test.YtgpaajdfkekjiaaGreatDoorChBh
import Derived.Test.YtgpaajdfkekjiaaGreatDoorStart
import Derived.Test.YtgpaajdfkekjiaaGreatDoorRight2
namespace Go.Proofs.YtgpaajdfkekjiaaGreatDoor
open Go.RowKit

/-- A row of floats is owned as a list. -/
theorem own_row {w : World} {base g t m : Nat} {f : Nat → Value} {xs : List Nat} (h : w.rowIs g t m f) (hb : base ≤ g) (hm : m ≤ 1000) (hl : xs.length = m) (hx : ∀ i, i < m → f i = .float .f64 (xs.getD i 0)) :
    w.ownsRow base t 1 (.slice (some ⟨g, 0, none⟩) m m) m (fvals xs) := by
  obtain ⟨c, hc, hs, hi⟩ := h
  refine ⟨by simp [fvals, hl], .inr ⟨g, m, c, rfl, hb, hc, Nat.le_refl _, by unfold maxLen; omega, by omega, ?_⟩⟩
  apply List.ext_getElem?
  intro i
  by_cases h : i < m
  · rw [List.getElem?_take, if_pos (by omega), Array.getElem?_toList, hi i h, hx i h]
    have : i < xs.length := by omega
    simp [fvals, this]
  · rw [List.getElem?_eq_none (by simp; omega), List.getElem?_eq_none (by simp [fvals]; omega)]

/-- The chances of the outputs so far. -/
def otf (n : Nat) (ls gs : List (Int × Int)) (os : List Int) (f : Nat → Nat) (s j k : Nat) : Nat := partG (2 ^ n) (obF n ls gs os k) f s j
def ovf (g : Nat → Nat) (E k : Nat) : Value := .float .f64 (fq (g k) E)

/-- What stands while outputs counts: g the list's block, bx the box of its variable, e0 the size at eachStep's call. -/
def OtInv (w : World) (g bx e0 : Nat) (n : Nat) (la ga oa : Option Addr) (lc gc oc : Nat) (ls gs : List (Int × Int)) (os : List Int) (f : Nat → Nat) (E s j : Nat) (W : World) : Prop :=
  W.rowIs g 106 os.length (ovf (otf n ls gs os f s j) (E + n)) ∧ W.heap[e0]? = some (.cells #[.int .i64 n, .slice la ls.length lc, .slice ga gs.length gc, .slice oa os.length oc] 34 (0, 0)) ∧ w.heap.size ≤ g ∧ bx ≠ g ∧ g < e0 ∧ Below w.heap.size w W ∧ W.heap[bx]? = some (.cells #[.slice (some ⟨g, 0, none⟩) os.length os.length] 74 (0, 0))
theorem OtInv.below {w : World} {g bx e0 n : Nat} {la ga oa : Option Addr} {lc gc oc : Nat} {ls gs : List (Int × Int)} {os : List Int} {f : Nat → Nat} {E s j : Nat} {W W' : World} (h : OtInv w g bx e0 n la ga oa lc gc oc ls gs os f E s j W) (hb : Below W.heap.size W W') : OtInv w g bx e0 n la ga oa lc gc oc ls gs os f E s j W' := by
  obtain ⟨h1, h2, h3, h4, h5, h6, h7⟩ := h
  exact ⟨h1.of_block (hb.block g h1.lt), (hb.block e0 (Array.getElem?_eq_some_iff.1 h2).1).trans h2, h3, h4, h5, h6.trans (hb.mono h6.size), (hb.block _ (Array.getElem?_eq_some_iff.1 h7).1).trans h7⟩
theorem OtInv.told {w : World} {g bx e0 n : Nat} {la ga oa : Option Addr} {lc gc oc : Nat} {ls gs : List (Int × Int)} {os : List Int} {f : Nat → Nat} {E s j o : Nat} {W W' : World} (h : OtInv w g bx e0 n la ga oa lc gc oc ls gs os f E s j W) (ho : o = outOf os (vals n ls.length gs s j) os.length)
    (hr : W'.rowIs g 106 os.length (onF (otf n ls gs os f s j) o (f s) (E + n) os.length)) (hk : Keeps (fun q => q = g) W W') : OtInv w g bx e0 n la ga oa lc gc oc ls gs os f E s (j + 1) W' := by
  obtain ⟨h1, h2, h3, h4, h5, h6, h7⟩ := h
  refine ⟨hr.congr (fun k hk => ?_), (hk.block e0 (Array.getElem?_eq_some_iff.1 h2).1 (show e0 ≠ g by omega)).trans h2, h3, h4, h5, h6.trans (hk.below h6.size (fun q hq => by rw [hq]; exact h3)), (hk.block bx (Array.getElem?_eq_some_iff.1 h7).1 h4).trans h7⟩
  unfold onF ovf otf
  rw [partG_succ, if_pos hk, ho]
  rfl

set_option maxHeartbeats 4000000 in
set_option maxRecDepth 100000 in
theorem chOutputs (n E : Nat) (la ga oa : Option Addr) (lc gc oc : Nat) (ls gs : List (Int × Int)) (os : List Int) (f : Nat → Nat) (w : World) (h1 : n ≤ 4) (h2 : ls.length ≤ 4) (h3 : gs.length ≤ 30) (h4 : os.length ≤ 4) (hL : PairsAt w la ls) (hG : PairsAt w ga gs) (hO : IntsAt w oa os)
    (hg : ∀ i, i < gs.length → gateOk (n + ls.length + (i : Nat)) (gs.getD i (0, 0)) = true) (hl : ∀ i, i < ls.length → inB (ls.getD i (0, 0)).1 (2 * (n + ls.length + gs.length) + 1) = true) (ho : ∀ i, i < os.length → inB (os.getD i 0) (2 * (n + ls.length + gs.length) + 1) = true)
    (hE : E + n ≤ 100) (hfl : ∀ s, s < 16 → f s < 9007199254740992) (hpl : ∀ s j k, s < 16 → j ≤ 2 ^ n → otf n ls gs os f s j k < 9007199254740992) :
    Calls Tryz.prog 84 #[.agg #[.int .i64 n, .slice la ls.length lc, .slice ga gs.length gc, .slice oa os.length oc], .agg (arr16 f E)] w fun e w' => ∃ g, e = .returned (.slice (some ⟨g, 0, none⟩) os.length os.length) ∧ w.heap.size ≤ g ∧ w'.rowIs g 106 os.length (ovf (fun k => allG (2 ^ n) (obF n ls gs os k) f) (E + n)) ∧ Below w.heap.size w w' := by
  have hmf : ∀ (fn : Fn) (first cap : Array Value) (w : World), (Instr.makeFunc fn first cap).run Tryz.prog w = .ok (.func fn first cap) w := fun _ _ _ _ => rfl
  have hmk : ∀ W : World, (Instr.makeSlice 74 (.int .i64 (os.length : Nat)) (.int .i64 (os.length : Nat))).run Tryz.prog W = .ok (.slice (some ⟨W.heap.size, 0, none⟩) os.length os.length) (W.alloc (.cells (madeCells #[.float .f64 0] os.length) 106)) := fun W => run_make_row' (P := Tryz.prog) 74 106 (.float .f64 0) 8 Tryz.underlying74 Tryz.infoFloat rfl .i64 .i64 os.length (by omega) (by omega) W
  obtain ⟨W5, hW5⟩ : ∃ W5, W5 = (((w.alloc (.cells #[.int .i64 n, .slice la ls.length lc, .slice ga gs.length gc, .slice oa os.length oc] 34)).alloc (.cells (arr16 f E) 140)).alloc (.cells (madeCells #[.float .f64 0] os.length) 106)).alloc (.cells #[.slice (some ⟨w.heap.size + 2, 0, none⟩) os.length os.length] 74) := ⟨_, rfl⟩
  have s5 : W5.heap.size = w.heap.size + 4 := by rw [hW5]; simp
  have B5 : Below w.heap.size w W5 := by rw [hW5]; exact ((((Below.refl _ _).alloc (Nat.le_refl _) _).alloc (by simp) _).alloc (by simp; omega) _).alloc (by simp; omega) _
  have xC : W5.heap[w.heap.size]? = some (.cells #[.int .i64 n, .slice la ls.length lc, .slice ga gs.length gc, .slice oa os.length oc] 34 (0, 0)) := by rw [hW5]; exact alloc_old (alloc_old (alloc_old (alloc_blk _ _ _ rfl)))
  have xN : W5.heap[w.heap.size + 1]? = some (.cells (arr16 f E) 140 (0, 0)) := by rw [hW5]; exact alloc_old (alloc_old (alloc_blk _ _ _ (by simp)))
  have xB : W5.heap[w.heap.size + 3]? = some (.cells #[.slice (some ⟨w.heap.size + 2, 0, none⟩) os.length os.length] 74 (0, 0)) := by rw [hW5]; exact alloc_blk _ _ _ (by simp)
  have r5 : W5.rowIs (w.heap.size + 2) 106 os.length (ovf (otf n ls gs os f 0 0) (E + n)) := by
    rw [hW5]
    have h := World.rowIs_made ((w.alloc (.cells #[.int .i64 n, .slice la ls.length lc, .slice ga gs.length gc, .slice oa os.length oc] 34)).alloc (.cells (arr16 f E) 140)) (.float .f64 0) os.length 106
    simp only [Deep.nblk_alloc] at h
    exact (h.alloc _).congr (fun k _ => by unfold ovf otf partG; simp only [sumN, Nat.add_zero]; rw [fq_zero])
  have q0 : W5.cell? ⟨w.heap.size, 0, none⟩ = some (.int .i64 n) := by rw [cell_of_row _ _ _ _ _ _ xC]; rfl
  have q1 : W5.cell? ⟨w.heap.size, 1, none⟩ = some (.slice la ls.length lc) := by rw [cell_of_row _ _ _ _ _ _ xC]; rfl
  have q2 : W5.cell? ⟨w.heap.size, 2, none⟩ = some (.slice ga gs.length gc) := by rw [cell_of_row _ _ _ _ _ _ xC]; rfl
  have q3 : W5.cell? ⟨w.heap.size, 3, none⟩ = some (.slice oa os.length oc) := by rw [cell_of_row _ _ _ _ _ _ xC]; rfl
  have d0 : W5.cell? ⟨w.heap.size + 1, 0, none⟩ = some (.float .f64 (fq (f 0) E)) := by rw [cell_of_row _ _ _ _ _ _ xN]; rfl
  have d1 : W5.cell? ⟨w.heap.size + 1, 1, none⟩ = some (.float .f64 (fq (f 1) E)) := by rw [cell_of_row _ _ _ _ _ _ xN]; rfl
  have d2 : W5.cell? ⟨w.heap.size + 1, 2, none⟩ = some (.float .f64 (fq (f 2) E)) := by rw [cell_of_row _ _ _ _ _ _ xN]; rfl
  have d3 : W5.cell? ⟨w.heap.size + 1, 3, none⟩ = some (.float .f64 (fq (f 3) E)) := by rw [cell_of_row _ _ _ _ _ _ xN]; rfl
  have d4 : W5.cell? ⟨w.heap.size + 1, 4, none⟩ = some (.float .f64 (fq (f 4) E)) := by rw [cell_of_row _ _ _ _ _ _ xN]; rfl
  have d5 : W5.cell? ⟨w.heap.size + 1, 5, none⟩ = some (.float .f64 (fq (f 5) E)) := by rw [cell_of_row _ _ _ _ _ _ xN]; rfl
  have d6 : W5.cell? ⟨w.heap.size + 1, 6, none⟩ = some (.float .f64 (fq (f 6) E)) := by rw [cell_of_row _ _ _ _ _ _ xN]; rfl
  have d7 : W5.cell? ⟨w.heap.size + 1, 7, none⟩ = some (.float .f64 (fq (f 7) E)) := by rw [cell_of_row _ _ _ _ _ _ xN]; rfl
  have d8 : W5.cell? ⟨w.heap.size + 1, 8, none⟩ = some (.float .f64 (fq (f 8) E)) := by rw [cell_of_row _ _ _ _ _ _ xN]; rfl
  have d9 : W5.cell? ⟨w.heap.size + 1, 9, none⟩ = some (.float .f64 (fq (f 9) E)) := by rw [cell_of_row _ _ _ _ _ _ xN]; rfl
  have d10 : W5.cell? ⟨w.heap.size + 1, 10, none⟩ = some (.float .f64 (fq (f 10) E)) := by rw [cell_of_row _ _ _ _ _ _ xN]; rfl
  have d11 : W5.cell? ⟨w.heap.size + 1, 11, none⟩ = some (.float .f64 (fq (f 11) E)) := by rw [cell_of_row _ _ _ _ _ _ xN]; rfl
  have d12 : W5.cell? ⟨w.heap.size + 1, 12, none⟩ = some (.float .f64 (fq (f 12) E)) := by rw [cell_of_row _ _ _ _ _ _ xN]; rfl
  have d13 : W5.cell? ⟨w.heap.size + 1, 13, none⟩ = some (.float .f64 (fq (f 13) E)) := by rw [cell_of_row _ _ _ _ _ _ xN]; rfl
  have d14 : W5.cell? ⟨w.heap.size + 1, 14, none⟩ = some (.float .f64 (fq (f 14) E)) := by rw [cell_of_row _ _ _ _ _ _ xN]; rfl
  have d15 : W5.cell? ⟨w.heap.size + 1, 15, none⟩ = some (.float .f64 (fq (f 15) E)) := by rw [cell_of_row _ _ _ _ _ _ xN]; rfl
  go_enter Tryz.func84, Tryz.ntmps84
  go_upto_region 2 with fail
  try simp only [Nat.add_assoc, Nat.reduceAdd]
  rw [← hW5]
  clear hW5
  go_wp2_with fail
  refine (eachStep_outputs n E la ga oa lc gc oc ls gs os f (2 ^ n) (nxF n ls gs) (fun s j => outOf os (vals n ls.length gs s j) os.length) (.pointer (some ⟨w.heap.size + 3, 0, none⟩)) (OtInv w (w.heap.size + 2) (w.heap.size + 3) W5.heap.size n la ga oa lc gc oc ls gs os f E) W5 h1 rfl hE hfl
    (fun W s j hs hj I => (step_any n s j la ga oa lc gc oc ls gs os W h1 h2 h3 h4 hs (by have := pow_le16 h1; omega) (hL.below I.2.2.2.2.2.1) (hG.below I.2.2.2.2.2.1) (hO.below I.2.2.2.2.2.1) hg hl ho).mono fun e w' h => ⟨h.1, I.below h.2⟩)
    (fun W s j hs hj hp I => (outputsCl _ os.length (w.heap.size + 3) (w.heap.size + 2) (f s) (E + n) _ (otf n ls gs os f s j) W (out_lt16 _ h4) h4 (by rw [cell_of_row _ _ _ _ _ _ I.2.2.2.2.2.2]; rfl) (by omega) (I.1.congr (fun k _ => by unfold ovf onF; rw [if_neg (Nat.not_lt_zero _), Nat.add_zero])) (fun k _ => hpl s j k hs (by omega)) (hfl s hs)).mono fun e w' h => ⟨h.1, I.told rfl h.2.1 h.2.2⟩)
    (fun W s hs I => ⟨I.1.congr (fun t _ => by unfold ovf otf; rw [partG_next]), I.2⟩) (fun W s hs h0 I => ⟨I.1.congr (fun t _ => by unfold ovf otf; rw [partG_skip _ _ _ _ h0]), I.2⟩) (fun W s j I => I.2.1)
    ⟨(r5.alloc _).alloc _, alloc_old (alloc_blk _ _ _ rfl), by omega, by omega, by omega, (B5.alloc B5.size _).alloc (by simp; omega) _, alloc_old (alloc_old xB)⟩).mono ?_
  rintro e w6 ⟨rfl, I6⟩
  have r6 := hidK (I6.1.congr (g := ovf (fun k => allG (2 ^ n) (obF n ls gs os k) f) (E + n)) (fun t _ => by unfold ovf otf; rw [partG_all]))
  have b6 := I6.2.2.2.2.2.1
  have x6 : w6.cell? ⟨w.heap.size + 3, 0, none⟩ = some (.slice (some ⟨w.heap.size + 2, 0, none⟩) os.length os.length) := by rw [cell_of_row _ _ _ _ _ _ I6.2.2.2.2.2.2]; rfl
  clear I6 d0 d1 d2 d3 d4 d5 d6 d7 d8 d9 d10 d11 d12 d13 d14 d15 q0 q1 q2 q3
  go_wp2
  go_ret
  exact ⟨w.heap.size + 2, rfl, by omega, r6.out, b6⟩

end Go.Proofs.YtgpaajdfkekjiaaGreatDoor

namespace Go.Proofs.YtgpaajdfkekjiaaGreatDoor
open Go.RowKit

theorem row_arr {w : World} {b E : Nat} {f : Nat → Nat} (h : w.rowIs b 140 16 (fvf f E)) : w.heap[b]? = some (.cells (arr16 f E) 140 (0, 0)) := by
  obtain ⟨c, hc, hs, hi⟩ := h
  have e : c = arr16 f E := by
    apply Array.ext_getElem?
    intro i
    by_cases h : i < 16
    · rw [hi i h, arr16_get f E i h]
      rfl
    · rw [Array.getElem?_eq_none (by omega), Array.getElem?_eq_none (show 16 ≤ i by omega)]
  rw [hc, e]
theorem fq_one : fq 1 0 = 4607182418800017408 := by kernel_rfl
theorem first_row {w : World} {b S : Nat} {g : Nat → Nat} (h : w.rowIs b 140 16 (fvf (fun _ => 0) 0)) (hg : ∀ t, g t = if t = S then 1 else 0) : (w.setCell ⟨b, S, none⟩ (.float .f64 4607182418800017408)).heap[b]? = some (.cells (arr16 g 0) 140 (0, 0)) := by
  refine row_arr ((h.set S _).congr (fun t _ => ?_))
  unfold fvf
  rw [hg t]
  by_cases e : t = S
  · rw [if_pos e, if_pos e, fq_one]
  · rw [if_neg e, if_neg e]

set_option maxHeartbeats 4000000 in
set_option maxRecDepth 100000 in
theorem chOf (n m steps : Nat) (la ga oa : Option Addr) (lc gc oc : Nat) (ls gs : List (Int × Int)) (os : List Int) (w : World) (hst : steps = m + 1) (h10 : m ≤ 9) (h1 : n ≤ 4) (h2 : ls.length ≤ 4) (h3 : gs.length ≤ 30) (h4 : os.length ≤ 4) (hL : PairsAt w la ls) (hG : PairsAt w ga gs) (hO : IntsAt w oa os)
    (hg : ∀ i, i < gs.length → gateOk (n + ls.length + (i : Nat)) (gs.getD i (0, 0)) = true) (hl : ∀ i, i < ls.length → inB (ls.getD i (0, 0)).1 (2 * (n + ls.length + gs.length) + 1) = true) (ho : ∀ i, i < os.length → inB (os.getD i 0) (2 * (n + ls.length + gs.length) + 1) = true)
    (hinit : ∀ i, i < ls.length → inB (ls.getD i (0, 0)).2 1 = true) :
    Calls Tryz.prog 59 #[.agg #[.int .i64 n, .slice la ls.length lc, .slice ga gs.length gc, .slice oa os.length oc], .int .i64 steps] w fun e w' => ∃ g, e = .returned (.slice (some ⟨g, 0, none⟩) os.length os.length) ∧ w.heap.size ≤ g ∧ w'.rowIs g 106 os.length (ovf (chN n ls gs os m) (n * steps)) ∧ Below w.heap.size w w' := by
  obtain ⟨W2, hW2⟩ : ∃ W2, W2 = (w.alloc (.cells #[.int .i64 n, .slice la ls.length lc, .slice ga gs.length gc, .slice oa os.length oc] 34)).alloc (.cells #[.float .f64 0, .float .f64 0, .float .f64 0, .float .f64 0, .float .f64 0, .float .f64 0, .float .f64 0, .float .f64 0, .float .f64 0, .float .f64 0, .float .f64 0, .float .f64 0, .float .f64 0, .float .f64 0, .float .f64 0, .float .f64 0] 140) := ⟨_, rfl⟩
  have s2 : W2.heap.size = w.heap.size + 2 := by rw [hW2]; simp
  have B2 : Below w.heap.size w W2 := by rw [hW2]; exact ((Below.refl _ _).alloc (Nat.le_refl _) _).alloc (by simp) _
  have xC : W2.heap[w.heap.size]? = some (.cells #[.int .i64 n, .slice la ls.length lc, .slice ga gs.length gc, .slice oa os.length oc] 34 (0, 0)) := by rw [hW2]; exact alloc_old (alloc_blk _ _ _ rfl)
  have r2 : W2.rowIs (w.heap.size + 1) 140 16 (fvf (fun _ => 0) 0) := by
    rw [hW2]
    have h := zero16 (w.alloc (.cells #[.int .i64 n, .slice la ls.length lc, .slice ga gs.length gc, .slice oa os.length oc] 34)) 0
    simpa using h
  have q0 : W2.cell? ⟨w.heap.size, 0, none⟩ = some (.int .i64 n) := by rw [cell_of_row _ _ _ _ _ _ xC]; rfl
  have q1 : W2.cell? ⟨w.heap.size, 1, none⟩ = some (.slice la ls.length lc) := by rw [cell_of_row _ _ _ _ _ _ xC]; rfl
  have q2 : W2.cell? ⟨w.heap.size, 2, none⟩ = some (.slice ga gs.length gc) := by rw [cell_of_row _ _ _ _ _ _ xC]; rfl
  have q3 : W2.cell? ⟨w.heap.size, 3, none⟩ = some (.slice oa os.length oc) := by rw [cell_of_row _ _ _ _ _ _ xC]; rfl
  have hw1 : IntKind.i64.wrap ((steps : Int) - 1) = (m : Int) := by rw [wrap_i64']; omega
  have hsf := @run_store_flt Tryz.prog
  have hst16 := start_lt16 (ls := ls) h2
  have HINIT := hidK hinit
  have HST := hidK hst
  clear hst
  go_enter Tryz.func59, Tryz.ntmps59
  go_upto_region 2 with fail
  rw [← hW2]
  clear hW2
  go_wp2_with fail
  refine (start_any _ la lc _ _ ls W2 h2 (hL.below B2) HINIT.out).mono ?_
  rintro e w3 ⟨rfl, b3⟩
  have x3 := (b3.block w.heap.size (by omega)).trans xC
  have r3 := r2.of_block (b3.block (w.heap.size + 1) (by omega))
  have B3 : Below w.heap.size w w3 := B2.trans (b3.mono B2.size)
  obtain ⟨S, hS⟩ : ∃ S, S = startOf ls ls.length := ⟨_, rfl⟩
  rw [← hS] at hst16 ⊢
  have c3 : w3.cell? ⟨w.heap.size + 1, S, none⟩ = some (.float .f64 0) := by
    have h := r3.cell hst16
    unfold fvf at h
    rw [fq_zero] at h
    exact h
  have g3 := r3.frozen S
  have R0 := hidK (first_row (S := S) (g := chW n ls gs 0) r3 (fun t => by rw [chW_zero, hS]))
  have C0 := hidK ((Deep.blk_setCell_other w3 ⟨w.heap.size + 1, S, none⟩ (.float .f64 4607182418800017408) w.heap.size (show w.heap.size ≠ w.heap.size + 1 by omega)).trans x3)
  have E0 := hidK (B3.setCell (p := ⟨w.heap.size + 1, S, none⟩) (show w.heap.size ≤ w.heap.size + 1 by omega) (.float .f64 4607182418800017408))
  have hSI : (S : Int) < 16 := by omega
  have hS0 : (0 : Int) ≤ (S : Int) := by omega
  clear q0 q1 q2 q3 r2 r3 xC x3 hS b3 B3
  go_wp2_with fail
  go_loopw [11] (fun i wr => ∃ k : Nat, k ≤ m ∧ i = .int .i64 k ∧ wr.heap[w.heap.size + 1]? = some (.cells (arr16 (chW n ls gs k) (n * k)) 140 (0, 0)) ∧ wr.heap[w.heap.size]? = some (.cells #[.int .i64 n, .slice la ls.length lc, .slice ga gs.length gc, .slice oa os.length oc] 34 (0, 0)) ∧ Below w.heap.size w wr) (fun i _ => m - (intOf i).toNat)
  case atStart => exact ⟨0, Nat.zero_le _, rfl, R0.out, C0.out, E0.out⟩
  case round =>
    clear R0 C0 E0 c3 g3
    obtain ⟨k, hk, rfl, bN, bC, bel⟩ := hrel
    have zB : w.heap.size + 1 < wr.heap.size := (Array.getElem?_eq_some_iff.1 bN).1
    obtain ⟨f, hf⟩ : ∃ f, f = chW n ls gs k := ⟨_, rfl⟩
    obtain ⟨E, hE⟩ : ∃ E, E = n * k := ⟨_, rfl⟩
    rw [← hf, ← hE] at bN
    have hE9 : E + n ≤ 100 := by
      have h := Nat.mul_le_mul h1 (show k + 1 ≤ 10 by omega)
      rw [Nat.mul_succ, ← hE] at h
      omega
    have hfl : ∀ s, s < 16 → f s < 9007199254740992 := fun s hs => by
      have h := chW_le (n := n) (gs := gs) h1 h2 (k := k) (t := s) (by omega) hs
      rw [hf]; omega
    have HF := hidK hf
    have HE := hidK hE
    have HFL := hidK hfl
    clear hf hE hfl
    have q0 : wr.cell? ⟨w.heap.size, 0, none⟩ = some (.int .i64 n) := by rw [cell_of_row _ _ _ _ _ _ bC]; rfl
    have q1 : wr.cell? ⟨w.heap.size, 1, none⟩ = some (.slice la ls.length lc) := by rw [cell_of_row _ _ _ _ _ _ bC]; rfl
    have q2 : wr.cell? ⟨w.heap.size, 2, none⟩ = some (.slice ga gs.length gc) := by rw [cell_of_row _ _ _ _ _ _ bC]; rfl
    have q3 : wr.cell? ⟨w.heap.size, 3, none⟩ = some (.slice oa os.length oc) := by rw [cell_of_row _ _ _ _ _ _ bC]; rfl
    have d0 : wr.cell? ⟨w.heap.size + 1, 0, none⟩ = some (.float .f64 (fq (f 0) E)) := by rw [cell_of_row _ _ _ _ _ _ bN]; rfl
    have d1 : wr.cell? ⟨w.heap.size + 1, 1, none⟩ = some (.float .f64 (fq (f 1) E)) := by rw [cell_of_row _ _ _ _ _ _ bN]; rfl
    have d2 : wr.cell? ⟨w.heap.size + 1, 2, none⟩ = some (.float .f64 (fq (f 2) E)) := by rw [cell_of_row _ _ _ _ _ _ bN]; rfl
    have d3 : wr.cell? ⟨w.heap.size + 1, 3, none⟩ = some (.float .f64 (fq (f 3) E)) := by rw [cell_of_row _ _ _ _ _ _ bN]; rfl
    have d4 : wr.cell? ⟨w.heap.size + 1, 4, none⟩ = some (.float .f64 (fq (f 4) E)) := by rw [cell_of_row _ _ _ _ _ _ bN]; rfl
    have d5 : wr.cell? ⟨w.heap.size + 1, 5, none⟩ = some (.float .f64 (fq (f 5) E)) := by rw [cell_of_row _ _ _ _ _ _ bN]; rfl
    have d6 : wr.cell? ⟨w.heap.size + 1, 6, none⟩ = some (.float .f64 (fq (f 6) E)) := by rw [cell_of_row _ _ _ _ _ _ bN]; rfl
    have d7 : wr.cell? ⟨w.heap.size + 1, 7, none⟩ = some (.float .f64 (fq (f 7) E)) := by rw [cell_of_row _ _ _ _ _ _ bN]; rfl
    have d8 : wr.cell? ⟨w.heap.size + 1, 8, none⟩ = some (.float .f64 (fq (f 8) E)) := by rw [cell_of_row _ _ _ _ _ _ bN]; rfl
    have d9 : wr.cell? ⟨w.heap.size + 1, 9, none⟩ = some (.float .f64 (fq (f 9) E)) := by rw [cell_of_row _ _ _ _ _ _ bN]; rfl
    have d10 : wr.cell? ⟨w.heap.size + 1, 10, none⟩ = some (.float .f64 (fq (f 10) E)) := by rw [cell_of_row _ _ _ _ _ _ bN]; rfl
    have d11 : wr.cell? ⟨w.heap.size + 1, 11, none⟩ = some (.float .f64 (fq (f 11) E)) := by rw [cell_of_row _ _ _ _ _ _ bN]; rfl
    have d12 : wr.cell? ⟨w.heap.size + 1, 12, none⟩ = some (.float .f64 (fq (f 12) E)) := by rw [cell_of_row _ _ _ _ _ _ bN]; rfl
    have d13 : wr.cell? ⟨w.heap.size + 1, 13, none⟩ = some (.float .f64 (fq (f 13) E)) := by rw [cell_of_row _ _ _ _ _ _ bN]; rfl
    have d14 : wr.cell? ⟨w.heap.size + 1, 14, none⟩ = some (.float .f64 (fq (f 14) E)) := by rw [cell_of_row _ _ _ _ _ _ bN]; rfl
    have d15 : wr.cell? ⟨w.heap.size + 1, 15, none⟩ = some (.float .f64 (fq (f 15) E)) := by rw [cell_of_row _ _ _ _ _ _ bN]; rfl
    by_cases hk2 : k < m
    · have hkI : (k : Int) < (m : Int) := by omega
      have call := chBehind n E la ga oa lc gc oc ls gs os f wr h1 h2 h3 h4 (hL.below bel) (hG.below bel) (hO.below bel) hg hl ho hE9 HFL.out (fun s j t hs hj => by
        have h := partW_le40 (gs := gs) h1 h2 (k := k) (by omega) hs hj t
        rw [← HF.out] at h
        omega)
      obtain ⟨G, hG9⟩ : ∃ G, G = wayStep (nxF n ls gs) (2 ^ n) f := ⟨_, rfl⟩
      rw [← hG9] at call
      have HG9 := hidK hG9
      clear hG9
      go_wp2_with fail
      refine call.mono ?_
      rintro e w5 ⟨rfl, b5⟩
      have y5 := (b5.block (w.heap.size + 1) zB).trans bN
      have x5 := (b5.block w.heap.size (by omega)).trans bC
      have b9 : Below w.heap.size w w5 := bel.trans (b5.mono bel.size)
      clear d0 d1 d2 d3 d4 d5 d6 d7 d8 d9 d10 d11 d12 d13 d14 d15 q0 q1 q2 q3 call bN bC
      have u0 : w5.cell? ⟨w.heap.size + 1, 0, none⟩ = some (.float .f64 (fq (f 0) E)) := by rw [cell_of_row _ _ _ _ _ _ y5]; rfl
      have v0 : w5.frozen? ⟨w.heap.size + 1, 0, none⟩ = false := frozen_of_row _ _ _ _ _ y5
      have u1 : w5.cell? ⟨w.heap.size + 1, 1, none⟩ = some (.float .f64 (fq (f 1) E)) := by rw [cell_of_row _ _ _ _ _ _ y5]; rfl
      have v1 : w5.frozen? ⟨w.heap.size + 1, 1, none⟩ = false := frozen_of_row _ _ _ _ _ y5
      have u2 : w5.cell? ⟨w.heap.size + 1, 2, none⟩ = some (.float .f64 (fq (f 2) E)) := by rw [cell_of_row _ _ _ _ _ _ y5]; rfl
      have v2 : w5.frozen? ⟨w.heap.size + 1, 2, none⟩ = false := frozen_of_row _ _ _ _ _ y5
      have u3 : w5.cell? ⟨w.heap.size + 1, 3, none⟩ = some (.float .f64 (fq (f 3) E)) := by rw [cell_of_row _ _ _ _ _ _ y5]; rfl
      have v3 : w5.frozen? ⟨w.heap.size + 1, 3, none⟩ = false := frozen_of_row _ _ _ _ _ y5
      have u4 : w5.cell? ⟨w.heap.size + 1, 4, none⟩ = some (.float .f64 (fq (f 4) E)) := by rw [cell_of_row _ _ _ _ _ _ y5]; rfl
      have v4 : w5.frozen? ⟨w.heap.size + 1, 4, none⟩ = false := frozen_of_row _ _ _ _ _ y5
      have u5 : w5.cell? ⟨w.heap.size + 1, 5, none⟩ = some (.float .f64 (fq (f 5) E)) := by rw [cell_of_row _ _ _ _ _ _ y5]; rfl
      have v5 : w5.frozen? ⟨w.heap.size + 1, 5, none⟩ = false := frozen_of_row _ _ _ _ _ y5
      have u6 : w5.cell? ⟨w.heap.size + 1, 6, none⟩ = some (.float .f64 (fq (f 6) E)) := by rw [cell_of_row _ _ _ _ _ _ y5]; rfl
      have v6 : w5.frozen? ⟨w.heap.size + 1, 6, none⟩ = false := frozen_of_row _ _ _ _ _ y5
      have u7 : w5.cell? ⟨w.heap.size + 1, 7, none⟩ = some (.float .f64 (fq (f 7) E)) := by rw [cell_of_row _ _ _ _ _ _ y5]; rfl
      have v7 : w5.frozen? ⟨w.heap.size + 1, 7, none⟩ = false := frozen_of_row _ _ _ _ _ y5
      have u8 : w5.cell? ⟨w.heap.size + 1, 8, none⟩ = some (.float .f64 (fq (f 8) E)) := by rw [cell_of_row _ _ _ _ _ _ y5]; rfl
      have v8 : w5.frozen? ⟨w.heap.size + 1, 8, none⟩ = false := frozen_of_row _ _ _ _ _ y5
      have u9 : w5.cell? ⟨w.heap.size + 1, 9, none⟩ = some (.float .f64 (fq (f 9) E)) := by rw [cell_of_row _ _ _ _ _ _ y5]; rfl
      have v9 : w5.frozen? ⟨w.heap.size + 1, 9, none⟩ = false := frozen_of_row _ _ _ _ _ y5
      have u10 : w5.cell? ⟨w.heap.size + 1, 10, none⟩ = some (.float .f64 (fq (f 10) E)) := by rw [cell_of_row _ _ _ _ _ _ y5]; rfl
      have v10 : w5.frozen? ⟨w.heap.size + 1, 10, none⟩ = false := frozen_of_row _ _ _ _ _ y5
      have u11 : w5.cell? ⟨w.heap.size + 1, 11, none⟩ = some (.float .f64 (fq (f 11) E)) := by rw [cell_of_row _ _ _ _ _ _ y5]; rfl
      have v11 : w5.frozen? ⟨w.heap.size + 1, 11, none⟩ = false := frozen_of_row _ _ _ _ _ y5
      have u12 : w5.cell? ⟨w.heap.size + 1, 12, none⟩ = some (.float .f64 (fq (f 12) E)) := by rw [cell_of_row _ _ _ _ _ _ y5]; rfl
      have v12 : w5.frozen? ⟨w.heap.size + 1, 12, none⟩ = false := frozen_of_row _ _ _ _ _ y5
      have u13 : w5.cell? ⟨w.heap.size + 1, 13, none⟩ = some (.float .f64 (fq (f 13) E)) := by rw [cell_of_row _ _ _ _ _ _ y5]; rfl
      have v13 : w5.frozen? ⟨w.heap.size + 1, 13, none⟩ = false := frozen_of_row _ _ _ _ _ y5
      have u14 : w5.cell? ⟨w.heap.size + 1, 14, none⟩ = some (.float .f64 (fq (f 14) E)) := by rw [cell_of_row _ _ _ _ _ _ y5]; rfl
      have v14 : w5.frozen? ⟨w.heap.size + 1, 14, none⟩ = false := frozen_of_row _ _ _ _ _ y5
      have u15 : w5.cell? ⟨w.heap.size + 1, 15, none⟩ = some (.float .f64 (fq (f 15) E)) := by rw [cell_of_row _ _ _ _ _ _ y5]; rfl
      have v15 : w5.frozen? ⟨w.heap.size + 1, 15, none⟩ = false := frozen_of_row _ _ _ _ _ y5
      have X9 : Hid (((((((((((((((((w5.setCell ⟨w.heap.size + 1, 0, none⟩ (.float .f64 (fq (G 0) (E + n)))).setCell ⟨w.heap.size + 1, 1, none⟩ (.float .f64 (fq (G 1) (E + n)))).setCell ⟨w.heap.size + 1, 2, none⟩ (.float .f64 (fq (G 2) (E + n)))).setCell ⟨w.heap.size + 1, 3, none⟩ (.float .f64 (fq (G 3) (E + n)))).setCell ⟨w.heap.size + 1, 4, none⟩ (.float .f64 (fq (G 4) (E + n)))).setCell ⟨w.heap.size + 1, 5, none⟩ (.float .f64 (fq (G 5) (E + n)))).setCell ⟨w.heap.size + 1, 6, none⟩ (.float .f64 (fq (G 6) (E + n)))).setCell ⟨w.heap.size + 1, 7, none⟩ (.float .f64 (fq (G 7) (E + n)))).setCell ⟨w.heap.size + 1, 8, none⟩ (.float .f64 (fq (G 8) (E + n)))).setCell ⟨w.heap.size + 1, 9, none⟩ (.float .f64 (fq (G 9) (E + n)))).setCell ⟨w.heap.size + 1, 10, none⟩ (.float .f64 (fq (G 10) (E + n)))).setCell ⟨w.heap.size + 1, 11, none⟩ (.float .f64 (fq (G 11) (E + n)))).setCell ⟨w.heap.size + 1, 12, none⟩ (.float .f64 (fq (G 12) (E + n)))).setCell ⟨w.heap.size + 1, 13, none⟩ (.float .f64 (fq (G 13) (E + n)))).setCell ⟨w.heap.size + 1, 14, none⟩ (.float .f64 (fq (G 14) (E + n)))).setCell ⟨w.heap.size + 1, 15, none⟩ (.float .f64 (fq (G 15) (E + n)))).heap[w.heap.size + 1]? = some (.cells (arr16 (chW n ls gs (k + 1)) (n * (k + 1))) 140 (0, 0))) := by
        refine hidK (show _ = _ from ?_)
        rw [show n * (k + 1) = E + n by rw [Nat.mul_succ, HE.out], show chW n ls gs (k + 1) = G by rw [HG9.out, HF.out]; rfl]
        exact set16 y5
      simp only [arr16]
      go_wp2
      go_roundw
      case rel => exact ⟨k + 1, by omega, by go_num, X9.out, other16 x5 (show w.heap.size ≠ w.heap.size + 1 by omega), below16 b9 (show w.heap.size ≤ w.heap.size + 1 by omega)⟩
      case measure => simp [intOf]; omega
    · have hkI : ¬ ((k : Int) < (m : Int)) := by omega
      have HK := hidK (show k = m by omega)
      have call := chOutputs n E la ga oa lc gc oc ls gs os f wr h1 h2 h3 h4 (hL.below bel) (hG.below bel) (hO.below bel) hg hl ho hE9 HFL.out (fun s j i hs hj => by
        have h := partG_le40 (gs := gs) (g := obF n ls gs os i) (fun s j => obF_le i s j) h1 h2 (k := k) (by omega) hs hj
        rw [← HF.out] at h
        unfold otf
        omega)
      go_wp2_with fail
      refine call.mono ?_
      rintro e w5 ⟨g, rfl, hgB, r5, b5⟩
      clear call d0 d1 d2 d3 d4 d5 d6 d7 d8 d9 d10 d11 d12 d13 d14 d15 q0 q1 q2 q3
      have R5 := hidK (r5.congr (g := ovf (chN n ls gs os m) (n * steps)) (fun i _ => by
        unfold ovf chN
        rw [HST.out, Nat.mul_succ, ← HK.out, ← HE.out, ← HF.out]))
      clear r5
      go_wp2
      go_ret
      exact ⟨g, rfl, by have := bel.size; omega, R5.out, bel.trans (b5.mono bel.size)⟩

end Go.Proofs.YtgpaajdfkekjiaaGreatDoor

namespace Go.Proofs.YtgpaajdfkekjiaaGreatDoor
open Go.RowKit

set_option maxHeartbeats 1000000 in
set_option maxRecDepth 100000 in
theorem latchCh_ok (n steps : Nat) (la ga oa : Option Addr) (lc gc oc : Nat) (ls gs : List (Int × Int)) (os : List Int) (w : World) (hr : rightB n ls gs os = true) (h1 : 1 ≤ steps) (h10 : steps ≤ 10) (hL : PairsAt w la ls) (hG : PairsAt w ga gs) (hO : IntsAt w oa os) :
    Calls Tryz.prog 29 #[.agg #[.int .i64 n, .slice la ls.length lc, .slice ga gs.length gc, .slice oa os.length oc], .int .i64 steps] w fun e w' => ∃ g, e = .returned (.tuple #[.slice (some ⟨g, 0, none⟩) os.length os.length, .int .i64 0]) ∧ w'.ownsRow w.heap.size 106 1 (.slice (some ⟨g, 0, none⟩) os.length os.length) os.length (fvals (chL n ls gs os steps)) ∧ Below w.heap.size w w' := by
  obtain ⟨W2, hW2⟩ : ∃ W2, W2 = w.alloc (.cells #[.int .i64 n, .slice la ls.length lc, .slice ga gs.length gc, .slice oa os.length oc] 34) := ⟨_, rfl⟩
  have s2 : W2.heap.size = w.heap.size + 1 := by rw [hW2]; simp
  have B2 : Below w.heap.size w W2 := by rw [hW2]; exact (Below.refl _ _).alloc (Nat.le_refl _) _
  have bC2 : W2.heap[w.heap.size]? = some (.cells #[.int .i64 n, .slice la ls.length lc, .slice ga gs.length gc, .slice oa os.length oc] 34 (0, 0)) := by rw [hW2]; exact alloc_blk _ _ _ rfl
  have q0 : W2.cell? ⟨w.heap.size, 0, none⟩ = some (.int .i64 n) := by rw [cell_of_row _ _ _ _ _ _ bC2]; rfl
  have q1 : W2.cell? ⟨w.heap.size, 1, none⟩ = some (.slice la ls.length lc) := by rw [cell_of_row _ _ _ _ _ _ bC2]; rfl
  have q2 : W2.cell? ⟨w.heap.size, 2, none⟩ = some (.slice ga gs.length gc) := by rw [cell_of_row _ _ _ _ _ _ bC2]; rfl
  have q3 : W2.cell? ⟨w.heap.size, 3, none⟩ = some (.slice oa os.length oc) := by rw [cell_of_row _ _ _ _ _ _ bC2]; rfl
  have rg := right_is (lc := lc) (gc := gc) (oc := oc) W2 (hL.below B2) (hG.below B2) (hO.below B2) hr
  obtain ⟨⟨_, hn4', hl4, ho4, hg30⟩, hokl, hgat, hout⟩ := rightB_pos hr
  have hn4 : n ≤ 4 := by omega
  have hinit := hidK (show ∀ i, i < ls.length → inB (ls.getD i (0, 0)).2 1 = true from fun i h => by have := hokl i h; simp only [latchOk, Bool.and_eq_true] at this; exact this.2)
  have hnext := hidK (show ∀ i, i < ls.length → inB (ls.getD i (0, 0)).1 (2 * (n + ls.length + gs.length) + 1) = true from fun i h => by have := hokl i h; simp only [latchOk, Bool.and_eq_true] at this; exact this.1)
  have HG9 := hidK hgat
  have HO9 := hidK hout
  have t1 : decide ((steps : Int) < 1) = false := by simp; omega
  have t2 : decide ((10 : Int) < (steps : Int)) = false := by simp; omega
  obtain ⟨m, hm⟩ : ∃ m, steps = m + 1 := ⟨steps - 1, by omega⟩
  have HM := hidK hm
  clear hokl hgat hout hr hn4' hm
  go_enter Tryz.func29, Tryz.ntmps29
  go_upto_region 1 with fail
  rw [← hW2]
  clear hW2
  go_wp2_with fail
  refine rg.mono ?_
  rintro e W3 ⟨rfl, b3⟩
  have B3 : Below w.heap.size w W3 := B2.trans (b3.mono B2.size)
  have s3 := b3.size
  have bC3 := (b3.block w.heap.size (by omega)).trans bC2
  clear rg q0 q1 q2 q3 bC2
  have q0 : W3.cell? ⟨w.heap.size, 0, none⟩ = some (.int .i64 n) := by rw [cell_of_row _ _ _ _ _ _ bC3]; rfl
  have q1 : W3.cell? ⟨w.heap.size, 1, none⟩ = some (.slice la ls.length lc) := by rw [cell_of_row _ _ _ _ _ _ bC3]; rfl
  have q2 : W3.cell? ⟨w.heap.size, 2, none⟩ = some (.slice ga gs.length gc) := by rw [cell_of_row _ _ _ _ _ _ bC3]; rfl
  have q3 : W3.cell? ⟨w.heap.size, 3, none⟩ = some (.slice oa os.length oc) := by rw [cell_of_row _ _ _ _ _ _ bC3]; rfl
  have call := chOf n m steps la ga oa lc gc oc ls gs os W3 HM.out (by have := HM.out; omega) hn4 hl4 hg30 ho4 (hL.below B3) (hG.below B3) (hO.below B3) HG9.out hnext.out HO9.out hinit.out
  go_wp2_with fail
  refine call.mono ?_
  rintro e W4 ⟨g, rfl, hg, r4, b4⟩
  have own := hidK (own_row (base := w.heap.size) (xs := chL n ls gs os steps) r4 (by omega) (by omega) (chL_len n ls gs os steps) (fun i hi => by
    unfold ovf
    rw [show m = steps - 1 by have := HM.out; omega]
    simp [chL, hi]))
  clear call q0 q1 q2 q3 r4
  go_wp2
  go_ret2
  exact ⟨g, rfl, own.out, B3.trans (b4.mono B3.size)⟩

end Go.Proofs.YtgpaajdfkekjiaaGreatDoor
