/-
  outputs of package chances: how likely each output is.
-/
import Derived.Test.YtgpaajdfkekjiabChBh
namespace Go.Proofs.Ytgpaajdfkekjiab
open Go.RowKit

/-- A row of floats is owned as a list. -/
theorem own_row {w : World} {base g t m : Nat} {f : Nat → Value} {xs : List Nat} (h : w.rowIs g t m f) (hb : base ≤ g) (hm : m ≤ 1000) (hl : xs.length = m) (hx : ∀ i, i < m → f i = .float .f64 (xs.getD i 0)) :
    w.ownsRow base t 1 (.slice (some ⟨g, 0, none⟩) m m) m (fvals xs) := by
  obtain ⟨c, hc, hs, hi⟩ := h
  refine ⟨by simp [fvals, hl], .inr ⟨g, m, c, rfl, hb, hc, Nat.le_refl _, by unfold maxLen; omega, by omega, ?_⟩⟩
  apply List.ext_getElem?
  intro i
  by_cases h : i < m
  · rw [List.getElem?_take, if_pos (by omega), Array.getElem?_toList, hi i h, hx i h]
    have : i < xs.length := by omega
    simp [fvals, this]
  · rw [List.getElem?_eq_none (by simp; omega), List.getElem?_eq_none (by simp [fvals]; omega)]

/-- The chances of the outputs so far. -/
def otf (n : Nat) (ls gs : List (Int × Int)) (os : List Int) (f : Nat → Nat) (s j k : Nat) : Nat := partG (2 ^ n) (obF n ls gs os k) f s j
def ovf (g : Nat → Nat) (E k : Nat) : Value := .float .f64 (fq (g k) E)

/-- What stands while outputs counts: g the list's block, bx the box of its variable, e0 the size at eachStep's call. -/
def OtInv (w : World) (g bx e0 : Nat) (n : Nat) (la ga oa : Option Addr) (lc gc oc : Nat) (ls gs : List (Int × Int)) (os : List Int) (f : Nat → Nat) (E s j : Nat) (W : World) : Prop :=
  W.rowIs g 34 os.length (ovf (otf n ls gs os f s j) (E + n)) ∧ W.heap[e0]? = some (.cells #[.int .i64 n, .slice la ls.length lc, .slice ga gs.length gc, .slice oa os.length oc] 26 (0, 0)) ∧ w.heap.size ≤ g ∧ bx ≠ g ∧ g < e0 ∧ Below w.heap.size w W ∧ W.heap[bx]? = some (.cells #[.slice (some ⟨g, 0, none⟩) os.length os.length] 30 (0, 0))
theorem OtInv.below {w : World} {g bx e0 n : Nat} {la ga oa : Option Addr} {lc gc oc : Nat} {ls gs : List (Int × Int)} {os : List Int} {f : Nat → Nat} {E s j : Nat} {W W' : World} (h : OtInv w g bx e0 n la ga oa lc gc oc ls gs os f E s j W) (hb : Below W.heap.size W W') : OtInv w g bx e0 n la ga oa lc gc oc ls gs os f E s j W' := by
  obtain ⟨h1, h2, h3, h4, h5, h6, h7⟩ := h
  exact ⟨h1.of_block (hb.block g h1.lt), (hb.block e0 (Array.getElem?_eq_some_iff.1 h2).1).trans h2, h3, h4, h5, h6.trans (hb.mono h6.size), (hb.block _ (Array.getElem?_eq_some_iff.1 h7).1).trans h7⟩
theorem OtInv.told {w : World} {g bx e0 n : Nat} {la ga oa : Option Addr} {lc gc oc : Nat} {ls gs : List (Int × Int)} {os : List Int} {f : Nat → Nat} {E s j o : Nat} {W W' : World} (h : OtInv w g bx e0 n la ga oa lc gc oc ls gs os f E s j W) (ho : o = outOf os (vals n ls.length gs s j) os.length)
    (hr : W'.rowIs g 34 os.length (onF (otf n ls gs os f s j) o (f s) (E + n) os.length)) (hk : Keeps (fun q => q = g) W W') : OtInv w g bx e0 n la ga oa lc gc oc ls gs os f E s (j + 1) W' := by
  obtain ⟨h1, h2, h3, h4, h5, h6, h7⟩ := h
  refine ⟨hr.congr (fun k hk => ?_), (hk.block e0 (Array.getElem?_eq_some_iff.1 h2).1 (show e0 ≠ g by omega)).trans h2, h3, h4, h5, h6.trans (hk.below h6.size (fun q hq => by rw [hq]; exact h3)), (hk.block bx (Array.getElem?_eq_some_iff.1 h7).1 h4).trans h7⟩
  unfold onF ovf otf
  rw [partG_succ, if_pos hk, ho]
  rfl

set_option maxHeartbeats 4000000 in
set_option maxRecDepth 100000 in
theorem chOutputs (n E : Nat) (la ga oa : Option Addr) (lc gc oc : Nat) (ls gs : List (Int × Int)) (os : List Int) (f : Nat → Nat) (w : World) (h1 : n ≤ 4) (h2 : ls.length ≤ 4) (h3 : gs.length ≤ 30) (h4 : os.length ≤ 4) (hL : PairsAt w la ls) (hG : PairsAt w ga gs) (hO : IntsAt w oa os)
    (hg : ∀ i, i < gs.length → gateOk (n + ls.length + (i : Nat)) (gs.getD i (0, 0)) = true) (hl : ∀ i, i < ls.length → inB (ls.getD i (0, 0)).1 (2 * (n + ls.length + gs.length) + 1) = true) (ho : ∀ i, i < os.length → inB (os.getD i 0) (2 * (n + ls.length + gs.length) + 1) = true)
    (hE : E + n ≤ 100) (hfl : ∀ s, s < 16 → f s < 9007199254740992) (hpl : ∀ s j k, s < 16 → j ≤ 2 ^ n → otf n ls gs os f s j k < 9007199254740992) :
    Calls Try.prog 21 #[.agg #[.int .i64 n, .slice la ls.length lc, .slice ga gs.length gc, .slice oa os.length oc], .agg (arr16 f E)] w fun e w' => ∃ g, e = .returned (.slice (some ⟨g, 0, none⟩) os.length os.length) ∧ w.heap.size ≤ g ∧ w'.rowIs g 34 os.length (ovf (fun k => allG (2 ^ n) (obF n ls gs os k) f) (E + n)) ∧ Below w.heap.size w w' := by
  have hmf : ∀ (fn : Fn) (first cap : Array Value) (w : World), (Instr.makeFunc fn first cap).run Try.prog w = .ok (.func fn first cap) w := fun _ _ _ _ => rfl
  have hmk : ∀ W : World, (Instr.makeSlice 30 (.int .i64 (os.length : Nat)) (.int .i64 (os.length : Nat))).run Try.prog W = .ok (.slice (some ⟨W.heap.size, 0, none⟩) os.length os.length) (W.alloc (.cells (madeCells #[.float .f64 0] os.length) 34)) := fun W => run_make_row' (P := Try.prog) 30 34 (.float .f64 0) 8 Try.underlying30 Try.infoFloat rfl .i64 .i64 os.length (by omega) (by omega) W
  obtain ⟨W5, hW5⟩ : ∃ W5, W5 = (((w.alloc (.cells #[.int .i64 n, .slice la ls.length lc, .slice ga gs.length gc, .slice oa os.length oc] 26)).alloc (.cells (arr16 f E) 52)).alloc (.cells (madeCells #[.float .f64 0] os.length) 34)).alloc (.cells #[.slice (some ⟨w.heap.size + 2, 0, none⟩) os.length os.length] 30) := ⟨_, rfl⟩
  have s5 : W5.heap.size = w.heap.size + 4 := by rw [hW5]; simp
  have B5 : Below w.heap.size w W5 := by rw [hW5]; exact ((((Below.refl _ _).alloc (Nat.le_refl _) _).alloc (by simp) _).alloc (by simp; omega) _).alloc (by simp; omega) _
  have xC : W5.heap[w.heap.size]? = some (.cells #[.int .i64 n, .slice la ls.length lc, .slice ga gs.length gc, .slice oa os.length oc] 26 (0, 0)) := by rw [hW5]; exact alloc_old (alloc_old (alloc_old (alloc_blk _ _ _ rfl)))
  have xN : W5.heap[w.heap.size + 1]? = some (.cells (arr16 f E) 52 (0, 0)) := by rw [hW5]; exact alloc_old (alloc_old (alloc_blk _ _ _ (by simp)))
  have xB : W5.heap[w.heap.size + 3]? = some (.cells #[.slice (some ⟨w.heap.size + 2, 0, none⟩) os.length os.length] 30 (0, 0)) := by rw [hW5]; exact alloc_blk _ _ _ (by simp)
  have r5 : W5.rowIs (w.heap.size + 2) 34 os.length (ovf (otf n ls gs os f 0 0) (E + n)) := by
    rw [hW5]
    have h := World.rowIs_made ((w.alloc (.cells #[.int .i64 n, .slice la ls.length lc, .slice ga gs.length gc, .slice oa os.length oc] 26)).alloc (.cells (arr16 f E) 52)) (.float .f64 0) os.length 34
    simp only [Deep.nblk_alloc] at h
    exact (h.alloc _).congr (fun k _ => by unfold ovf otf partG; simp only [sumN, Nat.add_zero]; rw [fq_zero])
  have q0 : W5.cell? ⟨w.heap.size, 0, none⟩ = some (.int .i64 n) := by rw [cell_of_row _ _ _ _ _ _ xC]; rfl
  have q1 : W5.cell? ⟨w.heap.size, 1, none⟩ = some (.slice la ls.length lc) := by rw [cell_of_row _ _ _ _ _ _ xC]; rfl
  have q2 : W5.cell? ⟨w.heap.size, 2, none⟩ = some (.slice ga gs.length gc) := by rw [cell_of_row _ _ _ _ _ _ xC]; rfl
  have q3 : W5.cell? ⟨w.heap.size, 3, none⟩ = some (.slice oa os.length oc) := by rw [cell_of_row _ _ _ _ _ _ xC]; rfl
  have d0 : W5.cell? ⟨w.heap.size + 1, 0, none⟩ = some (.float .f64 (fq (f 0) E)) := by rw [cell_of_row _ _ _ _ _ _ xN]; rfl
  have d1 : W5.cell? ⟨w.heap.size + 1, 1, none⟩ = some (.float .f64 (fq (f 1) E)) := by rw [cell_of_row _ _ _ _ _ _ xN]; rfl
  have d2 : W5.cell? ⟨w.heap.size + 1, 2, none⟩ = some (.float .f64 (fq (f 2) E)) := by rw [cell_of_row _ _ _ _ _ _ xN]; rfl
  have d3 : W5.cell? ⟨w.heap.size + 1, 3, none⟩ = some (.float .f64 (fq (f 3) E)) := by rw [cell_of_row _ _ _ _ _ _ xN]; rfl
  have d4 : W5.cell? ⟨w.heap.size + 1, 4, none⟩ = some (.float .f64 (fq (f 4) E)) := by rw [cell_of_row _ _ _ _ _ _ xN]; rfl
  have d5 : W5.cell? ⟨w.heap.size + 1, 5, none⟩ = some (.float .f64 (fq (f 5) E)) := by rw [cell_of_row _ _ _ _ _ _ xN]; rfl
  have d6 : W5.cell? ⟨w.heap.size + 1, 6, none⟩ = some (.float .f64 (fq (f 6) E)) := by rw [cell_of_row _ _ _ _ _ _ xN]; rfl
  have d7 : W5.cell? ⟨w.heap.size + 1, 7, none⟩ = some (.float .f64 (fq (f 7) E)) := by rw [cell_of_row _ _ _ _ _ _ xN]; rfl
  have d8 : W5.cell? ⟨w.heap.size + 1, 8, none⟩ = some (.float .f64 (fq (f 8) E)) := by rw [cell_of_row _ _ _ _ _ _ xN]; rfl
  have d9 : W5.cell? ⟨w.heap.size + 1, 9, none⟩ = some (.float .f64 (fq (f 9) E)) := by rw [cell_of_row _ _ _ _ _ _ xN]; rfl
  have d10 : W5.cell? ⟨w.heap.size + 1, 10, none⟩ = some (.float .f64 (fq (f 10) E)) := by rw [cell_of_row _ _ _ _ _ _ xN]; rfl
  have d11 : W5.cell? ⟨w.heap.size + 1, 11, none⟩ = some (.float .f64 (fq (f 11) E)) := by rw [cell_of_row _ _ _ _ _ _ xN]; rfl
  have d12 : W5.cell? ⟨w.heap.size + 1, 12, none⟩ = some (.float .f64 (fq (f 12) E)) := by rw [cell_of_row _ _ _ _ _ _ xN]; rfl
  have d13 : W5.cell? ⟨w.heap.size + 1, 13, none⟩ = some (.float .f64 (fq (f 13) E)) := by rw [cell_of_row _ _ _ _ _ _ xN]; rfl
  have d14 : W5.cell? ⟨w.heap.size + 1, 14, none⟩ = some (.float .f64 (fq (f 14) E)) := by rw [cell_of_row _ _ _ _ _ _ xN]; rfl
  have d15 : W5.cell? ⟨w.heap.size + 1, 15, none⟩ = some (.float .f64 (fq (f 15) E)) := by rw [cell_of_row _ _ _ _ _ _ xN]; rfl
  go_enter Try.func21, Try.ntmps21
  go_upto_region 2 with fail
  try simp only [Nat.add_assoc, Nat.reduceAdd]
  rw [← hW5]
  clear hW5
  go_wp2_with fail
  refine (eachStep_outputs n E la ga oa lc gc oc ls gs os f (2 ^ n) (nxF n ls gs) (fun s j => outOf os (vals n ls.length gs s j) os.length) (.pointer (some ⟨w.heap.size + 3, 0, none⟩)) (OtInv w (w.heap.size + 2) (w.heap.size + 3) W5.heap.size n la ga oa lc gc oc ls gs os f E) W5 h1 rfl hE hfl
    (fun W s j hs hj I => (step_any n s j la ga oa lc gc oc ls gs os W h1 h2 h3 h4 hs (by have := pow_le16 h1; omega) (hL.below I.2.2.2.2.2.1) (hG.below I.2.2.2.2.2.1) (hO.below I.2.2.2.2.2.1) hg hl ho).mono fun e w' h => ⟨h.1, I.below h.2⟩)
    (fun W s j hs hj hp I => (outputsCl _ os.length (w.heap.size + 3) (w.heap.size + 2) (f s) (E + n) _ (otf n ls gs os f s j) W (out_lt16 _ h4) h4 (by rw [cell_of_row _ _ _ _ _ _ I.2.2.2.2.2.2]; rfl) (by omega) (I.1.congr (fun k _ => by unfold ovf onF; rw [if_neg (Nat.not_lt_zero _), Nat.add_zero])) (fun k _ => hpl s j k hs (by omega)) (hfl s hs)).mono fun e w' h => ⟨h.1, I.told rfl h.2.1 h.2.2⟩)
    (fun W s hs I => ⟨I.1.congr (fun t _ => by unfold ovf otf; rw [partG_next]), I.2⟩) (fun W s hs h0 I => ⟨I.1.congr (fun t _ => by unfold ovf otf; rw [partG_skip _ _ _ _ h0]), I.2⟩) (fun W s j I => I.2.1)
    ⟨(r5.alloc _).alloc _, alloc_old (alloc_blk _ _ _ rfl), by omega, by omega, by omega, (B5.alloc B5.size _).alloc (by simp; omega) _, alloc_old (alloc_old xB)⟩).mono ?_
  rintro e w6 ⟨rfl, I6⟩
  have r6 := hidK (I6.1.congr (g := ovf (fun k => allG (2 ^ n) (obF n ls gs os k) f) (E + n)) (fun t _ => by unfold ovf otf; rw [partG_all]))
  have b6 := I6.2.2.2.2.2.1
  have x6 : w6.cell? ⟨w.heap.size + 3, 0, none⟩ = some (.slice (some ⟨w.heap.size + 2, 0, none⟩) os.length os.length) := by rw [cell_of_row _ _ _ _ _ _ I6.2.2.2.2.2.2]; rfl
  clear I6 d0 d1 d2 d3 d4 d5 d6 d7 d8 d9 d10 d11 d12 d13 d14 d15 q0 q1 q2 q3
  go_wp2
  go_ret
  exact ⟨w.heap.size + 2, rfl, by omega, r6.out, b6⟩

end Go.Proofs.Ytgpaajdfkekjiab
