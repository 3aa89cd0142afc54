/-
  What untouched of package latchlaw answers of a circuit that was handed in and reads as it did: true; it writes into the lists that were handed in alone.
-/
import Derived.Test.YtgpaajdfkekjiaaGreatDoorHanded
namespace Go.Proofs.YtgpaajdfkekjiaaGreatDoor
open Go.RowKit

/-- While the owner looks: k places have been written over. -/
def hPairDone (ps : List (Int × Int)) (k j : Nat) : Value := if j < k * 2 then .int .i64 (if j % 2 = 0 then 1 else 0) else hPair ps j
theorem hPairDone_step {ps : List (Int × Int)} {k j : Nat} : (if j = k * 2 + 1 then (Value.int .i64 0) else if j = k * 2 then (Value.int .i64 1) else hPairDone ps k j) = hPairDone ps (k + 1) j := by
  unfold hPairDone
  by_cases h : j = k * 2 + 1
  · subst h; rw [if_pos rfl, if_pos (by omega), if_neg (by omega)]
  · rw [if_neg h]
    by_cases h' : j = k * 2
    · subst h'; rw [if_pos rfl, if_pos (by omega), if_pos (by omega)]
    · rw [if_neg h']
      have : j < (k + 1) * 2 ↔ j < k * 2 := by omega
      simp only [this]
theorem hPairDone_in {ps : List (Int × Int)} {k : Nat} (h : k < ps.length) : hPairDone ps k (k * 2) = .int .i64 (ps.getD k (0, 0)).1 ∧ hPairDone ps k (k * 2 + 1) = .int .i64 (ps.getD k (0, 0)).2 := by
  unfold hPairDone hPair pcell
  have h1 : k * 2 / 2 = k := by omega
  have h2 : (k * 2 + 1) / 2 = k := by omega
  refine ⟨?_, ?_⟩
  · rw [if_neg (by omega), if_pos (by omega), if_pos (by omega), h1]
  · rw [if_neg (by omega), if_pos (by omega), if_neg (by omega), h2]
theorem hPairDone_out {ps : List (Int × Int)} {k : Nat} (h : ¬ k < ps.length) : hPairDone ps k (k * 2) = .int .i64 (-5) ∧ hPairDone ps k (k * 2 + 1) = .int .i64 0 := by
  unfold hPairDone hPair
  refine ⟨?_, ?_⟩
  · rw [if_neg (by omega), if_neg (by omega), if_pos (by omega)]
  · rw [if_neg (by omega), if_neg (by omega), if_neg (by omega)]

theorem drewN_below (w : World) (n : Nat) : Below w.heap.size w (w.drewN n) := below_drewN (Below.refl _ _) n
theorem step_row {w : World} {A : Obj} {nq g t N k : Nat} {f : Nat → Value} {v0 v1 : Value} (h : w.rowIs g t N f) :
    ((((w.alloc A).drewN nq).setCell ⟨g, k * 2, none⟩ v0).setCell ⟨g, k * 2 + 1, none⟩ v1).rowIs g t N (fun j => if j = k * 2 + 1 then v1 else if j = k * 2 then v0 else f j) :=
  ((rowIs_below (h.alloc A) (drewN_below _ nq)).set _ _).set _ _
theorem step_other {w : World} {A : Obj} {nq g b t N k : Nat} {f : Nat → Value} {v0 v1 : Value} (h : w.rowIs b t N f) (hb : b ≠ g) :
    ((((w.alloc A).drewN nq).setCell ⟨g, k * 2, none⟩ v0).setCell ⟨g, k * 2 + 1, none⟩ v1).rowIs b t N f :=
  ((rowIs_below (h.alloc A) (drewN_below _ nq)).setOther hb _).setOther hb _
theorem step_span {lo hi : Nat} {W w : World} {A : Obj} {nq g k : Nat} {v0 v1 : Value} (h : Span lo hi W w) (h1 : lo ≤ g) (h2 : g < hi) :
    Span lo hi W ((((w.alloc A).drewN nq).setCell ⟨g, k * 2, none⟩ v0).setCell ⟨g, k * 2 + 1, none⟩ v1) :=
  (((h.alloc A).trans (Span.of_below (drewN_below _ nq))).setCell h1 h2 _).setCell h1 h2 _

set_option maxHeartbeats 1000000 in
set_option maxRecDepth 100000 in
theorem untouched_any (n : Int) (la ga oa : Option Addr) (lc gc oc gl gg go : Nat) (ls gs : List (Int × Int)) (os : List Int) (w : World)
    (hml : ls.length * 16 ≤ 140737488351232) (hmg : gs.length * 16 ≤ 140737488351232) (hmo : os.length * 8 ≤ 140737488351232) (hL : PairsIn gl w la ls) (hG : PairsIn gl w ga gs) (hO : IntsIn gl w oa os)
    (h1 : gl < gg) (h2 : gg < go) (rL : w.rowIs gl 54 ((ls.length + 8) * 2) (hPair ls)) (rG : w.rowIs gg 56 ((gs.length + 8) * 2) (hPair gs)) (rO : w.rowIs go 3 (os.length + 8) (hInt os)) :
    Calls Tryz.prog 35 #[.agg #[.int .i64 n, .slice (some ⟨gl, 0, none⟩) ls.length (ls.length + 8), .slice (some ⟨gg, 0, none⟩) gs.length (gs.length + 8), .slice (some ⟨go, 0, none⟩) os.length (os.length + 8)],
        .agg #[.int .i64 n, .slice la ls.length lc, .slice ga gs.length gc, .slice oa os.length oc]] w fun e w' => e = .returned (.bool true) ∧ Span gl (go + 1) w w' := by
  obtain ⟨W2, hW2⟩ : ∃ W2, W2 = (w.alloc (.cells #[.int .i64 n, .slice (some ⟨gl, 0, none⟩) ls.length (ls.length + 8), .slice (some ⟨gg, 0, none⟩) gs.length (gs.length + 8), .slice (some ⟨go, 0, none⟩) os.length (os.length + 8)] 34)).alloc (.cells #[.int .i64 n, .slice la ls.length lc, .slice ga gs.length gc, .slice oa os.length oc] 34) := ⟨_, rfl⟩
  have bel2 : Below w.heap.size w W2 := by rw [hW2]; exact ((Below.refl _ _).alloc (Nat.le_refl _) _).alloc (by simp) _
  have s2 : W2.heap.size = w.heap.size + 2 := by rw [hW2]; simp
  have lo := rO.lt
  have hL2 := hL.below bel2
  have hG2 := hG.below bel2
  have hO2 := hO.below bel2
  have rL2 := rowIs_below rL bel2
  have rG2 := rowIs_below rG bel2
  have rO2 := rowIs_below rO bel2
  have bo : ∀ j, W2.cell? ⟨w.heap.size, j, none⟩ = #[.int .i64 n, .slice (some ⟨gl, 0, none⟩) ls.length (ls.length + 8), .slice (some ⟨gg, 0, none⟩) gs.length (gs.length + 8), .slice (some ⟨go, 0, none⟩) os.length (os.length + 8)][j]? := fun j => by rw [hW2, World.cell?_alloc_past _ _ _ (by simp)]; exact cell_of_row _ _ _ _ _ _ (heap_alloc_new _ _)
  have bc : ∀ j, W2.cell? ⟨w.heap.size + 1, j, none⟩ = #[.int .i64 n, .slice la ls.length lc, .slice ga gs.length gc, .slice oa os.length oc][j]? := fun j => by rw [hW2]; exact cell_of_row _ _ _ _ _ _ (alloc_blk2 _ _ _ (by simp))
  have HO : Hid (∀ j, W2.cell? ⟨w.heap.size, j, none⟩ = #[.int .i64 n, .slice (some ⟨gl, 0, none⟩) ls.length (ls.length + 8), .slice (some ⟨gg, 0, none⟩) gs.length (gs.length + 8), .slice (some ⟨go, 0, none⟩) os.length (os.length + 8)][j]?) := bo
  have HC : Hid (∀ j, W2.cell? ⟨w.heap.size + 1, j, none⟩ = #[.int .i64 n, .slice la ls.length lc, .slice ga gs.length gc, .slice oa os.length oc][j]?) := bc
  have HS2 : Hid (W2.heap.size = w.heap.size + 2) := s2
  have hun := untouchedInts_any oa oc go os W2 hmo (hO2.mono (by omega)) rO2
  rw [hW2] at hun
  clear bo bc s2
  go_enter Tryz.func35, Tryz.ntmps35
  go_wp2_with (go_at_call 36; refine hun.mono ?_; rintro e w1 ⟨rfl, sp1⟩; rw [← hW2] at sp1; have d0 := (sp1.cell (p := ⟨w.heap.size, 0, none⟩) (by rw [HS2.out]; simp) (by simp; omega)).trans (HO.out 0); have d1 := (sp1.cell (p := ⟨w.heap.size, 1, none⟩) (by rw [HS2.out]; simp) (by simp; omega)).trans (HO.out 1); have e0 := (sp1.cell (p := ⟨w.heap.size + 1, 0, none⟩) (by rw [HS2.out]; simp) (by simp; omega)).trans (HC.out 0); have e1 := (sp1.cell (p := ⟨w.heap.size + 1, 1, none⟩) (by rw [HS2.out]; simp) (by simp; omega)).trans (HC.out 1))
  have rL1 := rowIs_span rL2 sp1 (.inl (by omega))
  have sp1' : Span gl (go + 1) W2 w1 := sp1.mono (by omega) (Nat.le_refl _)
  clear hun d0 d1 e0 e1 hW2
  go_loopw [6, 9, 10] (fun ok i _ wr => ∃ k : Nat, k ≤ ls.length + 8 ∧ i = .int .i64 k ∧ ok = .bool true ∧ wr.rowIs gl 54 ((ls.length + 8) * 2) (hPairDone ls k) ∧ wr.rowIs gg 56 ((gs.length + 8) * 2) (hPair gs) ∧ Span gl (go + 1) W2 wr) (fun _ i _ _ => ls.length + 8 - (intOf i).toNat)
  case atStart => exact ⟨0, by omega, rfl, rfl, rL1, rowIs_span rG2 sp1 (.inl (by omega)), sp1'⟩
  case round =>
    clear rL1 sp1'
    obtain ⟨k, hk, rfl, rfl, hrow, hrG, hsp⟩ := hrel
    have e1 := (hsp.cell (p := ⟨w.heap.size + 1, 1, none⟩) (by rw [HS2.out]; simp) (by simp; omega)).trans (HC.out 1)
    by_cases hk2 : k < ls.length + 8
    · have c1 := hrow.cell (i := k * 2) (by omega)
      have c2 := hrow.cell (i := k * 2 + 1) (by omega)
      have f1 := hrow.frozen (k * 2)
      have f2 := hrow.frozen (k * 2 + 1)
      have r2 := ((hrow.alloc (.cells #[.int .i64 (-5), .int .i64 0] 54)).drew)
      have hk3 : (k : Int) < (ls.length : Int) + 8 := by omega
      have hk0 : (0 : Int) ≤ (k : Int) := by omega
      have hLr := hL2.span hsp (Nat.le_refl _)
      have hszr : w.heap.size + 1 < wr.heap.size := Nat.lt_of_lt_of_le (by rw [HS2.out]; omega) hsp.size
      by_cases hx : k < ls.length
      · rw [(hPairDone_in hx).1] at c1
        rw [(hPairDone_in hx).2] at c2
        obtain ⟨b, off, rfl, hbg, hlt, hc⟩ := hLr.get (by omega)
        obtain ⟨hx1, hx2⟩ := hc k hx
        obtain ⟨x, hX⟩ : ∃ x, x = ls.getD k (0, 0) := ⟨_, rfl⟩
        rw [← hX] at c1 c2 hx1 hx2
        obtain ⟨x1, x2⟩ := x
        dsimp only at c1 c2 hx1 hx2
        have hgl := hrow.lt
        have c1a : (wr.alloc (.cells #[.int .i64 x1, .int .i64 x2] 54)).cell? ⟨gl, k * 2, none⟩ = some (.int .i64 x1) := by rw [World.cell?_alloc_past _ _ _ hgl]; exact c1
        have c2a : (wr.alloc (.cells #[.int .i64 x1, .int .i64 x2] 54)).cell? ⟨gl, k * 2 + 1, none⟩ = some (.int .i64 x2) := by rw [World.cell?_alloc_past _ _ _ hgl]; exact c2
        clear hX hc hLr
        go_wp2
        go_quiet (fail)
        go_wp2
        go_roundw
        case rel => exact ⟨k + 1, by omega, by go_num, rfl, (step_row hrow).congr (fun i hi => hPairDone_step), step_other hrG (by omega), step_span hsp (Nat.le_refl _) (by omega)⟩
        case measure => simp [intOf]; omega
      · rw [(hPairDone_out hx).1] at c1
        rw [(hPairDone_out hx).2] at c2
        have hgl := hrow.lt
        have c1a : (wr.alloc (.cells #[.int .i64 (-5), .int .i64 0] 54)).cell? ⟨gl, k * 2, none⟩ = some (.int .i64 (-5)) := by rw [World.cell?_alloc_past _ _ _ hgl]; exact c1
        have c2a : (wr.alloc (.cells #[.int .i64 (-5), .int .i64 0] 54)).cell? ⟨gl, k * 2 + 1, none⟩ = some (.int .i64 0) := by rw [World.cell?_alloc_past _ _ _ hgl]; exact c2
        clear hLr
        go_wp2
        go_quiet (fail)
        go_wp2
        go_roundw
        case rel => exact ⟨k + 1, by omega, by go_num, rfl, (step_row hrow).congr (fun i hi => hPairDone_step), step_other hrG (by omega), step_span hsp (Nat.le_refl _) (by omega)⟩
        case measure => simp [intOf]; omega
    · obtain rfl : k = ls.length + 8 := by omega
      obtain ⟨w4, rfl⟩ : ∃ w4, w4 = wr := ⟨wr, rfl⟩
      have d2 := (hsp.cell (p := ⟨w.heap.size, 2, none⟩) (by rw [HS2.out]; simp) (by simp; omega)).trans (HO.out 2)
      have e2 := (hsp.cell (p := ⟨w.heap.size + 1, 2, none⟩) (by rw [HS2.out]; simp) (by simp; omega)).trans (HC.out 2)
      clear hrow e1
      go_wp2
      go_loopw [6, 12, 13] (fun ok i _ wr => ∃ k : Nat, k ≤ gs.length + 8 ∧ i = .int .i64 k ∧ ok = .bool true ∧ wr.rowIs gg 56 ((gs.length + 8) * 2) (hPairDone gs k) ∧ Span gl (go + 1) W2 wr) (fun _ i _ _ => gs.length + 8 - (intOf i).toNat)
      case atStart => exact ⟨0, by omega, rfl, rfl, hrG, hsp⟩
      case round =>
        clear hrG hsp d2 e2
        obtain ⟨k, hk, rfl, rfl, hrow, hsp⟩ := hrel
        have e2 := (hsp.cell (p := ⟨w.heap.size + 1, 2, none⟩) (by rw [HS2.out]; simp) (by simp; omega)).trans (HC.out 2)
        by_cases hk2 : k < gs.length + 8
        · have c1 := hrow.cell (i := k * 2) (by omega)
          have c2 := hrow.cell (i := k * 2 + 1) (by omega)
          have f1 := hrow.frozen (k * 2)
          have f2 := hrow.frozen (k * 2 + 1)
          have hk3 : (k : Int) < (gs.length : Int) + 8 := by omega
          have hk0 : (0 : Int) ≤ (k : Int) := by omega
          have hGr := hG2.span hsp (Nat.le_refl _)
          have hszr : w.heap.size + 1 < wr.heap.size := Nat.lt_of_lt_of_le (by rw [HS2.out]; omega) hsp.size
          have hgl := hrow.lt
          by_cases hx : k < gs.length
          · rw [(hPairDone_in hx).1] at c1
            rw [(hPairDone_in hx).2] at c2
            obtain ⟨b, off, rfl, hbg, hlt, hc⟩ := hGr.get (by omega)
            obtain ⟨hx1, hx2⟩ := hc k hx
            obtain ⟨x, hX⟩ : ∃ x, x = gs.getD k (0, 0) := ⟨_, rfl⟩
            rw [← hX] at c1 c2 hx1 hx2
            obtain ⟨x1, x2⟩ := x
            dsimp only at c1 c2 hx1 hx2
            have c1a : (wr.alloc (.cells #[.int .i64 x1, .int .i64 x2] 56)).cell? ⟨gg, k * 2, none⟩ = some (.int .i64 x1) := by rw [World.cell?_alloc_past _ _ _ hgl]; exact c1
            have c2a : (wr.alloc (.cells #[.int .i64 x1, .int .i64 x2] 56)).cell? ⟨gg, k * 2 + 1, none⟩ = some (.int .i64 x2) := by rw [World.cell?_alloc_past _ _ _ hgl]; exact c2
            clear hX hc hGr
            go_wp2
            go_quiet (fail)
            go_wp2
            go_roundw
            case rel => exact ⟨k + 1, by omega, by go_num, rfl, (step_row hrow).congr (fun i hi => hPairDone_step), step_span hsp (by omega) (by omega)⟩
            case measure => simp [intOf]; omega
          · rw [(hPairDone_out hx).1] at c1
            rw [(hPairDone_out hx).2] at c2
            have c1a : (wr.alloc (.cells #[.int .i64 (-5), .int .i64 0] 56)).cell? ⟨gg, k * 2, none⟩ = some (.int .i64 (-5)) := by rw [World.cell?_alloc_past _ _ _ hgl]; exact c1
            have c2a : (wr.alloc (.cells #[.int .i64 (-5), .int .i64 0] 56)).cell? ⟨gg, k * 2 + 1, none⟩ = some (.int .i64 0) := by rw [World.cell?_alloc_past _ _ _ hgl]; exact c2
            clear hGr
            go_wp2
            go_quiet (fail)
            go_wp2
            go_roundw
            case rel => exact ⟨k + 1, by omega, by go_num, rfl, (step_row hrow).congr (fun i hi => hPairDone_step), step_span hsp (by omega) (by omega)⟩
            case measure => simp [intOf]; omega
        · clear e2
          go_wp2
          go_ret
          exact ⟨rfl, (Span.of_below bel2).trans hsp⟩

end Go.Proofs.YtgpaajdfkekjiaaGreatDoor
