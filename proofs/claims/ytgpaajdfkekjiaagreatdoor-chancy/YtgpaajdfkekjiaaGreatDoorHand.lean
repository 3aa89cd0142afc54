/-
  What handedInts and untouchedInts of package latchlaw do.
-/
import Derived.Test.YtgpaajdfkekjiaaGreatDoorCopy
namespace Go.Proofs.YtgpaajdfkekjiaaGreatDoor
open Go.RowKit

def vints (xs : List Int) : List Value := xs.map fun x => .int .i64 x
theorem vints_get {xs : List Int} {i : Nat} (h : i < xs.length) : (vints xs)[i]? = some (.int .i64 (xs.getD i 0)) := by simp [vints, h]

theorem src_cells {w : World} {b off : Nat} {xs : List Int} (hc : ∀ i, i < xs.length → w.cell? ⟨b, off + i, none⟩ = some (.int .i64 (xs.getD i 0))) :
    ∀ j v, (vints xs)[j]? = some v → w.cell? ((⟨b, off, none⟩ : Addr).add j) = some v := by
  intro j v hv
  have hadd : (⟨b, off, none⟩ : Addr).add j = ⟨b, off + j, none⟩ := by unfold Addr.add; split <;> simp_all
  have hj : j < xs.length := by
    rcases Nat.lt_or_ge j xs.length with h | h
    · exact h
    · rw [List.getElem?_eq_none (by simpa [vints] using h)] at hv; cases hv
  rw [vints_get hj] at hv
  rw [hadd, hc j hj]; exact hv

/-- While the marks are laid: k of the places are done. -/
def hIntUp (xs : List Int) (k i : Nat) : Value := .int .i64 (if i < xs.length then xs.getD i 0 else if i < k then -5 else 0)

theorem copied_row {w : World} {g : Nat} {t : TypeId} {xs : List Int} (h : w.heap[g]? = some (.cells (splice (List.replicate (xs.length + 8) (.int .i64 0)) 0 (vints xs)).toArray t (0, 0))) : w.rowIs g t (xs.length + 8) (hIntUp xs xs.length) := by
  have hl : (splice (List.replicate (xs.length + 8) (Value.int .i64 0)) 0 (vints xs)).length = xs.length + 8 := by rw [length_splice _ _ _ (by simp [vints])]; simp
  have := rowIs_of_list (f := hIntUp xs xs.length) h (fun i hi => ?_)
  · rw [hl] at this; exact this
  · rw [hl] at hi
    unfold hIntUp splice
    by_cases hx : i < xs.length
    · rw [if_pos hx, List.take_zero, List.nil_append, List.getElem?_append_left (by simpa [vints] using hx), vints_get hx]
    · rw [if_neg hx, if_neg hx, List.take_zero, List.nil_append, List.getElem?_append_right (by simp [vints]; omega)]
      have hv : (vints xs).length = xs.length := by simp [vints]
      rw [List.drop_replicate, List.getElem?_replicate, if_pos (by rw [hv]; omega)]

theorem hIntUp_step {xs : List Int} {k i : Nat} (hk : xs.length ≤ k) : (if i = k then (Value.int .i64 (-5)) else hIntUp xs k i) = hIntUp xs (k + 1) i := by
  unfold hIntUp
  by_cases h : i = k
  · subst h; rw [if_pos rfl, if_neg (by omega), if_pos (by omega)]
  · rw [if_neg h]
    have : i < k + 1 ↔ i < k := by omega
    simp only [this]

set_option maxHeartbeats 400000 in
set_option maxRecDepth 100000 in
theorem handedInts_any (a : Option Addr) (c : Nat) (xs : List Int) (w : World) (hm : xs.length * 8 ≤ 140737488351232) (hI : IntsAt w a xs) :
    Calls Tryz.prog 19 #[.slice a xs.length c] w fun e w' => ∃ g, e = .returned (.slice (some ⟨g, 0, none⟩) xs.length (xs.length + 8)) ∧ w.heap.size ≤ g ∧ w'.rowIs g 3 (xs.length + 8) (hInt xs) ∧ Below w.heap.size w w' := by
  obtain ⟨i0, hi0, hz0, hz1, hz2⟩ := info_parts Tryz.infoInt
  have hmk := fun w => run_make_row (P := Tryz.prog) 32 3 i0 (.int .i64 0) Tryz.underlying32 hi0 hz0 hz1 rfl .i64 .i64 (xs.length + 8) (by rw [hz2]; omega) (by omega) w
  have ec : ((xs.length + 8 : Nat) : Int) = (xs.length : Int) + 8 := by omega
  rw [ec] at hmk
  clear ec
  simp only [made_toArray] at hmk
  obtain ⟨o, ho⟩ : ∃ o, o = Obj.cells (List.replicate (xs.length + 8) (Value.int .i64 0)).toArray 3 (0, 0) := ⟨_, rfl⟩
  have hmk2 : ∀ w : World, (Instr.makeSlice 32 (.int .i64 ((xs.length : Int) + 8)) (.int .i64 ((xs.length : Int) + 8))).run Tryz.prog w = .ok (.slice (some ⟨w.heap.size, 0, none⟩) (xs.length + 8) (xs.length + 8)) (w.alloc o) := by intro w; rw [ho]; exact hmk w
  have hg : (w.alloc o).heap[w.heap.size]? = some (.cells (List.replicate (xs.length + 8) (Value.int .i64 0)).toArray 3 (0, 0)) := by rw [← ho]; exact heap_alloc_new w o
  have hbel : Below w.heap.size w (w.alloc o) := (Below.refl _ _).alloc (Nat.le_refl _) _
  have hsrc : 0 < xs.length → ∃ ad, a = some ad ∧ ∀ j v, (vints xs)[j]? = some v → (w.alloc o).cell? (ad.add j) = some v := by
    intro h0
    rcases hI with rfl | ⟨b, off, rfl, hlt, hc⟩
    · simp at h0
    · exact ⟨_, rfl, src_cells (fun i hi => (hbel.cell (p := ⟨b, _, none⟩) hlt).trans (hc i hi))⟩
  have hsz : (Tryz.prog.info? 3).map (·.size) = some 1 := by rw [hi0]; simp [hz1]
  obtain ⟨w1, hcp, hg1, hb1⟩ := run_copy_sized (P := Tryz.prog) (w.alloc o) 32 32 3 3 1 w.heap.size (xs.length + 8) (xs.length + 8) a xs.length c _ 3 (vints xs) Tryz.underlying32 hsz hg (by omega) (by simp [vints]) hsrc (by simp [vints]) (by simp [vints]; intros; rfl)
  have hrow := copied_row hg1
  have bel1 := hb1 _ _ hbel (Nat.le_refl _)
  clear hmk ho hI hsz hsrc hg hbel hg1 hb1
  go_enter Tryz.func19, Tryz.ntmps19
  go_wp2
  go_loopw [5] (fun i wr => ∃ k : Nat, xs.length ≤ k ∧ k ≤ xs.length + 8 ∧ i = .int .i64 k ∧ wr.rowIs w.heap.size 3 (xs.length + 8) (hIntUp xs k) ∧ Below w.heap.size w wr) (fun i _ => xs.length + 8 - (intOf i).toNat)
  case atStart => exact ⟨xs.length, Nat.le_refl _, by omega, rfl, hrow, bel1⟩
  case round =>
    clear hrow bel1 hcp
    obtain ⟨k, hk0, hk, rfl, hrow, hbel⟩ := hrel
    by_cases hk2 : k < xs.length + 8
    · have c1 := hrow.cell hk2
      have f1 := hrow.frozen k
      have r2 := hrow.set k (.int .i64 (-5))
      have hk3 : (k : Int) < (xs.length : Int) + 8 := by omega
      obtain ⟨u, hu⟩ : ∃ u, u = hIntUp xs k k := ⟨_, rfl⟩
      rw [← hu] at c1
      clear hu
      go_wp2
      go_roundw
      case rel => exact ⟨k + 1, by omega, by omega, by go_num, r2.congr (fun i hi => hIntUp_step hk0), hbel.setCell (Nat.le_refl _) _⟩
      case measure => simp [intOf]; omega
    · obtain rfl : k = xs.length + 8 := by omega
      go_wp2
      go_ret
      exact ⟨w.heap.size, rfl, Nat.le_refl _, hrow.congr (fun i hi => by unfold hIntUp hInt; rw [if_pos hi]), hbel⟩


/-- While the owner looks: k places have been written over. -/
def hIntDone (xs : List Int) (k i : Nat) : Value := if i < k then .int .i64 1 else hInt xs i
theorem hIntDone_step {xs : List Int} {k i : Nat} : (if i = k then (Value.int .i64 1) else hIntDone xs k i) = hIntDone xs (k + 1) i := by
  unfold hIntDone
  by_cases h : i = k
  · subst h; rw [if_pos rfl, if_pos (by omega)]
  · rw [if_neg h]
    have : i < k + 1 ↔ i < k := by omega
    simp only [this]

set_option maxHeartbeats 400000 in
set_option maxRecDepth 100000 in
theorem untouchedInts_any (a : Option Addr) (c g : Nat) (xs : List Int) (w : World) (hm : xs.length * 8 ≤ 140737488351232) (hI : IntsIn g w a xs) (hR : w.rowIs g 3 (xs.length + 8) (hInt xs)) :
    Calls Tryz.prog 36 #[.slice (some ⟨g, 0, none⟩) xs.length (xs.length + 8), .slice a xs.length c] w fun e w' => e = .returned (.bool true) ∧ Span g (g + 1) w w' := by
  go_enter Tryz.func36, Tryz.ntmps36
  go_wp2
  go_loopw [7, 8, 9] (fun ok i _ wr => ∃ k : Nat, k ≤ xs.length + 8 ∧ i = .int .i64 k ∧ ok = .bool true ∧ wr.rowIs g 3 (xs.length + 8) (hIntDone xs k) ∧ Span g (g + 1) w wr) (fun _ i _ _ => xs.length + 8 - (intOf i).toNat)
  case atStart => exact ⟨0, by omega, rfl, rfl, hR, Span.refl _ _ _⟩
  case round =>
    clear hR
    obtain ⟨k, hk, rfl, rfl, hrow, hsp⟩ := hrel
    by_cases hk2 : k < xs.length + 8
    · have c1 := hrow.cell hk2
      have f1 := hrow.frozen k
      have r2 := hrow.set k (.int .i64 1)
      have hk3 : (k : Int) < (xs.length : Int) + 8 := by omega
      have hIr := hI.span hsp (Nat.le_refl _)
      have h0 : hIntDone xs k k = .int .i64 (if k < xs.length then xs.getD k 0 else -5) := by unfold hIntDone hInt; rw [if_neg (by omega)]
      rw [h0] at c1
      clear h0
      by_cases hx : k < xs.length
      · rw [if_pos hx] at c1
        obtain ⟨b, off, rfl, hbg, hlt, hc⟩ := hIr.get (by omega)
        have hcx := hc k hx
        obtain ⟨x, hX⟩ : ∃ x, x = xs.getD k 0 := ⟨_, rfl⟩
        rw [← hX] at c1 hcx
        clear hX hc hIr
        go_wp2
        go_roundw
        case rel => exact ⟨k + 1, by omega, by go_num, rfl, r2.congr (fun i hi => hIntDone_step), hsp.setCell (Nat.le_refl _) (by simp) _⟩
        case measure => simp [intOf]; omega
      · rw [if_neg hx] at c1
        clear hIr
        go_wp2
        go_roundw
        case rel => exact ⟨k + 1, by omega, by go_num, rfl, r2.congr (fun i hi => hIntDone_step), hsp.setCell (Nat.le_refl _) (by simp) _⟩
        case measure => simp [intOf]; omega
    · go_wp2
      go_ret
      exact ⟨rfl, hsp⟩

end Go.Proofs.YtgpaajdfkekjiaaGreatDoor
