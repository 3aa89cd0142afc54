/-
  'copy' of a whole list, its elements of any number of cells, into the head of a row that the call itself made: what it answers and leaves. (The kit has it for elements of one cell.)
  What handedInts and untouchedInts of package latchlaw do.
  What handed of package latchlaw does: the same circuit in lists of its own, with marked spare room.
  What untouched of package latchlaw answers of a circuit that was handed in and reads as it did: true; it writes into the lists that were handed in alone.
-/
import Derived.Test.YtgpaajdfkekjiaaGreatDoorSpan
import Derived.Test.YtgpaajdfkekjiaaGreatDoorRunAll
import Derived.Deep.RegionHeld3
import Derived.Deep.DrawnRows
namespace Go.Proofs.YtgpaajdfkekjiaaGreatDoor
open Go.RowKit

theorem run_copy_sized {P : Program} (w : World) (dT sT ty elem : TypeId) (size g dLen dCap : Nat) (a : Option Addr) (sLen sCap : Nat) (cur : List Value) (t : TypeId) (cs : List Value)
    (hu : P.underlying dT = some (.slice elem)) (hs : (P.info? elem).map (·.size) = some size)
    (hg : w.heap[g]? = some (.cells cur.toArray t (0, 0))) (hle : sLen ≤ dLen) (hn : cs.length = sLen * size)
    (hsrc : 0 < sLen → ∃ ad, a = some ad ∧ ∀ j v, cs[j]? = some v → w.cell? (ad.add j) = some v) (hfit : cs.length ≤ cur.length) (h1 : ∀ v ∈ cs, v.oneCell' = true) :
    ∃ w', (Builtin.copy_ #[dT, sT] ty #[.slice (some ⟨g, 0, none⟩) dLen dCap, .slice a sLen sCap]).run P w = .ok (.int .i64 (sLen : Nat)) w' ∧
      w'.heap[g]? = some (.cells (splice cur 0 cs).toArray t (0, 0)) ∧ ∀ B w0, Below B w0 w → B ≤ g → Below B w0 w' := by
  have hmin : Nat.min sLen dLen = sLen := Nat.min_eq_left hle
  cases hq : P.info? elem with
  | none => simp [hq] at hs
  | some i =>
    have hi : i.size = size := by simpa [hq] using hs
    by_cases h0 : sLen = 0
    · subst h0
      have hcs : cs = [] := List.eq_nil_of_length_eq_zero (by omega)
      subst hcs
      have hl : ∀ (x : Addr), (loadCells x 0).run P w = .ok #[] w := fun x => by simpa using run_loadCells_list (P := P) w x [] (by simp)
      refine ⟨w, ?_, by simpa [splice] using hg, fun B w0 h _ => h⟩
      cases a <;> simp [Builtin.copy_, run_underlying hu, Builtin.lenOf, Builtin.firstCells, sizeOf, typeInfo, hq, hmin, storeCells, hl, goInt]
    · obtain ⟨ad, rfl, hc⟩ := hsrc (by omega)
      have hl := run_loadCells_list (P := P) w ad cs hc
      have hst := run_storeCells_at P g 0 t cs 0 cur.toArray w hg (by simpa using hfit) h1
      refine ⟨w.setRow g (splice cur 0 cs).toArray, ?_, setRow_heap w g _ _ t _ hg, fun B w0 h hB => below_setRow h hB _⟩
      rw [hn] at hl
      simp only [Nat.zero_add, List.take_zero, List.nil_append] at hst
      simp [Builtin.copy_, run_underlying hu, Builtin.lenOf, Builtin.firstCells, sizeOf, typeInfo, hq, hi, hmin, hl, hst, goInt, splice]

end Go.Proofs.YtgpaajdfkekjiaaGreatDoor

namespace Go.Proofs.YtgpaajdfkekjiaaGreatDoor
open Go.RowKit

def vints (xs : List Int) : List Value := xs.map fun x => .int .i64 x
theorem vints_get {xs : List Int} {i : Nat} (h : i < xs.length) : (vints xs)[i]? = some (.int .i64 (xs.getD i 0)) := by simp [vints, h]

theorem src_cells {w : World} {b off : Nat} {xs : List Int} (hc : ∀ i, i < xs.length → w.cell? ⟨b, off + i, none⟩ = some (.int .i64 (xs.getD i 0))) :
    ∀ j v, (vints xs)[j]? = some v → w.cell? ((⟨b, off, none⟩ : Addr).add j) = some v := by
  intro j v hv
  have hadd : (⟨b, off, none⟩ : Addr).add j = ⟨b, off + j, none⟩ := by unfold Addr.add; split <;> simp_all
  have hj : j < xs.length := by
    rcases Nat.lt_or_ge j xs.length with h | h
    · exact h
    · rw [List.getElem?_eq_none (by simpa [vints] using h)] at hv; cases hv
  rw [vints_get hj] at hv
  rw [hadd, hc j hj]; exact hv

/-- While the marks are laid: k of the places are done. -/
def hIntUp (xs : List Int) (k i : Nat) : Value := .int .i64 (if i < xs.length then xs.getD i 0 else if i < k then -5 else 0)

theorem copied_row {w : World} {g : Nat} {t : TypeId} {xs : List Int} (h : w.heap[g]? = some (.cells (splice (List.replicate (xs.length + 8) (.int .i64 0)) 0 (vints xs)).toArray t (0, 0))) : w.rowIs g t (xs.length + 8) (hIntUp xs xs.length) := by
  have hl : (splice (List.replicate (xs.length + 8) (Value.int .i64 0)) 0 (vints xs)).length = xs.length + 8 := by rw [length_splice _ _ _ (by simp [vints])]; simp
  have := rowIs_of_list (f := hIntUp xs xs.length) h (fun i hi => ?_)
  · rw [hl] at this; exact this
  · rw [hl] at hi
    unfold hIntUp splice
    by_cases hx : i < xs.length
    · rw [if_pos hx, List.take_zero, List.nil_append, List.getElem?_append_left (by simpa [vints] using hx), vints_get hx]
    · rw [if_neg hx, if_neg hx, List.take_zero, List.nil_append, List.getElem?_append_right (by simp [vints]; omega)]
      have hv : (vints xs).length = xs.length := by simp [vints]
      rw [List.drop_replicate, List.getElem?_replicate, if_pos (by rw [hv]; omega)]

theorem hIntUp_step {xs : List Int} {k i : Nat} (hk : xs.length ≤ k) : (if i = k then (Value.int .i64 (-5)) else hIntUp xs k i) = hIntUp xs (k + 1) i := by
  unfold hIntUp
  by_cases h : i = k
  · subst h; rw [if_pos rfl, if_neg (by omega), if_pos (by omega)]
  · rw [if_neg h]
    have : i < k + 1 ↔ i < k := by omega
    simp only [this]

set_option maxHeartbeats 400000 in
set_option maxRecDepth 100000 in
theorem handedInts_any (a : Option Addr) (c : Nat) (xs : List Int) (w : World) (hm : xs.length * 8 ≤ 140737488351232) (hI : IntsAt w a xs) :
    Calls Tryz.prog 19 #[.slice a xs.length c] w fun e w' => ∃ g, e = .returned (.slice (some ⟨g, 0, none⟩) xs.length (xs.length + 8)) ∧ w.heap.size ≤ g ∧ w'.rowIs g 3 (xs.length + 8) (hInt xs) ∧ Below w.heap.size w w' := by
  obtain ⟨i0, hi0, hz0, hz1, hz2⟩ := info_parts Tryz.infoInt
  have hmk := fun w => run_make_row (P := Tryz.prog) 32 3 i0 (.int .i64 0) Tryz.underlying32 hi0 hz0 hz1 rfl .i64 .i64 (xs.length + 8) (by rw [hz2]; omega) (by omega) w
  have ec : ((xs.length + 8 : Nat) : Int) = (xs.length : Int) + 8 := by omega
  rw [ec] at hmk
  clear ec
  simp only [made_toArray] at hmk
  obtain ⟨o, ho⟩ : ∃ o, o = Obj.cells (List.replicate (xs.length + 8) (Value.int .i64 0)).toArray 3 (0, 0) := ⟨_, rfl⟩
  have hmk2 : ∀ w : World, (Instr.makeSlice 32 (.int .i64 ((xs.length : Int) + 8)) (.int .i64 ((xs.length : Int) + 8))).run Tryz.prog w = .ok (.slice (some ⟨w.heap.size, 0, none⟩) (xs.length + 8) (xs.length + 8)) (w.alloc o) := by intro w; rw [ho]; exact hmk w
  have hg : (w.alloc o).heap[w.heap.size]? = some (.cells (List.replicate (xs.length + 8) (Value.int .i64 0)).toArray 3 (0, 0)) := by rw [← ho]; exact heap_alloc_new w o
  have hbel : Below w.heap.size w (w.alloc o) := (Below.refl _ _).alloc (Nat.le_refl _) _
  have hsrc : 0 < xs.length → ∃ ad, a = some ad ∧ ∀ j v, (vints xs)[j]? = some v → (w.alloc o).cell? (ad.add j) = some v := by
    intro h0
    rcases hI with rfl | ⟨b, off, rfl, hlt, hc⟩
    · simp at h0
    · exact ⟨_, rfl, src_cells (fun i hi => (hbel.cell (p := ⟨b, _, none⟩) hlt).trans (hc i hi))⟩
  have hsz : (Tryz.prog.info? 3).map (·.size) = some 1 := by rw [hi0]; simp [hz1]
  obtain ⟨w1, hcp, hg1, hb1⟩ := run_copy_sized (P := Tryz.prog) (w.alloc o) 32 32 3 3 1 w.heap.size (xs.length + 8) (xs.length + 8) a xs.length c _ 3 (vints xs) Tryz.underlying32 hsz hg (by omega) (by simp [vints]) hsrc (by simp [vints]) (by simp [vints]; intros; rfl)
  have hrow := copied_row hg1
  have bel1 := hb1 _ _ hbel (Nat.le_refl _)
  clear hmk ho hI hsz hsrc hg hbel hg1 hb1
  go_enter Tryz.func19, Tryz.ntmps19
  go_wp2
  go_loopw [5] (fun i wr => ∃ k : Nat, xs.length ≤ k ∧ k ≤ xs.length + 8 ∧ i = .int .i64 k ∧ wr.rowIs w.heap.size 3 (xs.length + 8) (hIntUp xs k) ∧ Below w.heap.size w wr) (fun i _ => xs.length + 8 - (intOf i).toNat)
  case atStart => exact ⟨xs.length, Nat.le_refl _, by omega, rfl, hrow, bel1⟩
  case round =>
    clear hrow bel1 hcp
    obtain ⟨k, hk0, hk, rfl, hrow, hbel⟩ := hrel
    by_cases hk2 : k < xs.length + 8
    · have c1 := hrow.cell hk2
      have f1 := hrow.frozen k
      have r2 := hrow.set k (.int .i64 (-5))
      have hk3 : (k : Int) < (xs.length : Int) + 8 := by omega
      obtain ⟨u, hu⟩ : ∃ u, u = hIntUp xs k k := ⟨_, rfl⟩
      rw [← hu] at c1
      clear hu
      go_wp2
      go_roundw
      case rel => exact ⟨k + 1, by omega, by omega, by go_num, r2.congr (fun i hi => hIntUp_step hk0), hbel.setCell (Nat.le_refl _) _⟩
      case measure => simp [intOf]; omega
    · obtain rfl : k = xs.length + 8 := by omega
      go_wp2
      go_ret
      exact ⟨w.heap.size, rfl, Nat.le_refl _, hrow.congr (fun i hi => by unfold hIntUp hInt; rw [if_pos hi]), hbel⟩


/-- While the owner looks: k places have been written over. -/
def hIntDone (xs : List Int) (k i : Nat) : Value := if i < k then .int .i64 1 else hInt xs i
theorem hIntDone_step {xs : List Int} {k i : Nat} : (if i = k then (Value.int .i64 1) else hIntDone xs k i) = hIntDone xs (k + 1) i := by
  unfold hIntDone
  by_cases h : i = k
  · subst h; rw [if_pos rfl, if_pos (by omega)]
  · rw [if_neg h]
    have : i < k + 1 ↔ i < k := by omega
    simp only [this]

set_option maxHeartbeats 400000 in
set_option maxRecDepth 100000 in
theorem untouchedInts_any (a : Option Addr) (c g : Nat) (xs : List Int) (w : World) (hm : xs.length * 8 ≤ 140737488351232) (hI : IntsIn g w a xs) (hR : w.rowIs g 3 (xs.length + 8) (hInt xs)) :
    Calls Tryz.prog 36 #[.slice (some ⟨g, 0, none⟩) xs.length (xs.length + 8), .slice a xs.length c] w fun e w' => e = .returned (.bool true) ∧ Span g (g + 1) w w' := by
  go_enter Tryz.func36, Tryz.ntmps36
  go_wp2
  go_loopw [7, 8, 9] (fun ok i _ wr => ∃ k : Nat, k ≤ xs.length + 8 ∧ i = .int .i64 k ∧ ok = .bool true ∧ wr.rowIs g 3 (xs.length + 8) (hIntDone xs k) ∧ Span g (g + 1) w wr) (fun _ i _ _ => xs.length + 8 - (intOf i).toNat)
  case atStart => exact ⟨0, by omega, rfl, rfl, hR, Span.refl _ _ _⟩
  case round =>
    clear hR
    obtain ⟨k, hk, rfl, rfl, hrow, hsp⟩ := hrel
    by_cases hk2 : k < xs.length + 8
    · have c1 := hrow.cell hk2
      have f1 := hrow.frozen k
      have r2 := hrow.set k (.int .i64 1)
      have hk3 : (k : Int) < (xs.length : Int) + 8 := by omega
      have hIr := hI.span hsp (Nat.le_refl _)
      have h0 : hIntDone xs k k = .int .i64 (if k < xs.length then xs.getD k 0 else -5) := by unfold hIntDone hInt; rw [if_neg (by omega)]
      rw [h0] at c1
      clear h0
      by_cases hx : k < xs.length
      · rw [if_pos hx] at c1
        obtain ⟨b, off, rfl, hbg, hlt, hc⟩ := hIr.get (by omega)
        have hcx := hc k hx
        obtain ⟨x, hX⟩ : ∃ x, x = xs.getD k 0 := ⟨_, rfl⟩
        rw [← hX] at c1 hcx
        clear hX hc hIr
        go_wp2
        go_roundw
        case rel => exact ⟨k + 1, by omega, by go_num, rfl, r2.congr (fun i hi => hIntDone_step), hsp.setCell (Nat.le_refl _) (by simp) _⟩
        case measure => simp [intOf]; omega
      · rw [if_neg hx] at c1
        clear hIr
        go_wp2
        go_roundw
        case rel => exact ⟨k + 1, by omega, by go_num, rfl, r2.congr (fun i hi => hIntDone_step), hsp.setCell (Nat.le_refl _) (by simp) _⟩
        case measure => simp [intOf]; omega
    · go_wp2
      go_ret
      exact ⟨rfl, hsp⟩

end Go.Proofs.YtgpaajdfkekjiaaGreatDoor

namespace Go.Proofs.YtgpaajdfkekjiaaGreatDoor
open Go.RowKit

theorem made_toArray2 (z : Value) (n : Nat) : madeCells #[z, z] n = (List.replicate n z).toArray := by
  apply Array.ext
  · simp [madeCells]
  · intro i h1 h2
    have h3 : i % 2 = 0 ∨ i % 2 = 1 := by omega
    rcases h3 with h3 | h3 <;> simp [madeCells, h3]

def pcells (ps : List (Int × Int)) : List Value := ps.flatMap fun p => [.int .i64 p.1, .int .i64 p.2]
theorem pcells_len (ps : List (Int × Int)) : (pcells ps).length = ps.length * 2 := by
  induction ps with
  | nil => rfl
  | cons p r ih => simp [pcells] at ih ⊢; omega
/-- The cell of a list of pairs. -/
def pcell (ps : List (Int × Int)) (j : Nat) : Value := .int .i64 (if j % 2 = 0 then (ps.getD (j / 2) (0, 0)).1 else (ps.getD (j / 2) (0, 0)).2)
theorem pcells_get (ps : List (Int × Int)) : ∀ j, j < ps.length * 2 → (pcells ps)[j]? = some (pcell ps j) := by
  induction ps with
  | nil => intro j h; simp at h
  | cons p r ih =>
    intro j h
    match j with
    | 0 => simp [pcells, pcell]
    | 1 => simp [pcells, pcell]
    | j + 2 =>
      have hj : j < r.length * 2 := by simp at h; omega
      have e : pcells (p :: r) = .int .i64 p.1 :: .int .i64 p.2 :: pcells r := by simp [pcells]
      rw [e]
      simp only [List.getElem?_cons_succ]
      rw [ih j hj]
      unfold pcell
      have h1 : (j + 2) % 2 = j % 2 := by omega
      have h2 : (j + 2) / 2 = j / 2 + 1 := by omega
      rw [h1, h2, List.getD_cons_succ]
theorem pcells_one (ps : List (Int × Int)) : ∀ v ∈ pcells ps, v.oneCell' = true := by
  intro v hv
  simp only [pcells, List.mem_flatMap] at hv
  obtain ⟨p, _, hp⟩ := hv
  simp at hp
  rcases hp with rfl | rfl <;> rfl

theorem src_pairs {w : World} {b off : Nat} {ps : List (Int × Int)} (hc : ∀ i, i < ps.length → w.cell? ⟨b, off + i * 2, none⟩ = some (.int .i64 (ps.getD i (0, 0)).1) ∧ w.cell? ⟨b, off + i * 2 + 1, none⟩ = some (.int .i64 (ps.getD i (0, 0)).2)) :
    ∀ j v, (pcells ps)[j]? = some v → w.cell? ((⟨b, off, none⟩ : Addr).add j) = some v := by
  intro j v hv
  have hadd : (⟨b, off, none⟩ : Addr).add j = ⟨b, off + j, none⟩ := by unfold Addr.add; split <;> simp_all
  have hj : j < ps.length * 2 := by
    rcases Nat.lt_or_ge j (ps.length * 2) with h | h
    · exact h
    · rw [List.getElem?_eq_none (by rw [pcells_len]; exact h)] at hv; cases hv
  rw [pcells_get ps j hj] at hv
  have h2 := hc (j / 2) (by omega)
  rw [hadd, ← hv]
  unfold pcell
  by_cases h3 : j % 2 = 0
  · rw [if_pos h3, show off + j = off + j / 2 * 2 by omega]; exact h2.1
  · rw [if_neg h3, show off + j = off + j / 2 * 2 + 1 by omega]; exact h2.2

/-- A list of pairs that is handed in: its cells, and the marks behind it; while k of the places are laid. -/
def hPairUp (ps : List (Int × Int)) (k j : Nat) : Value := if j < ps.length * 2 then pcell ps j else if j < k * 2 then .int .i64 (if j % 2 = 0 then -5 else 0) else .int .i64 0
def hPair (ps : List (Int × Int)) (j : Nat) : Value := if j < ps.length * 2 then pcell ps j else .int .i64 (if j % 2 = 0 then -5 else 0)
theorem hPairUp_step {ps : List (Int × Int)} {k j : Nat} (hk : ps.length ≤ k) : (if j = k * 2 + 1 then (Value.int .i64 0) else if j = k * 2 then (Value.int .i64 (-5)) else hPairUp ps k j) = hPairUp ps (k + 1) j := by
  unfold hPairUp
  by_cases h : j = k * 2 + 1
  · subst h; rw [if_pos rfl, if_neg (by omega), if_pos (by omega), if_neg (by omega)]
  · rw [if_neg h]
    by_cases h' : j = k * 2
    · subst h'; rw [if_pos rfl, if_neg (by omega), if_pos (by omega), if_pos (by omega)]
    · rw [if_neg h']
      have : j < (k + 1) * 2 ↔ j < k * 2 := by omega
      simp only [this]

theorem copied_pairs {w : World} {g : Nat} {t : TypeId} {ps : List (Int × Int)} (h : w.heap[g]? = some (.cells (splice (List.replicate ((ps.length + 8) * 2) (.int .i64 0)) 0 (pcells ps)).toArray t (0, 0))) : w.rowIs g t ((ps.length + 8) * 2) (hPairUp ps ps.length) := by
  have hp := pcells_len ps
  have hl : (splice (List.replicate ((ps.length + 8) * 2) (Value.int .i64 0)) 0 (pcells ps)).length = (ps.length + 8) * 2 := by rw [length_splice _ _ _ (by rw [hp]; simp; omega)]; simp
  have := rowIs_of_list (f := hPairUp ps ps.length) h (fun i hi => ?_)
  · rw [hl] at this; exact this
  · rw [hl] at hi
    unfold hPairUp splice
    by_cases hx : i < ps.length * 2
    · rw [if_pos hx, List.take_zero, List.nil_append, List.getElem?_append_left (by rw [hp]; exact hx), pcells_get ps i hx]
    · rw [if_neg hx, if_neg hx, List.take_zero, List.nil_append, List.getElem?_append_right (by rw [hp]; omega), List.drop_replicate, List.getElem?_replicate, if_pos (by rw [hp]; omega)]

/-- make and copy of a list of pairs. -/
theorem made_pairs {T E : TypeId} (hT : Tryz.prog.underlying T = some (.slice E)) (hE : (Tryz.prog.info? E).map (fun i => (i.zero, i.size, i.bytes)) = some (some (.agg #[.int .i64 0, .int .i64 0]), 2, 16))
    (a : Option Addr) (c : Nat) (ps : List (Int × Int)) (w : World) (hm : ps.length * 16 ≤ 140737488351232) (hP : PairsAt w a ps) :
    ∃ o w1, (Instr.makeSlice T (.int .i64 ((ps.length : Int) + 8)) (.int .i64 ((ps.length : Int) + 8))).run Tryz.prog w = .ok (.slice (some ⟨w.heap.size, 0, none⟩) (ps.length + 8) (ps.length + 8)) (w.alloc o) ∧
      (Builtin.copy_ #[T, T] 3 #[.slice (some ⟨w.heap.size, 0, none⟩) (ps.length + 8) (ps.length + 8), .slice a ps.length c]).run Tryz.prog (w.alloc o) = .ok (.int .i64 (ps.length : Nat)) w1 ∧
      w1.rowIs w.heap.size E ((ps.length + 8) * 2) (hPairUp ps ps.length) ∧ Below w.heap.size w w1 := by
  obtain ⟨i0, hi0, hz0, hz1, hz2⟩ := info_parts hE
  have hmk := run_make (P := Tryz.prog) w T E i0 _ hT hi0 hz0 .i64 .i64 ((ps.length : Int) + 8) ((ps.length : Int) + 8) (by omega) (Int.le_refl _) (by rw [hz2]; omega) (by omega)
  have e8 : ((ps.length : Int) + 8).toNat = ps.length + 8 := by omega
  rw [e8, hz1, show (Value.agg #[.int .i64 0, .int .i64 0]).cells = #[.int .i64 0, .int .i64 0] from rfl, made_toArray2] at hmk
  have hbel : Below w.heap.size w (w.alloc (.cells (List.replicate ((ps.length + 8) * 2) (Value.int .i64 0)).toArray E)) := (Below.refl _ _).alloc (Nat.le_refl _) _
  have hsrc : 0 < ps.length → ∃ ad, a = some ad ∧ ∀ j v, (pcells ps)[j]? = some v → (w.alloc (.cells (List.replicate ((ps.length + 8) * 2) (Value.int .i64 0)).toArray E)).cell? (ad.add j) = some v := by
    intro h0
    rcases hP with rfl | ⟨b, off, rfl, hlt, hc⟩
    · simp at h0
    · exact ⟨_, rfl, src_pairs (fun i hi => ⟨(hbel.cell (p := ⟨b, _, none⟩) hlt).trans (hc i hi).1, (hbel.cell (p := ⟨b, _, none⟩) hlt).trans (hc i hi).2⟩)⟩
  obtain ⟨w1, hcp, hg1, hb1⟩ := run_copy_sized (P := Tryz.prog) (w.alloc (.cells (List.replicate ((ps.length + 8) * 2) (Value.int .i64 0)).toArray E)) T T 3 E 2 w.heap.size (ps.length + 8) (ps.length + 8) a ps.length c _ E (pcells ps) hT (by rw [hi0]; simp [hz1]) (heap_alloc_new w _) (by omega) (pcells_len ps) hsrc (by rw [pcells_len]; simp; omega) (pcells_one ps)
  exact ⟨_, w1, hmk, hcp, copied_pairs hg1, hb1 _ _ hbel (Nat.le_refl _)⟩

theorem Tryz.infoLatch : (Tryz.prog.info? 54).map (fun i => (i.zero, i.size, i.bytes)) = some (some (.agg #[.int .i64 0, .int .i64 0]), 2, 16) := by kernel_rfl
theorem Tryz.infoGate : (Tryz.prog.info? 56).map (fun i => (i.zero, i.size, i.bytes)) = some (some (.agg #[.int .i64 0, .int .i64 0]), 2, 16) := by kernel_rfl

theorem set4h {w : World} {b t n B : Nat} {f : Nat → Value} {v0 v1 v2 v3 : Value} (h : w.rowIs b t n f) (hb : b ≠ B) :
    ((((w.setCell ⟨B, 0, none⟩ v0).setCell ⟨B, 1, none⟩ v1).setCell ⟨B, 2, none⟩ v2).setCell ⟨B, 3, none⟩ v3).rowIs b t n f := (((h.setOther hb _).setOther hb _).setOther hb _).setOther hb _

set_option maxHeartbeats 1000000 in
set_option maxRecDepth 100000 in
theorem handed_any (n : Int) (la ga oa : Option Addr) (lc gc oc : Nat) (ls gs : List (Int × Int)) (os : List Int) (w : World)
    (hml : ls.length * 16 ≤ 140737488351232) (hmg : gs.length * 16 ≤ 140737488351232) (hmo : os.length * 8 ≤ 140737488351232) (hL : PairsAt w la ls) (hG : PairsAt w ga gs) (hO : IntsAt w oa os) :
    Calls Tryz.prog 18 #[.agg #[.int .i64 n, .slice la ls.length lc, .slice ga gs.length gc, .slice oa os.length oc]] w fun e w' => ∃ gl gg go,
      e = .returned (.agg #[.int .i64 n, .slice (some ⟨gl, 0, none⟩) ls.length (ls.length + 8), .slice (some ⟨gg, 0, none⟩) gs.length (gs.length + 8), .slice (some ⟨go, 0, none⟩) os.length (os.length + 8)]) ∧
      w.heap.size ≤ gl ∧ gl < gg ∧ gg < go ∧ w'.rowIs gl 54 ((ls.length + 8) * 2) (hPair ls) ∧ w'.rowIs gg 56 ((gs.length + 8) * 2) (hPair gs) ∧ w'.rowIs go 3 (os.length + 8) (hInt os) ∧ Below w.heap.size w w' := by
  obtain ⟨W2, hW2⟩ : ∃ W2, W2 = (w.alloc (.cells #[.int .i64 n, .slice la ls.length lc, .slice ga gs.length gc, .slice oa os.length oc] 34)).alloc (.cells #[.int .i64 0, .slice none 0 0, .slice none 0 0, .slice none 0 0] 34) := ⟨_, rfl⟩
  have bel2 : Below w.heap.size w W2 := by rw [hW2]; exact ((Below.refl _ _).alloc (Nat.le_refl _) _).alloc (by simp) _
  have s2 : W2.heap.size = w.heap.size + 2 := by rw [hW2]; simp
  obtain ⟨o1, w1, hmk, hcp, hrow, hb1⟩ := made_pairs Tryz.underlying30 Tryz.infoLatch la lc ls W2 hml (hL.below bel2)
  have q0 : W2.cell? ⟨w.heap.size, 0, none⟩ = some (.int .i64 n) := by rw [hW2, World.cell?_alloc_past _ _ _ (by simp)]; simp
  have q1 : W2.cell? ⟨w.heap.size, 1, none⟩ = some (.slice la ls.length lc) := by rw [hW2, World.cell?_alloc_past _ _ _ (by simp)]; simp
  have q2 : W2.cell? ⟨w.heap.size, 2, none⟩ = some (.slice ga gs.length gc) := by rw [hW2, World.cell?_alloc_past _ _ _ (by simp)]; simp
  have q3 : W2.cell? ⟨w.heap.size, 3, none⟩ = some (.slice oa os.length oc) := by rw [hW2, World.cell?_alloc_past _ _ _ (by simp)]; simp
  have q1a : (W2.alloc o1).cell? ⟨w.heap.size, 1, none⟩ = some (.slice la ls.length lc) := by rw [World.cell?_alloc_past _ _ _ (by show w.heap.size < _; omega)]; exact q1
  have q1b : w1.cell? ⟨w.heap.size, 1, none⟩ = some (.slice la ls.length lc) := by rw [(bcell hb1).1 _ _ (by omega)]; exact q1
  have n0 : ∀ j, W2.cell? ⟨w.heap.size + 1, j, none⟩ = #[.int .i64 0, .slice none 0 0, .slice none 0 0, .slice none 0 0][j]? := fun j => by rw [hW2]; exact cell_of_row _ _ _ _ _ _ (by rw [show w.heap.size + 1 = (w.alloc (.cells #[.int .i64 n, .slice la ls.length lc, .slice ga gs.length gc, .slice oa os.length oc] 34)).heap.size by simp]; exact heap_alloc_new _ _)
  have n1 : ∀ j, W2.frozen? ⟨w.heap.size + 1, j, none⟩ = false := fun j => by rw [hW2]; exact World.frozen?_alloc_at _ _ _ _ (by simp)
  have N0 : Hid (∀ j, W2.cell? ⟨w.heap.size + 1, j, none⟩ = #[.int .i64 0, .slice none 0 0, .slice none 0 0, .slice none 0 0][j]?) := n0
  have N1 : Hid (∀ j, W2.frozen? ⟨w.heap.size + 1, j, none⟩ = false) := n1
  clear n0 n1
  rw [hW2] at hmk hcp q1a
  have HS2 : Hid (W2.heap.size = w.heap.size + 2) := s2
  have hsz : ((w.alloc (.cells #[.int .i64 n, .slice la ls.length lc, .slice ga gs.length gc, .slice oa os.length oc] 34)).alloc (.cells #[.int .i64 0, .slice none 0 0, .slice none 0 0, .slice none 0 0] 34)).heap.size = w.heap.size + 1 + 1 := by simp
  simp only [hsz] at hmk hcp
  clear hW2 s2
  go_enter Tryz.func18, Tryz.ntmps18
  go_wp2
  rw [HS2.out] at hrow hb1
  clear hmk hcp hsz q1a q1b
  have belW : Below W2.heap.size W2 w1 := by rw [HS2.out]; exact hb1
  clear hb1
  go_loopw [4] (fun i wr => ∃ k : Nat, ls.length ≤ k ∧ k ≤ ls.length + 8 ∧ i = .int .i64 k ∧ wr.rowIs (w.heap.size + 1 + 1) 54 ((ls.length + 8) * 2) (hPairUp ls k) ∧ Below W2.heap.size W2 wr) (fun i _ => ls.length + 8 - (intOf i).toNat)
  case atStart => exact ⟨ls.length, Nat.le_refl _, by omega, rfl, hrow, belW⟩
  case round =>
    clear hrow belW
    obtain ⟨k, hk0, hk, rfl, hrow, hbel⟩ := hrel
    by_cases hk2 : k < ls.length + 8
    · have c1 := hrow.cell (i := k * 2) (by omega)
      have c2 := hrow.cell (i := k * 2 + 1) (by omega)
      have f1 := hrow.frozen (k * 2)
      have f2 := hrow.frozen (k * 2 + 1)
      have r2 := (hrow.set (k * 2) (.int .i64 (-5))).set (k * 2 + 1) (.int .i64 0)
      have hk3 : (k : Int) < (ls.length : Int) + 8 := by omega
      obtain ⟨u, hu⟩ : ∃ u, u = hPairUp ls k (k * 2) := ⟨_, rfl⟩
      obtain ⟨v, hv⟩ : ∃ v, v = hPairUp ls k (k * 2 + 1) := ⟨_, rfl⟩
      rw [← hu] at c1
      rw [← hv] at c2
      clear hu hv q0 q1 q2 q3
      go_wp2
      go_roundw
      case rel => exact ⟨k + 1, by omega, by omega, by go_num, r2.congr (fun i hi => hPairUp_step hk0), (hbel.setCell (by rw [HS2.out]; simp) _).setCell (by rw [HS2.out]; simp) _⟩
      case measure => simp [intOf]; omega
    · obtain rfl : k = ls.length + 8 := by omega
      obtain ⟨w4, rfl⟩ : ∃ w4, w4 = wr := ⟨wr, rfl⟩
      have rowL : w4.rowIs (w.heap.size + 1 + 1) 54 ((ls.length + 8) * 2) (hPair ls) := hrow.congr (fun i hi => by unfold hPairUp hPair; by_cases h : i < ls.length * 2 <;> simp [h]; omega)
      clear hrow
      have p0 := ((bcell hbel).1 w.heap.size 0 (by rw [HS2.out]; omega)).trans q0
      have p1 := ((bcell hbel).1 w.heap.size 1 (by rw [HS2.out]; omega)).trans q1
      have p2 := ((bcell hbel).1 w.heap.size 2 (by rw [HS2.out]; omega)).trans q2
      have p3 := ((bcell hbel).1 w.heap.size 3 (by rw [HS2.out]; omega)).trans q3
      obtain ⟨o2, w2, hmk, hcp, hrow2, hb2⟩ := made_pairs Tryz.underlying31 Tryz.infoGate ga gc gs w4 hmg ((hG.below bel2).below hbel)
      have hlr := rowL.lt
      have p2a : (w4.alloc o2).cell? ⟨w.heap.size, 2, none⟩ = some (.slice ga gs.length gc) := by rw [World.cell?_alloc_past _ _ _ (by show w.heap.size < _; omega)]; exact p2
      have p2b : w2.cell? ⟨w.heap.size, 2, none⟩ = some (.slice ga gs.length gc) := by rw [(bcell hb2).1 _ _ (by omega)]; exact p2
      obtain ⟨G, hGG⟩ : ∃ G, G = w4.heap.size := ⟨_, rfl⟩
      go_wp2
      clear hmk hcp p2a p2b hGG G
      have s3 : w.heap.size + 1 + 1 < w4.heap.size := hlr
      go_loopw [6] (fun i ws => ∃ k : Nat, gs.length ≤ k ∧ k ≤ gs.length + 8 ∧ i = .int .i64 k ∧ ws.rowIs w4.heap.size 56 ((gs.length + 8) * 2) (hPairUp gs k) ∧ Below w4.heap.size w4 ws) (fun i _ => gs.length + 8 - (intOf i).toNat)
      case atStart => exact ⟨gs.length, Nat.le_refl _, by omega, rfl, hrow2, hb2⟩
      case round =>
        clear hrow2 hb2
        obtain ⟨k, hk0, hk, rfl, hrow2, hb2⟩ := hrel
        by_cases hk2 : k < gs.length + 8
        · have c1 := hrow2.cell (i := k * 2) (by omega)
          have c2 := hrow2.cell (i := k * 2 + 1) (by omega)
          have f1 := hrow2.frozen (k * 2)
          have f2 := hrow2.frozen (k * 2 + 1)
          have r2 := (hrow2.set (k * 2) (.int .i64 (-5))).set (k * 2 + 1) (.int .i64 0)
          have hk3 : (k : Int) < (gs.length : Int) + 8 := by omega
          obtain ⟨u, hu⟩ : ∃ u, u = hPairUp gs k (k * 2) := ⟨_, rfl⟩
          obtain ⟨v, hv⟩ : ∃ v, v = hPairUp gs k (k * 2 + 1) := ⟨_, rfl⟩
          rw [← hu] at c1
          rw [← hv] at c2
          clear hu hv q0 q1 q2 q3 p0 p1 p2 p3
          go_wp2
          go_roundw
          case rel => exact ⟨k + 1, by omega, by omega, by go_num, r2.congr (fun i hi => hPairUp_step hk0), (hb2.setCell (Nat.le_refl _) _).setCell (Nat.le_refl _) _⟩
          case measure => simp [intOf]; omega
        · obtain rfl : k = gs.length + 8 := by omega
          have rowG : wr.rowIs w4.heap.size 56 ((gs.length + 8) * 2) (hPair gs) := hrow2.congr (fun i hi => by unfold hPairUp hPair; by_cases h : i < gs.length * 2 <;> simp [h]; omega)
          have m0 := ((bcell hb2).1 w.heap.size 0 (by omega)).trans p0
          have m1 := ((bcell hb2).1 w.heap.size 1 (by omega)).trans p1
          have m2 := ((bcell hb2).1 w.heap.size 2 (by omega)).trans p2
          have m3 := ((bcell hb2).1 w.heap.size 3 (by omega)).trans p3
          have hOr := ((hO.below bel2).below hbel).below hb2
          have rL := rowIs_below rowL hb2
          have kl : (ls.length : Int) ≤ (ls.length : Int) + 8 := by omega
          have kg : (gs.length : Int) ≤ (gs.length : Int) + 8 := by omega
          clear hrow2 q0 q1 q2 q3 p0 p1 p2 p3
          go_wp2
          have hzr : w.heap.size < wr.heap.size := Nat.lt_of_lt_of_le (by omega) hb2.size
          have hzr1 : w.heap.size + 1 < wr.heap.size := Nat.lt_of_lt_of_le (by omega) hb2.size
          have NC : Hid (∀ j, wr.cell? ⟨w.heap.size + 1, j, none⟩ = #[.int .i64 0, .slice none 0 0, .slice none 0 0, .slice none 0 0][j]?) := fun j => (((bcell hb2).1 _ _ (by omega)).trans ((bcell hbel).1 _ _ (by rw [HS2.out]; omega))).trans (N0.out j)
          have NF : Hid (∀ j, wr.frozen? ⟨w.heap.size + 1, j, none⟩ = false) := fun j => (((bcell hb2).2 _ _ (by omega)).trans ((bcell hbel).2 _ _ (by rw [HS2.out]; omega))).trans (N1.out j)
          go_region_held3 (fun w' => w'.cell? ⟨w.heap.size, 0, none⟩ = some (.int .i64 n) ∧ w'.cell? ⟨w.heap.size, 1, none⟩ = some (.slice la ls.length lc) ∧ w'.cell? ⟨w.heap.size, 2, none⟩ = some (.slice ga gs.length gc) ∧ w'.cell? ⟨w.heap.size, 3, none⟩ = some (.slice oa os.length oc)) (first | (simp [go_sem, m0, m1, m2, m3]; done) | (exact ⟨((bcell b5).1 _ _ hzr).trans m0, ((bcell b5).1 _ _ hzr).trans m1, ((bcell b5).1 _ _ hzr).trans m2, ((bcell b5).1 _ _ hzr).trans m3⟩) | (simp [go_sem, *]; done)) (first | (go_at_call 19; refine (handedInts_any oa oc os _ hmo (hOr.below (Below.refl _ _).drew)).mono ?_; rintro e w5 ⟨go, rfl, hgo, rowO, b5⟩; have d0 := ((bcell b5).1 _ 0 hzr1).trans (NC.out 0); have d1 := ((bcell b5).1 _ 1 hzr1).trans (NC.out 1); have d2 := ((bcell b5).1 _ 2 hzr1).trans (NC.out 2); have d3 := ((bcell b5).1 _ 3 hzr1).trans (NC.out 3); have e0 := ((bcell b5).2 _ 0 hzr1).trans (NF.out 0); have e1 := ((bcell b5).2 _ 1 hzr1).trans (NF.out 1); have e2 := ((bcell b5).2 _ 2 hzr1).trans (NF.out 2); have e3 := ((bcell b5).2 _ 3 hzr1).trans (NF.out 3)) | fail)
          go_wp2
          have hb5 : Below wr.heap.size wr w5 := ⟨b5.os, b5.tape, b5.output, b5.size, b5.block⟩
          have hgo' : wr.heap.size ≤ go := hgo
          have rowGl := rowG.lt
          have bel5 : Below w.heap.size w w5 := (((bel2.trans (hbel.mono (by rw [HS2.out]; omega))).trans (hb2.mono (by omega))).trans (hb5.mono (by omega)))
          have rL5 := rowIs_below rL hb5
          have rG5 := rowIs_below rowG hb5
          refine bodyPost_ret (v := .agg #[.int .i64 n, .slice (some ⟨w.heap.size + 1 + 1, 0, none⟩) ls.length (ls.length + 8), .slice (some ⟨w4.heap.size, 0, none⟩) gs.length (gs.length + 8), .slice (some ⟨go, 0, none⟩) os.length (os.length + 8)]) (by simp [results, Tryz.results18, go_sem, d0, d1, d2, d3]) rfl ⟨w.heap.size + 1 + 1, w4.heap.size, go, rfl, by omega, s3, by omega, set4h rL5 (by omega), set4h rG5 (by omega), set4h rowO (by omega), ?_⟩
          exact (((bel5.setCell (by simp) _).setCell (by simp) _).setCell (by simp) _).setCell (by simp) _

end Go.Proofs.YtgpaajdfkekjiaaGreatDoor

namespace Go.Proofs.YtgpaajdfkekjiaaGreatDoor
open Go.RowKit

/-- While the owner looks: k places have been written over. -/
def hPairDone (ps : List (Int × Int)) (k j : Nat) : Value := if j < k * 2 then .int .i64 (if j % 2 = 0 then 1 else 0) else hPair ps j
theorem hPairDone_step {ps : List (Int × Int)} {k j : Nat} : (if j = k * 2 + 1 then (Value.int .i64 0) else if j = k * 2 then (Value.int .i64 1) else hPairDone ps k j) = hPairDone ps (k + 1) j := by
  unfold hPairDone
  by_cases h : j = k * 2 + 1
  · subst h; rw [if_pos rfl, if_pos (by omega), if_neg (by omega)]
  · rw [if_neg h]
    by_cases h' : j = k * 2
    · subst h'; rw [if_pos rfl, if_pos (by omega), if_pos (by omega)]
    · rw [if_neg h']
      have : j < (k + 1) * 2 ↔ j < k * 2 := by omega
      simp only [this]
theorem hPairDone_in {ps : List (Int × Int)} {k : Nat} (h : k < ps.length) : hPairDone ps k (k * 2) = .int .i64 (ps.getD k (0, 0)).1 ∧ hPairDone ps k (k * 2 + 1) = .int .i64 (ps.getD k (0, 0)).2 := by
  unfold hPairDone hPair pcell
  have h1 : k * 2 / 2 = k := by omega
  have h2 : (k * 2 + 1) / 2 = k := by omega
  refine ⟨?_, ?_⟩
  · rw [if_neg (by omega), if_pos (by omega), if_pos (by omega), h1]
  · rw [if_neg (by omega), if_pos (by omega), if_neg (by omega), h2]
theorem hPairDone_out {ps : List (Int × Int)} {k : Nat} (h : ¬ k < ps.length) : hPairDone ps k (k * 2) = .int .i64 (-5) ∧ hPairDone ps k (k * 2 + 1) = .int .i64 0 := by
  unfold hPairDone hPair
  refine ⟨?_, ?_⟩
  · rw [if_neg (by omega), if_neg (by omega), if_pos (by omega)]
  · rw [if_neg (by omega), if_neg (by omega), if_neg (by omega)]

theorem drewN_below (w : World) (n : Nat) : Below w.heap.size w (w.drewN n) := below_drewN (Below.refl _ _) n
theorem step_row {w : World} {A : Obj} {nq g t N k : Nat} {f : Nat → Value} {v0 v1 : Value} (h : w.rowIs g t N f) :
    ((((w.alloc A).drewN nq).setCell ⟨g, k * 2, none⟩ v0).setCell ⟨g, k * 2 + 1, none⟩ v1).rowIs g t N (fun j => if j = k * 2 + 1 then v1 else if j = k * 2 then v0 else f j) :=
  ((rowIs_below (h.alloc A) (drewN_below _ nq)).set _ _).set _ _
theorem step_other {w : World} {A : Obj} {nq g b t N k : Nat} {f : Nat → Value} {v0 v1 : Value} (h : w.rowIs b t N f) (hb : b ≠ g) :
    ((((w.alloc A).drewN nq).setCell ⟨g, k * 2, none⟩ v0).setCell ⟨g, k * 2 + 1, none⟩ v1).rowIs b t N f :=
  ((rowIs_below (h.alloc A) (drewN_below _ nq)).setOther hb _).setOther hb _
theorem step_span {lo hi : Nat} {W w : World} {A : Obj} {nq g k : Nat} {v0 v1 : Value} (h : Span lo hi W w) (h1 : lo ≤ g) (h2 : g < hi) :
    Span lo hi W ((((w.alloc A).drewN nq).setCell ⟨g, k * 2, none⟩ v0).setCell ⟨g, k * 2 + 1, none⟩ v1) :=
  (((h.alloc A).trans (Span.of_below (drewN_below _ nq))).setCell h1 h2 _).setCell h1 h2 _

set_option maxHeartbeats 1000000 in
set_option maxRecDepth 100000 in
theorem untouched_any (n : Int) (la ga oa : Option Addr) (lc gc oc gl gg go : Nat) (ls gs : List (Int × Int)) (os : List Int) (w : World)
    (hml : ls.length * 16 ≤ 140737488351232) (hmg : gs.length * 16 ≤ 140737488351232) (hmo : os.length * 8 ≤ 140737488351232) (hL : PairsIn gl w la ls) (hG : PairsIn gl w ga gs) (hO : IntsIn gl w oa os)
    (h1 : gl < gg) (h2 : gg < go) (rL : w.rowIs gl 54 ((ls.length + 8) * 2) (hPair ls)) (rG : w.rowIs gg 56 ((gs.length + 8) * 2) (hPair gs)) (rO : w.rowIs go 3 (os.length + 8) (hInt os)) :
    Calls Tryz.prog 35 #[.agg #[.int .i64 n, .slice (some ⟨gl, 0, none⟩) ls.length (ls.length + 8), .slice (some ⟨gg, 0, none⟩) gs.length (gs.length + 8), .slice (some ⟨go, 0, none⟩) os.length (os.length + 8)],
        .agg #[.int .i64 n, .slice la ls.length lc, .slice ga gs.length gc, .slice oa os.length oc]] w fun e w' => e = .returned (.bool true) ∧ Span gl (go + 1) w w' := by
  obtain ⟨W2, hW2⟩ : ∃ W2, W2 = (w.alloc (.cells #[.int .i64 n, .slice (some ⟨gl, 0, none⟩) ls.length (ls.length + 8), .slice (some ⟨gg, 0, none⟩) gs.length (gs.length + 8), .slice (some ⟨go, 0, none⟩) os.length (os.length + 8)] 34)).alloc (.cells #[.int .i64 n, .slice la ls.length lc, .slice ga gs.length gc, .slice oa os.length oc] 34) := ⟨_, rfl⟩
  have bel2 : Below w.heap.size w W2 := by rw [hW2]; exact ((Below.refl _ _).alloc (Nat.le_refl _) _).alloc (by simp) _
  have s2 : W2.heap.size = w.heap.size + 2 := by rw [hW2]; simp
  have lo := rO.lt
  have hL2 := hL.below bel2
  have hG2 := hG.below bel2
  have hO2 := hO.below bel2
  have rL2 := rowIs_below rL bel2
  have rG2 := rowIs_below rG bel2
  have rO2 := rowIs_below rO bel2
  have bo : ∀ j, W2.cell? ⟨w.heap.size, j, none⟩ = #[.int .i64 n, .slice (some ⟨gl, 0, none⟩) ls.length (ls.length + 8), .slice (some ⟨gg, 0, none⟩) gs.length (gs.length + 8), .slice (some ⟨go, 0, none⟩) os.length (os.length + 8)][j]? := fun j => by rw [hW2, World.cell?_alloc_past _ _ _ (by simp)]; exact cell_of_row _ _ _ _ _ _ (heap_alloc_new _ _)
  have bc : ∀ j, W2.cell? ⟨w.heap.size + 1, j, none⟩ = #[.int .i64 n, .slice la ls.length lc, .slice ga gs.length gc, .slice oa os.length oc][j]? := fun j => by rw [hW2]; exact cell_of_row _ _ _ _ _ _ (alloc_blk2 _ _ _ (by simp))
  have HO : Hid (∀ j, W2.cell? ⟨w.heap.size, j, none⟩ = #[.int .i64 n, .slice (some ⟨gl, 0, none⟩) ls.length (ls.length + 8), .slice (some ⟨gg, 0, none⟩) gs.length (gs.length + 8), .slice (some ⟨go, 0, none⟩) os.length (os.length + 8)][j]?) := bo
  have HC : Hid (∀ j, W2.cell? ⟨w.heap.size + 1, j, none⟩ = #[.int .i64 n, .slice la ls.length lc, .slice ga gs.length gc, .slice oa os.length oc][j]?) := bc
  have HS2 : Hid (W2.heap.size = w.heap.size + 2) := s2
  have hun := untouchedInts_any oa oc go os W2 hmo (hO2.mono (by omega)) rO2
  rw [hW2] at hun
  clear bo bc s2
  go_enter Tryz.func35, Tryz.ntmps35
  go_wp2_with (go_at_call 36; refine hun.mono ?_; rintro e w1 ⟨rfl, sp1⟩; rw [← hW2] at sp1; have d0 := (sp1.cell (p := ⟨w.heap.size, 0, none⟩) (by rw [HS2.out]; simp) (by simp; omega)).trans (HO.out 0); have d1 := (sp1.cell (p := ⟨w.heap.size, 1, none⟩) (by rw [HS2.out]; simp) (by simp; omega)).trans (HO.out 1); have e0 := (sp1.cell (p := ⟨w.heap.size + 1, 0, none⟩) (by rw [HS2.out]; simp) (by simp; omega)).trans (HC.out 0); have e1 := (sp1.cell (p := ⟨w.heap.size + 1, 1, none⟩) (by rw [HS2.out]; simp) (by simp; omega)).trans (HC.out 1))
  have rL1 := rowIs_span rL2 sp1 (.inl (by omega))
  have sp1' : Span gl (go + 1) W2 w1 := sp1.mono (by omega) (Nat.le_refl _)
  clear hun d0 d1 e0 e1 hW2
  go_loopw [6, 9, 10] (fun ok i _ wr => ∃ k : Nat, k ≤ ls.length + 8 ∧ i = .int .i64 k ∧ ok = .bool true ∧ wr.rowIs gl 54 ((ls.length + 8) * 2) (hPairDone ls k) ∧ wr.rowIs gg 56 ((gs.length + 8) * 2) (hPair gs) ∧ Span gl (go + 1) W2 wr) (fun _ i _ _ => ls.length + 8 - (intOf i).toNat)
  case atStart => exact ⟨0, by omega, rfl, rfl, rL1, rowIs_span rG2 sp1 (.inl (by omega)), sp1'⟩
  case round =>
    clear rL1 sp1'
    obtain ⟨k, hk, rfl, rfl, hrow, hrG, hsp⟩ := hrel
    have e1 := (hsp.cell (p := ⟨w.heap.size + 1, 1, none⟩) (by rw [HS2.out]; simp) (by simp; omega)).trans (HC.out 1)
    by_cases hk2 : k < ls.length + 8
    · have c1 := hrow.cell (i := k * 2) (by omega)
      have c2 := hrow.cell (i := k * 2 + 1) (by omega)
      have f1 := hrow.frozen (k * 2)
      have f2 := hrow.frozen (k * 2 + 1)
      have r2 := ((hrow.alloc (.cells #[.int .i64 (-5), .int .i64 0] 54)).drew)
      have hk3 : (k : Int) < (ls.length : Int) + 8 := by omega
      have hk0 : (0 : Int) ≤ (k : Int) := by omega
      have hLr := hL2.span hsp (Nat.le_refl _)
      have hszr : w.heap.size + 1 < wr.heap.size := Nat.lt_of_lt_of_le (by rw [HS2.out]; omega) hsp.size
      by_cases hx : k < ls.length
      · rw [(hPairDone_in hx).1] at c1
        rw [(hPairDone_in hx).2] at c2
        obtain ⟨b, off, rfl, hbg, hlt, hc⟩ := hLr.get (by omega)
        obtain ⟨hx1, hx2⟩ := hc k hx
        obtain ⟨x, hX⟩ : ∃ x, x = ls.getD k (0, 0) := ⟨_, rfl⟩
        rw [← hX] at c1 c2 hx1 hx2
        obtain ⟨x1, x2⟩ := x
        dsimp only at c1 c2 hx1 hx2
        have hgl := hrow.lt
        have c1a : (wr.alloc (.cells #[.int .i64 x1, .int .i64 x2] 54)).cell? ⟨gl, k * 2, none⟩ = some (.int .i64 x1) := by rw [World.cell?_alloc_past _ _ _ hgl]; exact c1
        have c2a : (wr.alloc (.cells #[.int .i64 x1, .int .i64 x2] 54)).cell? ⟨gl, k * 2 + 1, none⟩ = some (.int .i64 x2) := by rw [World.cell?_alloc_past _ _ _ hgl]; exact c2
        clear hX hc hLr
        go_wp2
        go_quiet (fail)
        go_wp2
        go_roundw
        case rel => exact ⟨k + 1, by omega, by go_num, rfl, (step_row hrow).congr (fun i hi => hPairDone_step), step_other hrG (by omega), step_span hsp (Nat.le_refl _) (by omega)⟩
        case measure => simp [intOf]; omega
      · rw [(hPairDone_out hx).1] at c1
        rw [(hPairDone_out hx).2] at c2
        have hgl := hrow.lt
        have c1a : (wr.alloc (.cells #[.int .i64 (-5), .int .i64 0] 54)).cell? ⟨gl, k * 2, none⟩ = some (.int .i64 (-5)) := by rw [World.cell?_alloc_past _ _ _ hgl]; exact c1
        have c2a : (wr.alloc (.cells #[.int .i64 (-5), .int .i64 0] 54)).cell? ⟨gl, k * 2 + 1, none⟩ = some (.int .i64 0) := by rw [World.cell?_alloc_past _ _ _ hgl]; exact c2
        clear hLr
        go_wp2
        go_quiet (fail)
        go_wp2
        go_roundw
        case rel => exact ⟨k + 1, by omega, by go_num, rfl, (step_row hrow).congr (fun i hi => hPairDone_step), step_other hrG (by omega), step_span hsp (Nat.le_refl _) (by omega)⟩
        case measure => simp [intOf]; omega
    · obtain rfl : k = ls.length + 8 := by omega
      obtain ⟨w4, rfl⟩ : ∃ w4, w4 = wr := ⟨wr, rfl⟩
      have d2 := (hsp.cell (p := ⟨w.heap.size, 2, none⟩) (by rw [HS2.out]; simp) (by simp; omega)).trans (HO.out 2)
      have e2 := (hsp.cell (p := ⟨w.heap.size + 1, 2, none⟩) (by rw [HS2.out]; simp) (by simp; omega)).trans (HC.out 2)
      clear hrow e1
      go_wp2
      go_loopw [6, 12, 13] (fun ok i _ wr => ∃ k : Nat, k ≤ gs.length + 8 ∧ i = .int .i64 k ∧ ok = .bool true ∧ wr.rowIs gg 56 ((gs.length + 8) * 2) (hPairDone gs k) ∧ Span gl (go + 1) W2 wr) (fun _ i _ _ => gs.length + 8 - (intOf i).toNat)
      case atStart => exact ⟨0, by omega, rfl, rfl, hrG, hsp⟩
      case round =>
        clear hrG hsp d2 e2
        obtain ⟨k, hk, rfl, rfl, hrow, hsp⟩ := hrel
        have e2 := (hsp.cell (p := ⟨w.heap.size + 1, 2, none⟩) (by rw [HS2.out]; simp) (by simp; omega)).trans (HC.out 2)
        by_cases hk2 : k < gs.length + 8
        · have c1 := hrow.cell (i := k * 2) (by omega)
          have c2 := hrow.cell (i := k * 2 + 1) (by omega)
          have f1 := hrow.frozen (k * 2)
          have f2 := hrow.frozen (k * 2 + 1)
          have hk3 : (k : Int) < (gs.length : Int) + 8 := by omega
          have hk0 : (0 : Int) ≤ (k : Int) := by omega
          have hGr := hG2.span hsp (Nat.le_refl _)
          have hszr : w.heap.size + 1 < wr.heap.size := Nat.lt_of_lt_of_le (by rw [HS2.out]; omega) hsp.size
          have hgl := hrow.lt
          by_cases hx : k < gs.length
          · rw [(hPairDone_in hx).1] at c1
            rw [(hPairDone_in hx).2] at c2
            obtain ⟨b, off, rfl, hbg, hlt, hc⟩ := hGr.get (by omega)
            obtain ⟨hx1, hx2⟩ := hc k hx
            obtain ⟨x, hX⟩ : ∃ x, x = gs.getD k (0, 0) := ⟨_, rfl⟩
            rw [← hX] at c1 c2 hx1 hx2
            obtain ⟨x1, x2⟩ := x
            dsimp only at c1 c2 hx1 hx2
            have c1a : (wr.alloc (.cells #[.int .i64 x1, .int .i64 x2] 56)).cell? ⟨gg, k * 2, none⟩ = some (.int .i64 x1) := by rw [World.cell?_alloc_past _ _ _ hgl]; exact c1
            have c2a : (wr.alloc (.cells #[.int .i64 x1, .int .i64 x2] 56)).cell? ⟨gg, k * 2 + 1, none⟩ = some (.int .i64 x2) := by rw [World.cell?_alloc_past _ _ _ hgl]; exact c2
            clear hX hc hGr
            go_wp2
            go_quiet (fail)
            go_wp2
            go_roundw
            case rel => exact ⟨k + 1, by omega, by go_num, rfl, (step_row hrow).congr (fun i hi => hPairDone_step), step_span hsp (by omega) (by omega)⟩
            case measure => simp [intOf]; omega
          · rw [(hPairDone_out hx).1] at c1
            rw [(hPairDone_out hx).2] at c2
            have c1a : (wr.alloc (.cells #[.int .i64 (-5), .int .i64 0] 56)).cell? ⟨gg, k * 2, none⟩ = some (.int .i64 (-5)) := by rw [World.cell?_alloc_past _ _ _ hgl]; exact c1
            have c2a : (wr.alloc (.cells #[.int .i64 (-5), .int .i64 0] 56)).cell? ⟨gg, k * 2 + 1, none⟩ = some (.int .i64 0) := by rw [World.cell?_alloc_past _ _ _ hgl]; exact c2
            clear hGr
            go_wp2
            go_quiet (fail)
            go_wp2
            go_roundw
            case rel => exact ⟨k + 1, by omega, by go_num, rfl, (step_row hrow).congr (fun i hi => hPairDone_step), step_span hsp (by omega) (by omega)⟩
            case measure => simp [intOf]; omega
        · clear e2
          go_wp2
          go_ret
          exact ⟨rfl, (Span.of_below bel2).trans hsp⟩

end Go.Proofs.YtgpaajdfkekjiaaGreatDoor
