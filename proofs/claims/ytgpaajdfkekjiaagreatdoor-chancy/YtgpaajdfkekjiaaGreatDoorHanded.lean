/-
  What handed of package latchlaw does: the same circuit in lists of its own, with marked spare room.
-/
import Derived.Test.YtgpaajdfkekjiaaGreatDoorHand
import Derived.Deep.RegionHeld3
import Derived.Deep.DrawnRows
namespace Go.Proofs.YtgpaajdfkekjiaaGreatDoor
open Go.RowKit

theorem made_toArray2 (z : Value) (n : Nat) : madeCells #[z, z] n = (List.replicate n z).toArray := by
  apply Array.ext
  · simp [madeCells]
  · intro i h1 h2
    have h3 : i % 2 = 0 ∨ i % 2 = 1 := by omega
    rcases h3 with h3 | h3 <;> simp [madeCells, h3]

def pcells (ps : List (Int × Int)) : List Value := ps.flatMap fun p => [.int .i64 p.1, .int .i64 p.2]
theorem pcells_len (ps : List (Int × Int)) : (pcells ps).length = ps.length * 2 := by
  induction ps with
  | nil => rfl
  | cons p r ih => simp [pcells] at ih ⊢; omega
/-- The cell of a list of pairs. -/
def pcell (ps : List (Int × Int)) (j : Nat) : Value := .int .i64 (if j % 2 = 0 then (ps.getD (j / 2) (0, 0)).1 else (ps.getD (j / 2) (0, 0)).2)
theorem pcells_get (ps : List (Int × Int)) : ∀ j, j < ps.length * 2 → (pcells ps)[j]? = some (pcell ps j) := by
  induction ps with
  | nil => intro j h; simp at h
  | cons p r ih =>
    intro j h
    match j with
    | 0 => simp [pcells, pcell]
    | 1 => simp [pcells, pcell]
    | j + 2 =>
      have hj : j < r.length * 2 := by simp at h; omega
      have e : pcells (p :: r) = .int .i64 p.1 :: .int .i64 p.2 :: pcells r := by simp [pcells]
      rw [e]
      simp only [List.getElem?_cons_succ]
      rw [ih j hj]
      unfold pcell
      have h1 : (j + 2) % 2 = j % 2 := by omega
      have h2 : (j + 2) / 2 = j / 2 + 1 := by omega
      rw [h1, h2, List.getD_cons_succ]
theorem pcells_one (ps : List (Int × Int)) : ∀ v ∈ pcells ps, v.oneCell' = true := by
  intro v hv
  simp only [pcells, List.mem_flatMap] at hv
  obtain ⟨p, _, hp⟩ := hv
  simp at hp
  rcases hp with rfl | rfl <;> rfl

theorem src_pairs {w : World} {b off : Nat} {ps : List (Int × Int)} (hc : ∀ i, i < ps.length → w.cell? ⟨b, off + i * 2, none⟩ = some (.int .i64 (ps.getD i (0, 0)).1) ∧ w.cell? ⟨b, off + i * 2 + 1, none⟩ = some (.int .i64 (ps.getD i (0, 0)).2)) :
    ∀ j v, (pcells ps)[j]? = some v → w.cell? ((⟨b, off, none⟩ : Addr).add j) = some v := by
  intro j v hv
  have hadd : (⟨b, off, none⟩ : Addr).add j = ⟨b, off + j, none⟩ := by unfold Addr.add; split <;> simp_all
  have hj : j < ps.length * 2 := by
    rcases Nat.lt_or_ge j (ps.length * 2) with h | h
    · exact h
    · rw [List.getElem?_eq_none (by rw [pcells_len]; exact h)] at hv; cases hv
  rw [pcells_get ps j hj] at hv
  have h2 := hc (j / 2) (by omega)
  rw [hadd, ← hv]
  unfold pcell
  by_cases h3 : j % 2 = 0
  · rw [if_pos h3, show off + j = off + j / 2 * 2 by omega]; exact h2.1
  · rw [if_neg h3, show off + j = off + j / 2 * 2 + 1 by omega]; exact h2.2

/-- A list of pairs that is handed in: its cells, and the marks behind it; while k of the places are laid. -/
def hPairUp (ps : List (Int × Int)) (k j : Nat) : Value := if j < ps.length * 2 then pcell ps j else if j < k * 2 then .int .i64 (if j % 2 = 0 then -5 else 0) else .int .i64 0
def hPair (ps : List (Int × Int)) (j : Nat) : Value := if j < ps.length * 2 then pcell ps j else .int .i64 (if j % 2 = 0 then -5 else 0)
theorem hPairUp_step {ps : List (Int × Int)} {k j : Nat} (hk : ps.length ≤ k) : (if j = k * 2 + 1 then (Value.int .i64 0) else if j = k * 2 then (Value.int .i64 (-5)) else hPairUp ps k j) = hPairUp ps (k + 1) j := by
  unfold hPairUp
  by_cases h : j = k * 2 + 1
  · subst h; rw [if_pos rfl, if_neg (by omega), if_pos (by omega), if_neg (by omega)]
  · rw [if_neg h]
    by_cases h' : j = k * 2
    · subst h'; rw [if_pos rfl, if_neg (by omega), if_pos (by omega), if_pos (by omega)]
    · rw [if_neg h']
      have : j < (k + 1) * 2 ↔ j < k * 2 := by omega
      simp only [this]

theorem copied_pairs {w : World} {g : Nat} {t : TypeId} {ps : List (Int × Int)} (h : w.heap[g]? = some (.cells (splice (List.replicate ((ps.length + 8) * 2) (.int .i64 0)) 0 (pcells ps)).toArray t (0, 0))) : w.rowIs g t ((ps.length + 8) * 2) (hPairUp ps ps.length) := by
  have hp := pcells_len ps
  have hl : (splice (List.replicate ((ps.length + 8) * 2) (Value.int .i64 0)) 0 (pcells ps)).length = (ps.length + 8) * 2 := by rw [length_splice _ _ _ (by rw [hp]; simp; omega)]; simp
  have := rowIs_of_list (f := hPairUp ps ps.length) h (fun i hi => ?_)
  · rw [hl] at this; exact this
  · rw [hl] at hi
    unfold hPairUp splice
    by_cases hx : i < ps.length * 2
    · rw [if_pos hx, List.take_zero, List.nil_append, List.getElem?_append_left (by rw [hp]; exact hx), pcells_get ps i hx]
    · rw [if_neg hx, if_neg hx, List.take_zero, List.nil_append, List.getElem?_append_right (by rw [hp]; omega), List.drop_replicate, List.getElem?_replicate, if_pos (by rw [hp]; omega)]

/-- make and copy of a list of pairs. -/
theorem made_pairs {T E : TypeId} (hT : Tryz.prog.underlying T = some (.slice E)) (hE : (Tryz.prog.info? E).map (fun i => (i.zero, i.size, i.bytes)) = some (some (.agg #[.int .i64 0, .int .i64 0]), 2, 16))
    (a : Option Addr) (c : Nat) (ps : List (Int × Int)) (w : World) (hm : ps.length * 16 ≤ 140737488351232) (hP : PairsAt w a ps) :
    ∃ o w1, (Instr.makeSlice T (.int .i64 ((ps.length : Int) + 8)) (.int .i64 ((ps.length : Int) + 8))).run Tryz.prog w = .ok (.slice (some ⟨w.heap.size, 0, none⟩) (ps.length + 8) (ps.length + 8)) (w.alloc o) ∧
      (Builtin.copy_ #[T, T] 3 #[.slice (some ⟨w.heap.size, 0, none⟩) (ps.length + 8) (ps.length + 8), .slice a ps.length c]).run Tryz.prog (w.alloc o) = .ok (.int .i64 (ps.length : Nat)) w1 ∧
      w1.rowIs w.heap.size E ((ps.length + 8) * 2) (hPairUp ps ps.length) ∧ Below w.heap.size w w1 := by
  obtain ⟨i0, hi0, hz0, hz1, hz2⟩ := info_parts hE
  have hmk := run_make (P := Tryz.prog) w T E i0 _ hT hi0 hz0 .i64 .i64 ((ps.length : Int) + 8) ((ps.length : Int) + 8) (by omega) (Int.le_refl _) (by rw [hz2]; omega) (by omega)
  have e8 : ((ps.length : Int) + 8).toNat = ps.length + 8 := by omega
  rw [e8, hz1, show (Value.agg #[.int .i64 0, .int .i64 0]).cells = #[.int .i64 0, .int .i64 0] from rfl, made_toArray2] at hmk
  have hbel : Below w.heap.size w (w.alloc (.cells (List.replicate ((ps.length + 8) * 2) (Value.int .i64 0)).toArray E)) := (Below.refl _ _).alloc (Nat.le_refl _) _
  have hsrc : 0 < ps.length → ∃ ad, a = some ad ∧ ∀ j v, (pcells ps)[j]? = some v → (w.alloc (.cells (List.replicate ((ps.length + 8) * 2) (Value.int .i64 0)).toArray E)).cell? (ad.add j) = some v := by
    intro h0
    rcases hP with rfl | ⟨b, off, rfl, hlt, hc⟩
    · simp at h0
    · exact ⟨_, rfl, src_pairs (fun i hi => ⟨(hbel.cell (p := ⟨b, _, none⟩) hlt).trans (hc i hi).1, (hbel.cell (p := ⟨b, _, none⟩) hlt).trans (hc i hi).2⟩)⟩
  obtain ⟨w1, hcp, hg1, hb1⟩ := run_copy_sized (P := Tryz.prog) (w.alloc (.cells (List.replicate ((ps.length + 8) * 2) (Value.int .i64 0)).toArray E)) T T 3 E 2 w.heap.size (ps.length + 8) (ps.length + 8) a ps.length c _ E (pcells ps) hT (by rw [hi0]; simp [hz1]) (heap_alloc_new w _) (by omega) (pcells_len ps) hsrc (by rw [pcells_len]; simp; omega) (pcells_one ps)
  exact ⟨_, w1, hmk, hcp, copied_pairs hg1, hb1 _ _ hbel (Nat.le_refl _)⟩

theorem Tryz.infoLatch : (Tryz.prog.info? 54).map (fun i => (i.zero, i.size, i.bytes)) = some (some (.agg #[.int .i64 0, .int .i64 0]), 2, 16) := by kernel_rfl
theorem Tryz.infoGate : (Tryz.prog.info? 56).map (fun i => (i.zero, i.size, i.bytes)) = some (some (.agg #[.int .i64 0, .int .i64 0]), 2, 16) := by kernel_rfl

theorem set4h {w : World} {b t n B : Nat} {f : Nat → Value} {v0 v1 v2 v3 : Value} (h : w.rowIs b t n f) (hb : b ≠ B) :
    ((((w.setCell ⟨B, 0, none⟩ v0).setCell ⟨B, 1, none⟩ v1).setCell ⟨B, 2, none⟩ v2).setCell ⟨B, 3, none⟩ v3).rowIs b t n f := (((h.setOther hb _).setOther hb _).setOther hb _).setOther hb _

set_option maxHeartbeats 1000000 in
set_option maxRecDepth 100000 in
theorem handed_any (n : Int) (la ga oa : Option Addr) (lc gc oc : Nat) (ls gs : List (Int × Int)) (os : List Int) (w : World)
    (hml : ls.length * 16 ≤ 140737488351232) (hmg : gs.length * 16 ≤ 140737488351232) (hmo : os.length * 8 ≤ 140737488351232) (hL : PairsAt w la ls) (hG : PairsAt w ga gs) (hO : IntsAt w oa os) :
    Calls Tryz.prog 18 #[.agg #[.int .i64 n, .slice la ls.length lc, .slice ga gs.length gc, .slice oa os.length oc]] w fun e w' => ∃ gl gg go,
      e = .returned (.agg #[.int .i64 n, .slice (some ⟨gl, 0, none⟩) ls.length (ls.length + 8), .slice (some ⟨gg, 0, none⟩) gs.length (gs.length + 8), .slice (some ⟨go, 0, none⟩) os.length (os.length + 8)]) ∧
      w.heap.size ≤ gl ∧ gl < gg ∧ gg < go ∧ w'.rowIs gl 54 ((ls.length + 8) * 2) (hPair ls) ∧ w'.rowIs gg 56 ((gs.length + 8) * 2) (hPair gs) ∧ w'.rowIs go 3 (os.length + 8) (hInt os) ∧ Below w.heap.size w w' := by
  obtain ⟨W2, hW2⟩ : ∃ W2, W2 = (w.alloc (.cells #[.int .i64 n, .slice la ls.length lc, .slice ga gs.length gc, .slice oa os.length oc] 34)).alloc (.cells #[.int .i64 0, .slice none 0 0, .slice none 0 0, .slice none 0 0] 34) := ⟨_, rfl⟩
  have bel2 : Below w.heap.size w W2 := by rw [hW2]; exact ((Below.refl _ _).alloc (Nat.le_refl _) _).alloc (by simp) _
  have s2 : W2.heap.size = w.heap.size + 2 := by rw [hW2]; simp
  obtain ⟨o1, w1, hmk, hcp, hrow, hb1⟩ := made_pairs Tryz.underlying30 Tryz.infoLatch la lc ls W2 hml (hL.below bel2)
  have q0 : W2.cell? ⟨w.heap.size, 0, none⟩ = some (.int .i64 n) := by rw [hW2, World.cell?_alloc_past _ _ _ (by simp)]; simp
  have q1 : W2.cell? ⟨w.heap.size, 1, none⟩ = some (.slice la ls.length lc) := by rw [hW2, World.cell?_alloc_past _ _ _ (by simp)]; simp
  have q2 : W2.cell? ⟨w.heap.size, 2, none⟩ = some (.slice ga gs.length gc) := by rw [hW2, World.cell?_alloc_past _ _ _ (by simp)]; simp
  have q3 : W2.cell? ⟨w.heap.size, 3, none⟩ = some (.slice oa os.length oc) := by rw [hW2, World.cell?_alloc_past _ _ _ (by simp)]; simp
  have q1a : (W2.alloc o1).cell? ⟨w.heap.size, 1, none⟩ = some (.slice la ls.length lc) := by rw [World.cell?_alloc_past _ _ _ (by show w.heap.size < _; omega)]; exact q1
  have q1b : w1.cell? ⟨w.heap.size, 1, none⟩ = some (.slice la ls.length lc) := by rw [(bcell hb1).1 _ _ (by omega)]; exact q1
  have n0 : ∀ j, W2.cell? ⟨w.heap.size + 1, j, none⟩ = #[.int .i64 0, .slice none 0 0, .slice none 0 0, .slice none 0 0][j]? := fun j => by rw [hW2]; exact cell_of_row _ _ _ _ _ _ (by rw [show w.heap.size + 1 = (w.alloc (.cells #[.int .i64 n, .slice la ls.length lc, .slice ga gs.length gc, .slice oa os.length oc] 34)).heap.size by simp]; exact heap_alloc_new _ _)
  have n1 : ∀ j, W2.frozen? ⟨w.heap.size + 1, j, none⟩ = false := fun j => by rw [hW2]; exact World.frozen?_alloc_at _ _ _ _ (by simp)
  have N0 : Hid (∀ j, W2.cell? ⟨w.heap.size + 1, j, none⟩ = #[.int .i64 0, .slice none 0 0, .slice none 0 0, .slice none 0 0][j]?) := n0
  have N1 : Hid (∀ j, W2.frozen? ⟨w.heap.size + 1, j, none⟩ = false) := n1
  clear n0 n1
  rw [hW2] at hmk hcp q1a
  have HS2 : Hid (W2.heap.size = w.heap.size + 2) := s2
  have hsz : ((w.alloc (.cells #[.int .i64 n, .slice la ls.length lc, .slice ga gs.length gc, .slice oa os.length oc] 34)).alloc (.cells #[.int .i64 0, .slice none 0 0, .slice none 0 0, .slice none 0 0] 34)).heap.size = w.heap.size + 1 + 1 := by simp
  simp only [hsz] at hmk hcp
  clear hW2 s2
  go_enter Tryz.func18, Tryz.ntmps18
  go_wp2
  rw [HS2.out] at hrow hb1
  clear hmk hcp hsz q1a q1b
  have belW : Below W2.heap.size W2 w1 := by rw [HS2.out]; exact hb1
  clear hb1
  go_loopw [4] (fun i wr => ∃ k : Nat, ls.length ≤ k ∧ k ≤ ls.length + 8 ∧ i = .int .i64 k ∧ wr.rowIs (w.heap.size + 1 + 1) 54 ((ls.length + 8) * 2) (hPairUp ls k) ∧ Below W2.heap.size W2 wr) (fun i _ => ls.length + 8 - (intOf i).toNat)
  case atStart => exact ⟨ls.length, Nat.le_refl _, by omega, rfl, hrow, belW⟩
  case round =>
    clear hrow belW
    obtain ⟨k, hk0, hk, rfl, hrow, hbel⟩ := hrel
    by_cases hk2 : k < ls.length + 8
    · have c1 := hrow.cell (i := k * 2) (by omega)
      have c2 := hrow.cell (i := k * 2 + 1) (by omega)
      have f1 := hrow.frozen (k * 2)
      have f2 := hrow.frozen (k * 2 + 1)
      have r2 := (hrow.set (k * 2) (.int .i64 (-5))).set (k * 2 + 1) (.int .i64 0)
      have hk3 : (k : Int) < (ls.length : Int) + 8 := by omega
      obtain ⟨u, hu⟩ : ∃ u, u = hPairUp ls k (k * 2) := ⟨_, rfl⟩
      obtain ⟨v, hv⟩ : ∃ v, v = hPairUp ls k (k * 2 + 1) := ⟨_, rfl⟩
      rw [← hu] at c1
      rw [← hv] at c2
      clear hu hv q0 q1 q2 q3
      go_wp2
      go_roundw
      case rel => exact ⟨k + 1, by omega, by omega, by go_num, r2.congr (fun i hi => hPairUp_step hk0), (hbel.setCell (by rw [HS2.out]; simp) _).setCell (by rw [HS2.out]; simp) _⟩
      case measure => simp [intOf]; omega
    · obtain rfl : k = ls.length + 8 := by omega
      obtain ⟨w4, rfl⟩ : ∃ w4, w4 = wr := ⟨wr, rfl⟩
      have rowL : w4.rowIs (w.heap.size + 1 + 1) 54 ((ls.length + 8) * 2) (hPair ls) := hrow.congr (fun i hi => by unfold hPairUp hPair; by_cases h : i < ls.length * 2 <;> simp [h]; omega)
      clear hrow
      have p0 := ((bcell hbel).1 w.heap.size 0 (by rw [HS2.out]; omega)).trans q0
      have p1 := ((bcell hbel).1 w.heap.size 1 (by rw [HS2.out]; omega)).trans q1
      have p2 := ((bcell hbel).1 w.heap.size 2 (by rw [HS2.out]; omega)).trans q2
      have p3 := ((bcell hbel).1 w.heap.size 3 (by rw [HS2.out]; omega)).trans q3
      obtain ⟨o2, w2, hmk, hcp, hrow2, hb2⟩ := made_pairs Tryz.underlying31 Tryz.infoGate ga gc gs w4 hmg ((hG.below bel2).below hbel)
      have hlr := rowL.lt
      have p2a : (w4.alloc o2).cell? ⟨w.heap.size, 2, none⟩ = some (.slice ga gs.length gc) := by rw [World.cell?_alloc_past _ _ _ (by show w.heap.size < _; omega)]; exact p2
      have p2b : w2.cell? ⟨w.heap.size, 2, none⟩ = some (.slice ga gs.length gc) := by rw [(bcell hb2).1 _ _ (by omega)]; exact p2
      obtain ⟨G, hGG⟩ : ∃ G, G = w4.heap.size := ⟨_, rfl⟩
      go_wp2
      clear hmk hcp p2a p2b hGG G
      have s3 : w.heap.size + 1 + 1 < w4.heap.size := hlr
      go_loopw [6] (fun i ws => ∃ k : Nat, gs.length ≤ k ∧ k ≤ gs.length + 8 ∧ i = .int .i64 k ∧ ws.rowIs w4.heap.size 56 ((gs.length + 8) * 2) (hPairUp gs k) ∧ Below w4.heap.size w4 ws) (fun i _ => gs.length + 8 - (intOf i).toNat)
      case atStart => exact ⟨gs.length, Nat.le_refl _, by omega, rfl, hrow2, hb2⟩
      case round =>
        clear hrow2 hb2
        obtain ⟨k, hk0, hk, rfl, hrow2, hb2⟩ := hrel
        by_cases hk2 : k < gs.length + 8
        · have c1 := hrow2.cell (i := k * 2) (by omega)
          have c2 := hrow2.cell (i := k * 2 + 1) (by omega)
          have f1 := hrow2.frozen (k * 2)
          have f2 := hrow2.frozen (k * 2 + 1)
          have r2 := (hrow2.set (k * 2) (.int .i64 (-5))).set (k * 2 + 1) (.int .i64 0)
          have hk3 : (k : Int) < (gs.length : Int) + 8 := by omega
          obtain ⟨u, hu⟩ : ∃ u, u = hPairUp gs k (k * 2) := ⟨_, rfl⟩
          obtain ⟨v, hv⟩ : ∃ v, v = hPairUp gs k (k * 2 + 1) := ⟨_, rfl⟩
          rw [← hu] at c1
          rw [← hv] at c2
          clear hu hv q0 q1 q2 q3 p0 p1 p2 p3
          go_wp2
          go_roundw
          case rel => exact ⟨k + 1, by omega, by omega, by go_num, r2.congr (fun i hi => hPairUp_step hk0), (hb2.setCell (Nat.le_refl _) _).setCell (Nat.le_refl _) _⟩
          case measure => simp [intOf]; omega
        · obtain rfl : k = gs.length + 8 := by omega
          have rowG : wr.rowIs w4.heap.size 56 ((gs.length + 8) * 2) (hPair gs) := hrow2.congr (fun i hi => by unfold hPairUp hPair; by_cases h : i < gs.length * 2 <;> simp [h]; omega)
          have m0 := ((bcell hb2).1 w.heap.size 0 (by omega)).trans p0
          have m1 := ((bcell hb2).1 w.heap.size 1 (by omega)).trans p1
          have m2 := ((bcell hb2).1 w.heap.size 2 (by omega)).trans p2
          have m3 := ((bcell hb2).1 w.heap.size 3 (by omega)).trans p3
          have hOr := ((hO.below bel2).below hbel).below hb2
          have rL := rowIs_below rowL hb2
          have kl : (ls.length : Int) ≤ (ls.length : Int) + 8 := by omega
          have kg : (gs.length : Int) ≤ (gs.length : Int) + 8 := by omega
          clear hrow2 q0 q1 q2 q3 p0 p1 p2 p3
          go_wp2
          have hzr : w.heap.size < wr.heap.size := Nat.lt_of_lt_of_le (by omega) hb2.size
          have hzr1 : w.heap.size + 1 < wr.heap.size := Nat.lt_of_lt_of_le (by omega) hb2.size
          have NC : Hid (∀ j, wr.cell? ⟨w.heap.size + 1, j, none⟩ = #[.int .i64 0, .slice none 0 0, .slice none 0 0, .slice none 0 0][j]?) := fun j => (((bcell hb2).1 _ _ (by omega)).trans ((bcell hbel).1 _ _ (by rw [HS2.out]; omega))).trans (N0.out j)
          have NF : Hid (∀ j, wr.frozen? ⟨w.heap.size + 1, j, none⟩ = false) := fun j => (((bcell hb2).2 _ _ (by omega)).trans ((bcell hbel).2 _ _ (by rw [HS2.out]; omega))).trans (N1.out j)
          go_region_held3 (fun w' => w'.cell? ⟨w.heap.size, 0, none⟩ = some (.int .i64 n) ∧ w'.cell? ⟨w.heap.size, 1, none⟩ = some (.slice la ls.length lc) ∧ w'.cell? ⟨w.heap.size, 2, none⟩ = some (.slice ga gs.length gc) ∧ w'.cell? ⟨w.heap.size, 3, none⟩ = some (.slice oa os.length oc)) (first | (simp [go_sem, m0, m1, m2, m3]; done) | (exact ⟨((bcell b5).1 _ _ hzr).trans m0, ((bcell b5).1 _ _ hzr).trans m1, ((bcell b5).1 _ _ hzr).trans m2, ((bcell b5).1 _ _ hzr).trans m3⟩) | (simp [go_sem, *]; done)) (first | (go_at_call 19; refine (handedInts_any oa oc os _ hmo (hOr.below (Below.refl _ _).drew)).mono ?_; rintro e w5 ⟨go, rfl, hgo, rowO, b5⟩; have d0 := ((bcell b5).1 _ 0 hzr1).trans (NC.out 0); have d1 := ((bcell b5).1 _ 1 hzr1).trans (NC.out 1); have d2 := ((bcell b5).1 _ 2 hzr1).trans (NC.out 2); have d3 := ((bcell b5).1 _ 3 hzr1).trans (NC.out 3); have e0 := ((bcell b5).2 _ 0 hzr1).trans (NF.out 0); have e1 := ((bcell b5).2 _ 1 hzr1).trans (NF.out 1); have e2 := ((bcell b5).2 _ 2 hzr1).trans (NF.out 2); have e3 := ((bcell b5).2 _ 3 hzr1).trans (NF.out 3)) | fail)
          go_wp2
          have hb5 : Below wr.heap.size wr w5 := ⟨b5.os, b5.tape, b5.output, b5.size, b5.block⟩
          have hgo' : wr.heap.size ≤ go := hgo
          have rowGl := rowG.lt
          have bel5 : Below w.heap.size w w5 := (((bel2.trans (hbel.mono (by rw [HS2.out]; omega))).trans (hb2.mono (by omega))).trans (hb5.mono (by omega)))
          have rL5 := rowIs_below rL hb5
          have rG5 := rowIs_below rowG hb5
          refine bodyPost_ret (v := .agg #[.int .i64 n, .slice (some ⟨w.heap.size + 1 + 1, 0, none⟩) ls.length (ls.length + 8), .slice (some ⟨w4.heap.size, 0, none⟩) gs.length (gs.length + 8), .slice (some ⟨go, 0, none⟩) os.length (os.length + 8)]) (by simp [results, Tryz.results18, go_sem, d0, d1, d2, d3]) rfl ⟨w.heap.size + 1 + 1, w4.heap.size, go, rfl, by omega, s3, by omega, set4h rL5 (by omega), set4h rG5 (by omega), set4h rowO (by omega), ?_⟩
          exact (((bel5.setCell (by simp) _).setCell (by simp) _).setCell (by simp) _).setCell (by simp) _

end Go.Proofs.YtgpaajdfkekjiaaGreatDoor
