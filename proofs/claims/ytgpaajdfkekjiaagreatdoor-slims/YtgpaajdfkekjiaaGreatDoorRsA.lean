/-
  The reference's 'put' and 'place'.
-/
import Derived.Test.YtgpaajdfkekjiaaGreatDoorSlmB
import Derived.Test.YtgpaajdfkekjiaaGreatDoorSlmK
namespace Go.Proofs.YtgpaajdfkekjiaaGreatDoor
open Go.RowKit

/-- latchref's 'put'. -/
theorem rput_any (S : Nat) (b off len cap : Nat) (l : List Nat) (w : World) (hl : S / 2 < len) (hlen : len ≤ 1000) (hv : len = l.length) (h01 : ∀ x ∈ l, x < 1000)
    (hc : ∀ j, j < len → w.cell? ⟨b, off + j, none⟩ = some (.int .i64 ((l.getD j 0 : Nat) : Int))) :
    Calls Tryz.prog 56 #[.slice (some ⟨b, off, none⟩) len cap, .int .i64 S] w fun e w' => e = .returned (.int .i64 (putS l S : Nat)) ∧ w' = w := by
  have hcell := hc (S / 2) hl
  have hx : l.getD (S / 2) 0 < 1000 := by
    have hlt : S / 2 < l.length := by omega
    rw [List.getD_eq_getElem?_getD, List.getElem?_eq_getElem hlt]
    exact h01 _ (List.getElem_mem hlt)
  unfold putS
  obtain ⟨x, hX⟩ : ∃ x, x = l.getD (S / 2) 0 := ⟨_, rfl⟩
  rw [← hX] at hcell hx ⊢
  clear hX hc h01 hv
  have H2 : Hid (bits .xor .i64 (x : Int) ((S % 2 : Nat) : Int) = ((x ^^^ (S % 2) : Nat) : Int)) := i64_xor_nat x (S % 2) (by omega) (by omega)
  go_enter Tryz.func56, Tryz.ntmps56
  go_wp2
  go_ret
  refine ⟨ret_int ?_, rfl⟩
  rw [← H2.out]
  congr 1

theorem idx_at {kept : List (Nat × Nat)} {g : Nat × Nat} {k : Nat} (hk : k < kept.length) (hg : kept.getD k (0, 0) = g) (hn : ∀ j, j < k → kept.getD j (0, 0) ≠ g) : g ∈ kept ∧ kept.idxOf g = k := by
  have hgk : kept[k] = g := by rw [← hg, List.getD_eq_getElem?_getD, List.getElem?_eq_getElem hk]; rfl
  have hm : g ∈ kept := by rw [← hgk]; exact List.getElem_mem hk
  refine ⟨hm, ?_⟩
  have h1 : kept.idxOf g < kept.length := List.idxOf_lt_length_iff.2 hm
  have h2 : kept[kept.idxOf g] = g := List.getElem_idxOf h1
  rcases Nat.lt_trichotomy (kept.idxOf g) k with h | h | h
  · exact absurd (by rw [List.getD_eq_getElem?_getD, List.getElem?_eq_getElem h1]; exact h2) (hn _ h)
  · exact h
  · have := List.not_of_lt_findIdx (xs := kept) (p := fun x => x == g) (i := k) (by simpa [List.idxOf] using h)
    rw [hgk] at this
    simp at this
theorem not_mem_of {kept : List (Nat × Nat)} {g : Nat × Nat} (hn : ∀ j, j < kept.length → kept.getD j (0, 0) ≠ g) : g ∉ kept := fun hm => by
  obtain ⟨i, hi, rfl⟩ := List.getElem_of_mem hm
  exact hn i hi (by rw [List.getD_eq_getElem?_getD, List.getElem?_eq_getElem hi]; rfl)

theorem ne_next {kept : List (Nat × Nat)} {p q x y k : Nat} (hn : ∀ j, j < k → kept.getD j (0, 0) ≠ (x, y)) (hg : (p, q) = kept.getD k (0, 0)) (he : ¬ (p = x ∧ q = y)) : ∀ j, j < k + 1 → kept.getD j (0, 0) ≠ (x, y) := fun j hj => by
  by_cases hjk : j = k
  · subst hjk
    rw [← hg]
    intro e
    simp only [Prod.mk.injEq] at e
    exact he e
  · exact hn j (by omega)

def placeOf (kept : List (Nat × Nat)) (g : Nat × Nat) : Int := if g ∈ kept then (kept.idxOf g : Int) else -1

set_option maxHeartbeats 1000000 in
set_option maxRecDepth 100000 in
/-- latchref's 'place'. -/
theorem place_any (kept : List (Nat × Nat)) (x y : Nat) (ka : Option Addr) (kc kn : Nat) (w : World) (hkn : kn = kept.length) (hl : kept.length ≤ 1000) (hK : PairsAt w ka (z2 kept)) :
    Calls Tryz.prog 57 #[.slice ka kn kc, .agg #[.int .i64 x, .int .i64 y]] w fun e w' => e = .returned (.int .i64 (placeOf kept (x, y))) ∧ Below w.heap.size w w' := by
  subst hkn
  go_enter Tryz.func57, Tryz.ntmps57
  go_wp2
  go_loopw [5] (fun i wr => ∃ k : Nat, k ≤ kept.length ∧ i = .int .i64 k ∧ (∀ j, j < k → kept.getD j (0, 0) ≠ (x, y)) ∧ wr.cell? ⟨w.heap.size, 0, none⟩ = some (.int .i64 x) ∧ wr.cell? ⟨w.heap.size, 1, none⟩ = some (.int .i64 y) ∧ w.heap.size < wr.heap.size ∧ Below w.heap.size w wr) (fun i _ => kept.length - (intOf i).toNat)
  case atStart => exact ⟨0, Nat.zero_le _, rfl, fun j hj => absurd hj (Nat.not_lt_zero j), by simp [go_sem], by simp [go_sem], by simp, (Below.refl _ _).alloc (Nat.le_refl _) _⟩
  case round =>
    obtain ⟨k, hk, rfl, hn, c0, c1, hlt, bel⟩ := hrel
    by_cases hk2 : k < kept.length
    · obtain ⟨b, off, rfl, hb, hc⟩ := hK.get (by rw [z2_len]; omega)
      have d := hc k (by rw [z2_len]; exact hk2)
      rw [z2_get] at d
      have d0 := (bel.cell (p := ⟨b, off + k * 2, none⟩) hb).trans d.1
      have d1 := (bel.cell (p := ⟨b, off + k * 2 + 1, none⟩) hb).trans d.2
      obtain ⟨g, hg⟩ : ∃ g, g = kept.getD k (0, 0) := ⟨_, rfl⟩
      rw [← hg] at d0 d1
      obtain ⟨p, q⟩ := g
      dsimp only at d0 d1
      have kI : (k : Int) < (kept.length : Int) := by omega
      have k0 : (0 : Int) ≤ (k : Int) := by omega
      have HN := hideS hn
      have HG := hideS hg
      clear d hc hn hg
      by_cases he : p = x ∧ q = y
      · obtain ⟨rfl, rfl⟩ := he
        go_wp2
        go_quiet (fail)
        go_wp2
        go_ret
        have h := idx_at hk2 HG.out.symm HN.out
        refine ⟨ret_int ?_, below_drewN bel _⟩
        unfold placeOf
        rw [if_pos h.1, h.2]
      · have HE := hideS he
        clear he
        by_cases hp : p = x
        · subst hp
          have hq : ¬ q = y := fun e => HE.out ⟨rfl, e⟩
          have hb2 : ((q : Int) == (y : Int)) = false := by simp only [beq_eq_false_iff_ne, ne_eq]; omega
          clear hq
          go_wp2
          go_quiet (fail)
          go_wp2
          go_roundw
          case rel => exact ⟨k + 1, by omega, by go_num, ne_next HN.out HG.out (fun e => HE.out (by simpa using e)), c0, c1, hlt, below_drewN bel _⟩
          case measure => simp [intOf]; omega
        · have hb1 : ((p : Int) == (x : Int)) = false := by simp only [beq_eq_false_iff_ne, ne_eq]; omega
          clear hp
          go_wp2
          go_quiet (fail)
          go_wp2
          go_roundw
          case rel => exact ⟨k + 1, by omega, by go_num, ne_next HN.out HG.out (fun e => HE.out (by simpa using e)), c0, c1, hlt, below_drewN bel _⟩
          case measure => simp [intOf]; omega
    · have hkN : k = kept.length := by omega
      subst hkN
      go_wp2
      go_ret
      refine ⟨ret_int ?_, bel⟩
      unfold placeOf
      rw [if_neg (not_mem_of hn)]

end Go.Proofs.YtgpaajdfkekjiaaGreatDoor
