/-
  Circuits that are answered, and sameCircuit of package latchlaw.
-/
import Derived.Test.YtgpaajdfkekjiaaGreatDoorBkOne
import Derived.Test.YtgpaajdfkekjiaaGreatDoorBox
import Derived.Test.YtgpaajdfkekjiaaGreatDoorMem
import Derived.Handy
namespace Go.Proofs.YtgpaajdfkekjiaaGreatDoor
open Go.RowKit

/-- A circuit that is answered, more behind it: its lists are owned and apart. -/
def CircEnd (w : World) (z : Int) (L G : List (Int × Int)) (O : List Int) (T : Value → Value) (e : Ending) (w' : World) : Prop :=
  ∃ (la ga oa : Option Addr) (lc gc oc : Nat), e = .returned (T (.agg #[.int .i64 z, .slice la L.length lc, .slice ga G.length gc, .slice oa O.length oc])) ∧
    w'.ownsRow w.heap.size 54 2 (.slice la L.length lc) L.length (flat L) ∧ w'.ownsRow w.heap.size 56 2 (.slice ga G.length gc) G.length (flat G) ∧ w'.ownsRow w.heap.size 3 1 (.slice oa O.length oc) O.length (ivs O) ∧
    (∀ b, (Value.slice la L.length lc).ownBlock = some b → (Value.slice oa O.length oc).ownBlock ≠ some b) ∧ (∀ b, (Value.slice ga G.length gc).ownBlock = some b → (Value.slice oa O.length oc).ownBlock ≠ some b) ∧
    (∀ b, (Value.slice ga G.length gc).ownBlock = some b → (Value.slice la L.length lc).ownBlock ≠ some b) ∧ Below w.heap.size w w'
/-- A circuit that is answered, more behind it: its lists can be read. -/
def CircSeen (w : World) (z : Int) (L G : List (Int × Int)) (O : List Int) (T : Value → Value) (e : Ending) (w' : World) : Prop :=
  ∃ (la ga oa : Option Addr) (lc gc oc : Nat), e = .returned (T (.agg #[.int .i64 z, .slice la L.length lc, .slice ga G.length gc, .slice oa O.length oc])) ∧ PairsAt w' la L ∧ PairsAt w' ga G ∧ IntsAt w' oa O ∧ Below w.heap.size w w'

theorem flat_atC : ∀ (ps : List (Int × Int)) (i : Nat), i < ps.length → (flat ps)[i * 2]? = some (.int .i64 (ps.getD i (0, 0)).1) ∧ (flat ps)[i * 2 + 1]? = some (.int .i64 (ps.getD i (0, 0)).2)
  | [], i, h => by simp at h
  | p :: ps, 0, _ => ⟨rfl, rfl⟩
  | p :: ps, i + 1, hi => by
    have := flat_atC ps i (by simpa using hi)
    have e1 : (i + 1) * 2 = i * 2 + 2 := by omega
    have e2 : flat (p :: ps) = [.int .i64 p.1, .int .i64 p.2] ++ flat ps := rfl
    rw [e1, e2, List.getElem?_append_right (by simp), List.getElem?_append_right (by simp)]
    simpa using this
theorem own_pairsC {w : World} {base e c : Nat} {a : Option Addr} {ps : List (Int × Int)} (h : w.ownsRow base e 2 (.slice a ps.length c) ps.length (flat ps)) : PairsAt w a ps := by
  rcases h.2 with ⟨h1, h0⟩ | ⟨g, cap, cur, hv, _⟩
  · obtain rfl : ps = [] := List.length_eq_zero_iff.1 h0
    exact .inl rfl
  · simp only [Value.slice.injEq, true_and] at hv
    obtain ⟨rfl, rfl⟩ := hv
    refine .inr ⟨g, 0, rfl, (h.lt g rfl).2, fun i hi => ?_⟩
    have l2 : i * 2 < (flat ps).length := by rw [flat_len]; omega
    have l3 : i * 2 + 1 < (flat ps).length := by rw [flat_len]; omega
    rw [Nat.zero_add, h.cellAt (i * 2) (by rw [flat_len] at l2; omega), h.cellAt (i * 2 + 1) (by rw [flat_len] at l3; omega)]
    exact flat_atC ps i hi
theorem own_intsC {w : World} {base e c : Nat} {a : Option Addr} {xs : List Int} (h : w.ownsRow base e 1 (.slice a xs.length c) xs.length (ivs xs)) : IntsAt w a xs := by
  rcases h.2 with ⟨h1, h0⟩ | ⟨g, cap, cur, hv, _⟩
  · obtain rfl : xs = [] := List.length_eq_zero_iff.1 h0
    exact .inl rfl
  · simp only [Value.slice.injEq, true_and] at hv
    obtain ⟨rfl, rfl⟩ := hv
    refine .inr ⟨g, 0, rfl, (h.lt g rfl).2, fun i hi => ?_⟩
    rw [Nat.zero_add, h.cellAt i (by omega)]
    simp [ivs, hi]

set_option maxHeartbeats 2000000 in
set_option maxRecDepth 100000 in
theorem sameCirc_eq (z : Int) (la lb ga gb oa ob : Option Addr) (lc ld gc gd oc od : Nat) (L G : List (Int × Int)) (O : List Int) (w : World) (hl : L.length ≤ 900) (hg : G.length ≤ 900) (ho : O.length ≤ 900)
    (pL : PairsAt w la L) (qL : PairsAt w lb L) (pG : PairsAt w ga G) (qG : PairsAt w gb G) (pO : IntsAt w oa O) (qO : IntsAt w ob O) :
    Calls Tryz.prog 11 #[.agg #[.int .i64 z, .slice la L.length lc, .slice ga G.length gc, .slice oa O.length oc], .agg #[.int .i64 z, .slice lb L.length ld, .slice gb G.length gd, .slice ob O.length od]] w fun e w' => e = .returned (.bool true) ∧ Below w.heap.size w w' := by
  obtain ⟨W2, hW2⟩ : ∃ W2, W2 = (w.alloc (.cells #[.int .i64 z, .slice la L.length lc, .slice ga G.length gc, .slice oa O.length oc] 34)).alloc (.cells #[.int .i64 z, .slice lb L.length ld, .slice gb G.length gd, .slice ob O.length od] 34) := ⟨_, rfl⟩
  have s2 : W2.heap.size = w.heap.size + 2 := by rw [hW2]; simp
  have B2 : Below w.heap.size w W2 := by rw [hW2]; exact ((Below.refl _ _).alloc (Nat.le_refl _) _).alloc (by simp) _
  have yA : W2.heap[w.heap.size]? = some (.cells #[.int .i64 z, .slice la L.length lc, .slice ga G.length gc, .slice oa O.length oc] 34 (0, 0)) := by rw [hW2]; exact alloc_old (alloc_blk _ _ _ rfl)
  have yB : W2.heap[w.heap.size + 1]? = some (.cells #[.int .i64 z, .slice lb L.length ld, .slice gb G.length gd, .slice ob O.length od] 34 (0, 0)) := by rw [hW2]; exact alloc_blk _ _ _ (by simp)
  have A3 : W2.cell? ⟨w.heap.size, 3, none⟩ = some (.slice oa O.length oc) := by rw [cell_of_row _ _ _ _ _ _ yA]; rfl
  have D3 : W2.cell? ⟨w.heap.size + 1, 3, none⟩ = some (.slice ob O.length od) := by rw [cell_of_row _ _ _ _ _ _ yB]; rfl
  go_enter Tryz.func11, Tryz.ntmps11
  go_upto_region 1 with fail
  rw [← hW2]
  clear hW2
  go_wp2_with fail
  refine (sameInts_eq oa ob O.length oc od O W2 rfl (by omega) (pO.below B2) (qO.below B2)).mono ?_
  rintro e W3 ⟨rfl, b3⟩
  have bel : Below w.heap.size w W3 := B2.trans (b3.mono B2.size)
  have xA := (b3.block w.heap.size (by omega)).trans yA
  have xB := (b3.block (w.heap.size + 1) (by omega)).trans yB
  clear A3 D3 yA yB
  have A0 : W3.cell? ⟨w.heap.size, 0, none⟩ = some (.int .i64 z) := by rw [cell_of_row _ _ _ _ _ _ xA]; rfl
  have D0 : W3.cell? ⟨w.heap.size + 1, 0, none⟩ = some (.int .i64 z) := by rw [cell_of_row _ _ _ _ _ _ xB]; rfl
  have A1 : W3.cell? ⟨w.heap.size, 1, none⟩ = some (.slice la L.length lc) := by rw [cell_of_row _ _ _ _ _ _ xA]; rfl
  have D1 : W3.cell? ⟨w.heap.size + 1, 1, none⟩ = some (.slice lb L.length ld) := by rw [cell_of_row _ _ _ _ _ _ xB]; rfl
  have A2 : W3.cell? ⟨w.heap.size, 2, none⟩ = some (.slice ga G.length gc) := by rw [cell_of_row _ _ _ _ _ _ xA]; rfl
  have D2 : W3.cell? ⟨w.heap.size + 1, 2, none⟩ = some (.slice gb G.length gd) := by rw [cell_of_row _ _ _ _ _ _ xB]; rfl
  go_wp2_with fail
  clear A0 D0 A1 D1 A2 D2 b3 s2 B2
  go_loopw [6] (fun i wr => ∃ k : Nat, k ≤ L.length ∧ i = .int .i64 k ∧ wr.heap[w.heap.size]? = some (.cells #[.int .i64 z, .slice la L.length lc, .slice ga G.length gc, .slice oa O.length oc] 34 (0, 0)) ∧ wr.heap[w.heap.size + 1]? = some (.cells #[.int .i64 z, .slice lb L.length ld, .slice gb G.length gd, .slice ob O.length od] 34 (0, 0)) ∧ Below w.heap.size w wr) (fun i _ => L.length - (intOf i).toNat)
  case atStart => exact ⟨0, Nat.zero_le _, rfl, xA, xB, bel⟩
  case round =>
    clear xA xB bel
    obtain ⟨k, hk, rfl, xA, xB, bel⟩ := hrel
    have A1 : wr.cell? ⟨w.heap.size, 1, none⟩ = some (.slice la L.length lc) := by rw [cell_of_row _ _ _ _ _ _ xA]; rfl
    have D1 : wr.cell? ⟨w.heap.size + 1, 1, none⟩ = some (.slice lb L.length ld) := by rw [cell_of_row _ _ _ _ _ _ xB]; rfl
    by_cases hk2 : k < L.length
    · obtain ⟨b, off, rfl, hb, hc⟩ := pL.get (by omega)
      obtain ⟨b', off', rfl, hb', hc'⟩ := qL.get (by omega)
      have d0 := (bel.cell (p := ⟨b, off + k * 2, none⟩) hb).trans (hc k hk2).1
      have d1 := (bel.cell (p := ⟨b, off + k * 2 + 1, none⟩) hb).trans (hc k hk2).2
      have e0 := (bel.cell (p := ⟨b', off' + k * 2, none⟩) hb').trans (hc' k hk2).1
      have e1 := (bel.cell (p := ⟨b', off' + k * 2 + 1, none⟩) hb').trans (hc' k hk2).2
      obtain ⟨g, hg0⟩ : ∃ g, g = L.getD k (0, 0) := ⟨_, rfl⟩
      rw [← hg0] at d0 d1 e0 e1
      obtain ⟨p, q⟩ := g
      dsimp only at d0 d1 e0 e1
      have kI : (k : Int) < (L.length : Int) := by omega
      have k0 : (0 : Int) ≤ (k : Int) := by omega
      clear hc hc' hg0
      go_wp2
      go_quiet (fail)
      go_wp2
      go_roundw
      case rel => exact ⟨k + 1, by omega, by go_num, xA, xB, below_drewN bel _⟩
      case measure => simp [intOf]; omega
    · have hkN : k = L.length := by omega
      rw [hkN]
      clear hkN hk2 hk
      go_wp2_with fail
      clear A1 D1
      go_loopw [7] (fun i wr => ∃ k : Nat, k ≤ G.length ∧ i = .int .i64 k ∧ wr.heap[w.heap.size]? = some (.cells #[.int .i64 z, .slice la L.length lc, .slice ga G.length gc, .slice oa O.length oc] 34 (0, 0)) ∧ wr.heap[w.heap.size + 1]? = some (.cells #[.int .i64 z, .slice lb L.length ld, .slice gb G.length gd, .slice ob O.length od] 34 (0, 0)) ∧ Below w.heap.size w wr) (fun i _ => G.length - (intOf i).toNat)
      case atStart => exact ⟨0, Nat.zero_le _, rfl, xA, xB, bel⟩
      case round =>
        clear xA xB bel
        obtain ⟨k, hk, rfl, xA, xB, bel⟩ := hrel
        have A1 : wr.cell? ⟨w.heap.size, 2, none⟩ = some (.slice ga G.length gc) := by rw [cell_of_row _ _ _ _ _ _ xA]; rfl
        have D1 : wr.cell? ⟨w.heap.size + 1, 2, none⟩ = some (.slice gb G.length gd) := by rw [cell_of_row _ _ _ _ _ _ xB]; rfl
        by_cases hk2 : k < G.length
        · obtain ⟨b, off, rfl, hb, hc⟩ := pG.get (by omega)
          obtain ⟨b', off', rfl, hb', hc'⟩ := qG.get (by omega)
          have d0 := (bel.cell (p := ⟨b, off + k * 2, none⟩) hb).trans (hc k hk2).1
          have d1 := (bel.cell (p := ⟨b, off + k * 2 + 1, none⟩) hb).trans (hc k hk2).2
          have e0 := (bel.cell (p := ⟨b', off' + k * 2, none⟩) hb').trans (hc' k hk2).1
          have e1 := (bel.cell (p := ⟨b', off' + k * 2 + 1, none⟩) hb').trans (hc' k hk2).2
          obtain ⟨g, hg0⟩ : ∃ g, g = G.getD k (0, 0) := ⟨_, rfl⟩
          rw [← hg0] at d0 d1 e0 e1
          obtain ⟨p, q⟩ := g
          dsimp only at d0 d1 e0 e1
          have kI : (k : Int) < (G.length : Int) := by omega
          have k0 : (0 : Int) ≤ (k : Int) := by omega
          clear hc hc' hg0
          go_wp2
          go_quiet (fail)
          go_wp2
          go_roundw
          case rel => exact ⟨k + 1, by omega, by go_num, xA, xB, below_drewN bel _⟩
          case measure => simp [intOf]; omega
        · have hkN : k = G.length := by omega
          rw [hkN]
          clear hkN hk2 hk
          go_wp2
          go_ret
          exact ⟨rfl, bel⟩

end Go.Proofs.YtgpaajdfkekjiaaGreatDoor
