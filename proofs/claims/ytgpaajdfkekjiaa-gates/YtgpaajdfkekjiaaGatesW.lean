/-
  The walk of the statement Gates of package latchkeep: of any list of ints it returns true and writes nothing that was there.
-/
import Derived.Test.YtgpaajdfkekjiaaIns
namespace Go.Proofs.Ytgpaajdfkekjiaa
open Go.RowKit

theorem own_form {w : World} {base : Nat} {v : Value} {xs : List Int} (h : w.ownsRow base 3 1 v xs.length (vints xs)) : ∃ a cap, v = .slice a xs.length cap ∧ IntsAt w a xs := by
  rcases h.2 with ⟨rfl, h0⟩ | ⟨g, cap, cur, rfl, hb, hg, h1, h2, h3, h4⟩
  · exact ⟨none, 0, by rw [h0], .inl (List.length_eq_zero_iff.1 h0)⟩
  · refine ⟨_, cap, rfl, .inr ⟨g, 0, rfl, (h.lt g rfl).2, fun i hi => ?_⟩⟩
    rw [Nat.zero_add, h.cellAt i (by omega)]
    simp [vints, hi]

/-- The statement's circuit. -/
def gLs : List (Int × Int) := [(12, 1)]
def gGs : List (Int × Int) := [(2, 4), (3, 5), (9, 11)]
def gOs : List Int := [8, 9, 12, 6]
theorem g_right : rightB (2 : Nat) gLs gGs gOs = true := by decide

theorem g_out (S X : Nat) (hS : S ≤ 1) (hX : X ≤ 3) : outOf gOs (vals 2 1 gGs S X) 4 = X % 2 * (X / 2) + 2 * (1 - X % 2 * (X / 2)) + 4 * ((X % 2 + X / 2) % 2) + 8 * S := by
  have h1 : S = 0 ∨ S = 1 := by omega
  have h2 : X = 0 ∨ X = 1 ∨ X = 2 ∨ X = 3 := by omega
  rcases h1 with rfl | rfl <;> rcases h2 with rfl | rfl | rfl | rfl <;> decide
theorem g_next (S X : Nat) (hS : S ≤ 1) (hX : X ≤ 3) : nextOf gLs (vals 2 1 gGs S X) 1 = (X % 2 + X / 2) % 2 := by
  have h1 : S = 0 ∨ S = 1 := by omega
  have h2 : X = 0 ∨ X = 1 ∨ X = 2 ∨ X = 3 := by omega
  rcases h1 with rfl | rfl <;> rcases h2 with rfl | rfl | rfl | rfl <;> decide

theorem ins50_in (raw : List Int) (k : Nat) (hk : k ≤ 50) : inputsB 2 (ins50 2 raw k) = true := by
  refine decide_eq_true ⟨?_, fun i hi => ?_⟩
  · simp [ins50]; omega
  · have hi' : i < (ins50 2 raw k).length := hi
    have : (ins50 2 raw k).getD i 0 ∈ ins50 2 raw k := by rw [List.getD_eq_getElem?_getD, List.getElem?_eq_getElem hi']; exact List.getElem_mem hi'
    obtain ⟨c, _, hc⟩ := List.mem_map.1 this
    have hb := pickI_bd c (2 ^ 2) (by decide)
    rw [← hc]
    exact inB_mk hb.1 hb.2

/-- Run of the statement's circuit. -/
theorem g_run (la ga oa ia : Option Addr) (ic : Nat) (ins : List Int) (w : World) (hL : PairsAt w la gLs) (hG : PairsAt w ga gGs) (hO : IntsAt w oa gOs) (hI : IntsAt w ia ins) (hi : inputsB 2 ins = true) :
    Calls Try.prog 6 #[.agg #[.int .i64 2, .slice la 1 1, .slice ga 3 3, .slice oa 4 4], .slice ia ins.length ic] w fun e w' =>
      ∃ g, e = .returned (.tuple #[.slice (some ⟨g, 0, none⟩) ins.length ins.length, .int .i64 0]) ∧ w'.ownsRow w.heap.size 3 1 (.slice (some ⟨g, 0, none⟩) ins.length ins.length) ins.length (ivals (outs 2 gLs gGs gOs ins)) ∧ Below w.heap.size w w' :=
  run_ok 2 la ga oa ia 1 3 4 ic gLs gGs gOs ins w (by have := (of_decide_eq_true hi).1; unfold maxLen; omega) hL hG hO hI g_right hi

theorem g_at {xs : List Int} {k : Nat} (hxs : inputsB 2 xs = true) (hk : k < xs.length) : ∃ X : Nat, xs.getD k 0 = X ∧ X ≤ 3 ∧ stateAt 2 gLs gGs xs k ≤ 1 ∧
    outAt 2 gLs gGs gOs xs k = X % 2 * (X / 2) + 2 * (1 - X % 2 * (X / 2)) + 4 * ((X % 2 + X / 2) % 2) + 8 * stateAt 2 gLs gGs xs k ∧ stateAt 2 gLs gGs xs (k + 1) = (X % 2 + X / 2) % 2 := by
  have hb := inB_pos ((of_decide_eq_true hxs).2 k hk)
  obtain ⟨X, hX⟩ := Int.eq_ofNat_of_zero_le hb.1
  have hX3 : X ≤ 3 := by have := hb.2; rw [hX] at this; have e : (2 : Int) ^ 2 - 1 = 3 := by decide
                         omega
  have hS : stateAt 2 gLs gGs xs k ≤ 1 := by
    cases k with
    | zero => exact (show startOf gLs gLs.length ≤ 1 by decide)
    | succ k => have := nextOf_lt gLs (vals 2 gLs.length gGs (stateAt 2 gLs gGs xs k) (xs.getD k 0).toNat) gLs.length; simp only [stateAt]; have e : (2 : Nat) ^ gLs.length = 2 := by decide
                omega
  refine ⟨X, hX, hX3, hS, ?_, ?_⟩
  · rw [← g_out _ X hS hX3]; unfold outAt; rw [hX]; rfl
  · rw [← g_next _ X hS hX3]; show nextOf gLs (vals 2 gLs.length gGs (stateAt 2 gLs gGs xs k) (xs.getD k 0).toNat) gLs.length = _; rw [hX]; rfl

theorem inputs2_any (a : Option Addr) (cap : Nat) (raw : List Int) (w : World) (hm : raw.length ≤ maxLen) (hR : IntsAt w a raw) (hw : ∀ x ∈ raw, -9223372036854775808 ≤ x ∧ x ≤ 9223372036854775807) :
    Calls Try.prog 5 #[.slice a raw.length cap, .int .i64 2] w fun e w' => ∃ a' c' xs, e = .returned (.slice a' (List.length xs) c') ∧ IntsAt w' a' xs ∧ inputsB 2 xs = true ∧ Below w.heap.size w w' := by
  refine (inputs_any 2 a cap raw w (by omega) hm hR hw).mono fun e w' h => ?_
  obtain ⟨v, he, hown, hb⟩ := h
  have hl := ins50_len 2 raw (min raw.length 50) (by omega)
  rw [← hl] at hown
  obtain ⟨a', c', rfl, hI⟩ := own_form (xs := ins50 2 raw (min raw.length 50)) (by rw [hl] at hown ⊢; exact hown)
  exact ⟨a', c', _, he, hI, ins50_in raw _ (by omega), hb⟩

/-- The blocks that the statement itself makes. -/
theorem g_mem (w : World) (o : Obj) : ∃ W, W = (((w.alloc (.cells #[.int .i64 12, .int .i64 1] 25)).alloc (.cells #[.int .i64 2, .int .i64 4, .int .i64 3, .int .i64 5, .int .i64 9, .int .i64 11] 28)).alloc (.cells #[.int .i64 8, .int .i64 9, .int .i64 12, .int .i64 6] 3)).alloc o ∧
    PairsAt W (some ⟨w.heap.size, 0, none⟩) gLs ∧ PairsAt W (some ⟨w.heap.size + 1, 0, none⟩) gGs ∧ IntsAt W (some ⟨w.heap.size + 1 + 1, 0, none⟩) gOs ∧ Below w.heap.size w W ∧ W.heap.size = w.heap.size + 4 := by
  refine ⟨_, rfl, ?_, ?_, ?_, ?_, by simp⟩
  · refine pairs_of_block (alloc_old (alloc_old (alloc_old (alloc_blk _ _ _ rfl)))) (fun j hj => ?_)
    match j, hj with
    | 0, _ => exact ⟨rfl, rfl⟩
  · refine pairs_of_block (alloc_old (alloc_old (alloc_blk _ _ _ (by simp)))) (fun j hj => ?_)
    match j, hj with
    | 0, _ => exact ⟨rfl, rfl⟩
    | 1, _ => exact ⟨rfl, rfl⟩
    | 2, _ => exact ⟨rfl, rfl⟩
  · refine ints_of_block (alloc_old (alloc_blk _ _ _ (by simp))) (fun j hj => ?_)
    match j, hj with
    | 0, _ => rfl
    | 1, _ => rfl
    | 2, _ => rfl
    | 3, _ => rfl
  · exact ((((Below.refl _ _).alloc (Nat.le_refl _) _).alloc (by simp) _).alloc (by simp; omega) _).alloc (by simp; omega) _

set_option maxHeartbeats 1000000 in
set_option maxRecDepth 100000 in
theorem gates_walk (a : Option Addr) (cap : Nat) (raw : List Int) (w : World) (hm : raw.length ≤ maxLen) (hR : IntsAt w a raw) (hw : ∀ x ∈ raw, -9223372036854775808 ≤ x ∧ x ≤ 9223372036854775807) :
    Calls Try.prog 3 #[.slice a raw.length cap] w fun e w' => e = .returned (.bool true) ∧ Below w.heap.size w w' := by
  go_enter Try.func3, Try.ntmps3
  go_wp2_with (first | (go_at_call 4; refine (ran_any _).mono ?_; rintro e w1 ⟨rfl, b1⟩) | fail)
  obtain ⟨_, rfl, hL, hG, hO, bW, sW⟩ := g_mem w1 (.cells #[.int .i64 2, .slice (some ⟨w1.heap.size, 0, none⟩) 1 1, .slice (some ⟨w1.heap.size + 1, 0, none⟩) 3 3, .slice (some ⟨w1.heap.size + 1 + 1, 0, none⟩) 4 4] 31)
  refine (inputs2_any a cap raw _ hm ((hR.below b1).below bW) hw).mono ?_
  rintro e w2 ⟨ia, ic, xs, rfl, hI, hxs, b2⟩
  have bx : ∀ j, w2.cell? ⟨w1.heap.size + 1 + 1 + 1, j, none⟩ = #[.int .i64 2, .slice (some ⟨w1.heap.size, 0, none⟩) 1 1, .slice (some ⟨w1.heap.size + 1, 0, none⟩) 3 3, .slice (some ⟨w1.heap.size + 1 + 1, 0, none⟩) 4 4][j]? := fun j => by
    rw [(bcell b2).1 _ _ (by simp)]
    exact cell_of_row _ _ _ _ _ _ (alloc_blk _ _ _ (by simp))
  have x0 : w2.cell? ⟨w1.heap.size + 1 + 1 + 1, 0, none⟩ = some (.int .i64 2) := bx 0
  have x1 : w2.cell? ⟨w1.heap.size + 1 + 1 + 1, 1, none⟩ = some (.slice (some ⟨w1.heap.size, 0, none⟩) 1 1) := bx 1
  have x2 : w2.cell? ⟨w1.heap.size + 1 + 1 + 1, 2, none⟩ = some (.slice (some ⟨w1.heap.size + 1, 0, none⟩) 3 3) := bx 2
  have x3 : w2.cell? ⟨w1.heap.size + 1 + 1 + 1, 3, none⟩ = some (.slice (some ⟨w1.heap.size + 1 + 1, 0, none⟩) 4 4) := bx 3
  have hL2 := hL.below b2
  have hG2 := hG.below b2
  have hO2 := hO.below b2
  have bel2 : Below w.heap.size w w2 := (b1.trans (bW.mono b1.size)).trans (b2.mono (by have := b1.size; omega))
  have h50 : xs.length ≤ 50 := (of_decide_eq_true hxs).1
  clear bx hL hG hO b2 bW sW b1 hR hw
  go_wp2_with (first | (go_at_call 6; refine (g_run _ _ _ ia ic xs _ hL2 hG2 hO2 hI hxs).mono ?_; rintro e w3 ⟨g, rfl, hown, b3⟩) | fail)
  have hI3 := hI.below b3
  have bel3 : Below w.heap.size w w3 := bel2.trans (b3.mono bel2.size)
  clear x0 x1 x2 x3 hL2 hG2 hO2 hI b3 bel2
  go_loop [8, 9] (fun was i => ∃ k : Nat, k ≤ xs.length ∧ i = .int .i64 k ∧ was = .int .i64 (stateAt 2 gLs gGs xs k : Nat)) (fun _ i => xs.length - (intOf i).toNat)
  case atStart => exact ⟨0, Nat.zero_le _, rfl, rfl⟩
  case round =>
    obtain ⟨k, hk, rfl, rfl⟩ := hrel
    by_cases hk2 : k < xs.length
    · obtain ⟨b, off, rfl, hlt, hc⟩ := hI3.get (by omega)
      obtain ⟨X, hX, hX3, hS1, hout, hnext⟩ := g_at hxs hk2
      have hcy : w3.cell? ⟨b, off + k, none⟩ = some (.int .i64 (X : Int)) := by rw [← hX]; exact hc k hk2
      have hcz : w3.cell? ⟨g, k, none⟩ = some (.int .i64 ((outAt 2 gLs gGs gOs xs k : Nat) : Int)) := by
        rw [hown.cellAt k (by omega)]
        simp [ivals, outs, hk2]
      obtain ⟨S, hS⟩ : ∃ S, S = stateAt 2 gLs gGs xs k := ⟨_, rfl⟩
      rw [hout] at hcz
      rw [← hS] at hcz hS1
      rw [← hS]
      have HN : Hid (stateAt 2 gLs gGs xs (k + 1) = (X % 2 + X / 2) % 2) := hnext
      clear hS hX hc hnext hout hown hI3
      have h1 : S = 0 ∨ S = 1 := by omega
      have h2 : X = 0 ∨ X = 1 ∨ X = 2 ∨ X = 3 := by omega
      have t0 : bits .and .i64 0 1 = 0 := by decide
      have t1 : bits .and .i64 1 1 = 1 := by decide
      have t2 : bits .and .i64 2 1 = 0 := by decide
      have t3 : bits .and .i64 3 1 = 1 := by decide
      rcases h1 with rfl | rfl <;> rcases h2 with rfl | rfl | rfl | rfl <;>
      · simp at hcy hcz
        go_wp2
        go_round
        case rel => exact ⟨k + 1, by omega, by go_num, by rw [HN.out]; rfl⟩
        case measure => simp [intOf]; omega
    · go_wp2
      go_ret
      exact ⟨rfl, bel3⟩

end Go.Proofs.Ytgpaajdfkekjiaa
