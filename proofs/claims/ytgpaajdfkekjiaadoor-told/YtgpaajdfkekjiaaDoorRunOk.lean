/-
  What Run of package latch answers of any circuit and any inputs whose lists can be read: the error, or the outputs step by step in new memory.
  What Run of package latch answers of a right circuit and right inputs: the outputs, step by step, in new memory.
-/
import Derived.Test.YtgpaajdfkekjiaaDoorStep
import Derived.Deep.OwnRows
namespace Go.Proofs.YtgpaajdfkekjiaaDoor
open Go.RowKit

theorem rightInputs_is {n : Nat} {v1 v2 v3 : Value} {ia : Option Addr} {ic : Nat} {ins : List Int} {b : Bool} (w : World) (h1 : n ≤ 4) (hm : ins.length ≤ maxLen) (hI : IntsAt w ia ins) (h : inputsB n ins = b) :
    Calls Tryd.prog 23 #[.agg #[.int .i64 n, v1, v2, v3], .slice ia ins.length ic] w fun e w' =>
      e = .returned (.bool b) ∧ Below w.heap.size w w' := by subst h; exact rightInputs_any n v1 v2 v3 ia ic ins w h1 hm hI

set_option maxHeartbeats 1000000 in
set_option maxRecDepth 100000 in
/-- A circuit that is not right. -/
theorem run_wrong (n : Int) (la ga oa : Option Addr) (lc gc oc : Nat) (ls gs : List (Int × Int)) (os : List Int) (iv : Value) (w : World)
    (hL : PairsAt w la ls) (hG : PairsAt w ga gs) (hO : IntsAt w oa os) (hr : rightB n ls gs os = false) :
    Calls Tryd.prog 13 #[.agg #[.int .i64 n, .slice la ls.length lc, .slice ga gs.length gc, .slice oa os.length oc], iv] w fun e w' =>
      e = .returned (.tuple #[.slice none 0 0, .int .i64 2]) ∧ Below w.heap.size w w' := by
  have bel0 : Below w.heap.size w (w.alloc (.cells #[.int .i64 n, .slice la ls.length lc, .slice ga gs.length gc, .slice oa os.length oc] 26)) := (Below.refl _ _).alloc (Nat.le_refl _) _
  have hL0 := hL.below bel0
  have hG0 := hG.below bel0
  have hO0 := hO.below bel0
  go_enter Tryd.func13, Tryd.ntmps13
  go_wp2_with (go_at_call 18; refine (right_is _ hL0 hG0 hO0 hr).mono ?_; rintro e w1 ⟨rfl, b1⟩)
  go_ret2
  exact ⟨rfl, bel0.trans (b1.mono (by simp))⟩

set_option maxHeartbeats 1000000 in
set_option maxRecDepth 100000 in
/-- Inputs that are not right. -/
theorem run_inputs (n : Nat) (la ga oa ia : Option Addr) (lc gc oc ic : Nat) (ls gs : List (Int × Int)) (os ins : List Int) (w : World) (hm : ins.length ≤ maxLen)
    (hL : PairsAt w la ls) (hG : PairsAt w ga gs) (hO : IntsAt w oa os) (hI : IntsAt w ia ins) (hr : rightB n ls gs os = true) (hi : inputsB n ins = false) :
    Calls Tryd.prog 13 #[.agg #[.int .i64 n, .slice la ls.length lc, .slice ga gs.length gc, .slice oa os.length oc], .slice ia ins.length ic] w fun e w' =>
      e = .returned (.tuple #[.slice none 0 0, .int .i64 3]) ∧ Below w.heap.size w w' := by
  have bel0 : Below w.heap.size w (w.alloc (.cells #[.int .i64 n, .slice la ls.length lc, .slice ga gs.length gc, .slice oa os.length oc] 26)) := (Below.refl _ _).alloc (Nat.le_refl _) _
  have hL0 := hL.below bel0
  have hG0 := hG.below bel0
  have hO0 := hO.below bel0
  have hI0 := hI.below bel0
  have hn4 : n ≤ 4 := by have := (rightB_pos hr).1.2.1; omega
  go_enter Tryd.func13, Tryd.ntmps13
  go_wp2_with (first | (go_at_call 18; refine (right_is _ hL0 hG0 hO0 hr).mono ?_; rintro e w1 ⟨rfl, b1⟩; have c1 := (bcell b1).1; have y1 : w.heap.size < w1.heap.size := Nat.lt_of_lt_of_le (by simp) b1.size) | (go_at_call 23; refine (rightInputs_is _ hn4 hm (hI0.below b1) hi).mono ?_; rintro e w2 ⟨rfl, b2⟩))
  go_ret2
  exact ⟨rfl, (bel0.trans (b1.mono (by simp))).trans (b2.mono (by omega))⟩

end Go.Proofs.YtgpaajdfkekjiaaDoor

namespace Go.Proofs.YtgpaajdfkekjiaaDoor
open Go.RowKit

/-- The outputs that have been told, up to step k. -/
def told (n : Nat) (ls gs : List (Int × Int)) (os ins : List Int) (k : Nat) : List Nat := (List.range ins.length).map fun i => if i < k then outAt n ls gs os ins i else 0
def outs (n : Nat) (ls gs : List (Int × Int)) (os ins : List Int) : List Nat := (List.range ins.length).map (outAt n ls gs os ins)
theorem told_all (n : Nat) (ls gs : List (Int × Int)) (os ins : List Int) : told n ls gs os ins ins.length = outs n ls gs os ins := by
  unfold told outs
  apply List.map_congr_left
  intro i hi
  rw [if_pos (List.mem_range.1 hi)]
theorem told_zero (n : Nat) (ls gs : List (Int × Int)) (os ins : List Int) : told n ls gs os ins 0 = List.replicate ins.length 0 := by
  unfold told
  apply List.ext_getElem <;> simp
theorem told_succ (n : Nat) (ls gs : List (Int × Int)) (os ins : List Int) (k : Nat) : ivals (told n ls gs os ins (k + 1)) = (ivals (told n ls gs os ins k)).set k (.int .i64 ((outAt n ls gs os ins k : Nat) : Int)) := by
  unfold told ivals
  apply List.ext_getElem
  · simp
  · intro i h1 h2
    simp only [List.getElem_map, List.getElem_range, List.getElem_set]
    by_cases h : k = i
    · subst h; simp
    · rw [if_neg h]
      have : i < k + 1 ↔ i < k := by omega
      simp only [this]

theorem stateAt_lt (n : Nat) (ls gs : List (Int × Int)) (ins : List Int) (k : Nat) (h : ls.length ≤ 4) : stateAt n ls gs ins k < 16 := by
  have hp : (2 : Nat) ^ ls.length ≤ 2 ^ 4 := Nat.pow_le_pow_right (by omega) h
  cases k with
  | zero => have := startOf_lt ls ls.length; simp only [stateAt]; omega
  | succ k => have := nextOf_lt ls (vals n ls.length gs (stateAt n ls gs ins k) (ins.getD k 0).toNat) ls.length; simp only [stateAt]; omega

theorem inputs_lt {n : Nat} {ins : List Int} {k : Nat} (h1 : n ≤ 4) (hi : inputsB n ins = true) (hk : k < ins.length) : ∃ X : Nat, ins.getD k 0 = X ∧ X < 16 := by
  have h := (of_decide_eq_true hi).2 k hk
  have hb := inB_pos h
  obtain ⟨X, hX⟩ := Int.eq_ofNat_of_zero_le hb.1
  refine ⟨X, hX, ?_⟩
  have h5 : n = 0 ∨ n = 1 ∨ n = 2 ∨ n = 3 ∨ n = 4 := by omega
  have h6 : ((2 : Int) ^ n) ≤ 16 := by rcases h5 with h | h | h | h | h <;> subst h <;> decide
  omega

theorem made_full (base N : Nat) (w : World) (h2 : N ≤ 1000) (hb : base ≤ w.heap.size) :
    (w.alloc (.cells (madeCells #[.int .i64 0] N) 3)).ownsRow base 3 1 (.slice (some ⟨w.heap.size, 0, none⟩) N N) N (ivals (List.replicate N 0)) := by
  refine ⟨by simp [ivals], .inr ⟨w.heap.size, N, _, rfl, hb, heap_alloc_new w _, Nat.le_refl _, by unfold maxLen; omega, by rw [size_madeCells]; omega, ?_⟩⟩
  rw [toList_madeCells_one]
  simp [ivals]

theorem told_cell {w : World} {base n : Nat} {ls gs : List (Int × Int)} {os ins : List Int} {G k j : Nat} (h : w.ownsRow base 3 1 (.slice (some ⟨G, 0, none⟩) ins.length ins.length) ins.length (ivals (told n ls gs os ins j))) (hk : k < ins.length) :
    ∃ u, w.cell? ⟨G, k, none⟩ = some u := by
  rw [h.cellAt k (by omega)]
  have hl : (ivals (told n ls gs os ins j)).length = ins.length := by simp [ivals, told]
  exact ⟨_, List.getElem?_eq_getElem (by omega)⟩

set_option maxHeartbeats 1000000 in
set_option maxRecDepth 100000 in
theorem run_ok (n : Nat) (la ga oa ia : Option Addr) (lc gc oc ic : Nat) (ls gs : List (Int × Int)) (os ins : List Int) (w : World) (hm : ins.length ≤ maxLen)
    (hL : PairsAt w la ls) (hG : PairsAt w ga gs) (hO : IntsAt w oa os) (hI : IntsAt w ia ins) (hr : rightB n ls gs os = true) (hi : inputsB n ins = true) :
    Calls Tryd.prog 13 #[.agg #[.int .i64 n, .slice la ls.length lc, .slice ga gs.length gc, .slice oa os.length oc], .slice ia ins.length ic] w fun e w' =>
      ∃ g, e = .returned (.tuple #[.slice (some ⟨g, 0, none⟩) ins.length ins.length, .int .i64 0]) ∧ w'.ownsRow w.heap.size 3 1 (.slice (some ⟨g, 0, none⟩) ins.length ins.length) ins.length (ivals (outs n ls gs os ins)) ∧ Below w.heap.size w w' := by
  have bel0 : Below w.heap.size w (w.alloc (.cells #[.int .i64 n, .slice la ls.length lc, .slice ga gs.length gc, .slice oa os.length oc] 26)) := (Below.refl _ _).alloc (Nat.le_refl _) _
  have hL0 := hL.below bel0
  have hG0 := hG.below bel0
  have hO0 := hO.below bel0
  have hI0 := hI.below bel0
  obtain ⟨⟨_, hn4, hl4, ho4, hg30⟩, hokl, hokg, hoko⟩ := rightB_pos hr
  have hn4 : n ≤ 4 := by omega
  have h50 : ins.length ≤ 50 := (of_decide_eq_true hi).1
  obtain ⟨i0, hi0, hz0, hz1, hz2⟩ := info_parts Tryd.infoInt
  have hmk := fun w => run_make_row (P := Tryd.prog) 24 3 i0 (.int .i64 0) Tryd.underlying24 hi0 hz0 hz1 rfl .i64 .i64 ins.length (by rw [hz2]; omega) (by omega) w
  have hinit : ∀ i, i < ls.length → inB (ls.getD i (0, 0)).2 1 = true := fun i h => by have := hokl i h; simp only [latchOk, Bool.and_eq_true] at this; exact this.2
  have hnext : ∀ i, i < ls.length → inB (ls.getD i (0, 0)).1 (2 * (n + ls.length + gs.length) + 1) = true := fun i h => by have := hokl i h; simp only [latchOk, Bool.and_eq_true] at this; exact this.1
  go_enter Tryd.func13, Tryd.ntmps13
  go_wp2_with (first | (go_at_call 18; refine (right_is _ hL0 hG0 hO0 hr).mono ?_; rintro e w1 ⟨rfl, b1⟩; have c1 := (bcell b1).1; have y1 : w.heap.size < w1.heap.size := Nat.lt_of_lt_of_le (by simp) b1.size) | (go_at_call 23; refine (rightInputs_is _ hn4 hm (hI0.below b1) hi).mono ?_; rintro e w2 ⟨rfl, b2⟩; have c2 := (bcell b2).1; have y2 : w.heap.size < w2.heap.size := Nat.lt_of_lt_of_le y1 b2.size; have hL2 := (hL0.below b1).below b2; have bn2 : Below w2.heap.size w2 (w2.alloc (.cells (madeCells #[.int .i64 0] ins.length) 3)) := (Below.refl _ _).alloc (Nat.le_refl _) _) | (go_at_call 24; refine (start_any _ la lc _ _ ls _ hl4 (hL2.below bn2) hinit).mono ?_; rintro e w3 ⟨rfl, b3⟩))
  have qq : ∀ j, w3.cell? ⟨w.heap.size, j, none⟩ = (w.alloc (.cells #[.int .i64 n, .slice la ls.length lc, .slice ga gs.length gc, .slice oa os.length oc] 26)).cell? ⟨w.heap.size, j, none⟩ := fun j => by
    rw [(bcell b3).1 _ _ (by simp; omega), World.cell?_alloc_past _ _ _ y2, c2 _ _ y1, c1 _ _ (by simp)]
  have bel3 : Below w.heap.size w w3 := (((bel0.trans (b1.mono (by simp))).trans (b2.mono (by omega))).trans (bn2.mono (by omega))).trans (b3.mono (by simp; omega))
  have z3 : w.heap.size < w3.heap.size := Nat.lt_of_lt_of_le y2 (Nat.le_trans (by simp) b3.size)
  have own3 : w3.ownsRow (w.heap.size + 1) 3 1 (.slice (some ⟨w2.heap.size, 0, none⟩) ins.length ins.length) ins.length (ivals (told n ls gs os ins 0)) := by
    rw [told_zero]; exact own_below (made_full (w.heap.size + 1) ins.length w2 (by omega) (by omega)) b3
  obtain ⟨G, hGG⟩ : ∃ G, G = w2.heap.size := ⟨_, rfl⟩
  have q0 : w3.cell? ⟨w.heap.size, 0, none⟩ = some (.int .i64 n) := by rw [qq]; simp
  have q1 : w3.cell? ⟨w.heap.size, 1, none⟩ = some (.slice la ls.length lc) := by rw [qq]; simp
  have q2 : w3.cell? ⟨w.heap.size, 2, none⟩ = some (.slice ga gs.length gc) := by rw [qq]; simp
  have q3 : w3.cell? ⟨w.heap.size, 3, none⟩ = some (.slice oa os.length oc) := by rw [qq]; simp
  clear qq c1 c2 b1 b2 b3 bn2 hL2 bel0 hL0 hG0 hO0 hI0 hmk
  rw [← hGG] at own3
  rw [← hGG]
  clear hGG
  go_loopw [7, 8, 9, 24] (fun st _ _ i wr => ∃ k : Nat, k ≤ ins.length ∧ i = .int .i64 k ∧ st = .int .i64 (stateAt n ls gs ins k : Nat) ∧
      wr.ownsRow (w.heap.size + 1) 3 1 (.slice (some ⟨G, 0, none⟩) ins.length ins.length) ins.length (ivals (told n ls gs os ins k)) ∧
      wr.cell? ⟨w.heap.size, 0, none⟩ = some (.int .i64 n) ∧ wr.cell? ⟨w.heap.size, 1, none⟩ = some (.slice la ls.length lc) ∧ wr.cell? ⟨w.heap.size, 2, none⟩ = some (.slice ga gs.length gc) ∧ wr.cell? ⟨w.heap.size, 3, none⟩ = some (.slice oa os.length oc) ∧
      w.heap.size < wr.heap.size ∧ Below w.heap.size w wr)
    (fun _ _ _ i _ => ins.length - (intOf i).toNat)
  case atStart => exact ⟨0, Nat.zero_le _, rfl, rfl, own3, q0, q1, q2, q3, z3, bel3⟩
  case round =>
    clear own3 q0 q1 q2 q3 z3 bel3
    obtain ⟨k, hk, rfl, rfl, hown, q0, q1, q2, q3, hz, hbel⟩ := hrel
    by_cases hk2 : k < ins.length
    · obtain ⟨b, off, rfl, hlt, hc⟩ := hI.get (by omega)
      obtain ⟨X, hX, hX16⟩ := inputs_lt hn4 hi hk2
      have hcy : wr.cell? ⟨b, off + k, none⟩ = some (.int .i64 (X : Int)) := by rw [← hX]; exact (hbel.cell (p := ⟨b, _, none⟩) hlt).trans (hc k hk2)
      obtain ⟨S, hS⟩ : ∃ S, S = stateAt n ls gs ins k := ⟨_, rfl⟩
      have hS16 : S < 16 := by rw [hS]; exact stateAt_lt n ls gs ins k hl4
      have HN : Hid (nextOf ls (vals n ls.length gs S X) ls.length = stateAt n ls gs ins (k + 1)) := by
        show _ = nextOf ls (vals n ls.length gs (stateAt n ls gs ins k) (ins.getD k 0).toNat) ls.length
        rw [hS, hX]; rfl
      have HO : Hid (outOf os (vals n ls.length gs S X) os.length = outAt n ls gs os ins k) := by
        unfold Hid outAt; rw [hS, hX]; rfl
      rw [← hS]
      have hLr := hL.below hbel
      have hGr := hG.below hbel
      have hOr := hO.below hbel
      clear hS hX hc
      go_wp2_with (go_at_call 25; refine (step_any n S X la ga oa lc gc oc ls gs os _ hn4 hl4 hg30 ho4 hS16 hX16 hLr hGr hOr hokg hnext hoko).mono ?_; rintro e w4 ⟨rfl, b4⟩; have hown4 := own_below hown b4; have hf4 := hown4.frozenAt k; obtain ⟨u4, hc4⟩ := told_cell hown4 hk2)
      have p0 := ((bcell b4).1 _ 0 hz).trans q0
      have p1 := ((bcell b4).1 _ 1 hz).trans q1
      have p2 := ((bcell b4).1 _ 2 hz).trans q2
      have p3 := ((bcell b4).1 _ 3 hz).trans q3
      have z4 : w.heap.size < w4.heap.size := Nat.lt_of_lt_of_le hz b4.size
      have bel4 : Below w.heap.size w w4 := hbel.trans (b4.mono (by omega))
      have hG1 := (hown4.lt G rfl).1
      obtain ⟨own5, grow5⟩ := hown4.stored k (.int .i64 (outOf os (vals n ls.length gs S X) os.length : Nat))
      rw [HO.out, ← told_succ, ← HO.out] at own5
      go_roundw
      case rel => exact ⟨k + 1, by omega, by go_num, congrArg (fun x : Nat => Value.int .i64 (x : Int)) HN.out, own5, by rw [grow5.cell_far ⟨w.heap.size, 0, none⟩ z4 (by simp; omega)]; exact p0, by rw [grow5.cell_far ⟨w.heap.size, 1, none⟩ z4 (by simp; omega)]; exact p1, by rw [grow5.cell_far ⟨w.heap.size, 2, none⟩ z4 (by simp; omega)]; exact p2, by rw [grow5.cell_far ⟨w.heap.size, 3, none⟩ z4 (by simp; omega)]; exact p3, Nat.lt_of_lt_of_le z4 grow5.size, bel4.grown grow5 (by omega) (fun k hk => by simp at hk; omega)⟩
      case measure => simp [intOf]; omega
    · obtain rfl : k = ins.length := by omega
      go_wp2
      go_ret2
      exact ⟨G, rfl, by rw [← told_all]; exact hown.lower (by omega), hbel⟩

end Go.Proofs.YtgpaajdfkekjiaaDoor
