/-
  Small functions of package latchkeep that make wrong circuits and inputs.
-/
import Derived.Test.YtgpaajdfkekjiabGreatDoorRan
import Derived.Test.YtgpaajdfkekjiabGreatDoorWrong
import Derived.Laws.IdiomStrings
namespace Go.Proofs.YtgpaajdfkekjiabGreatDoor
open Go.RowKit

def outI (c n : Int) : Int := if 0 ≤ c ∧ c < n then n + c else c
theorem outI_not {c n : Int} : outI c n < 0 ∨ n ≤ outI c n := by unfold outI; split <;> omega
theorem outI_bd {c n : Int} (hn : 0 ≤ n) (hn2 : n ≤ 1000) (hc : -9223372036854775808 ≤ c) (hc2 : c ≤ 9223372036854775807) : -9223372036854775808 ≤ outI c n ∧ outI c n ≤ 9223372036854775807 := by unfold outI; split <;> omega

theorem outside_any (c n : Int) (w : World) (hn : 0 ≤ n) (hn2 : n ≤ 1000) :
    Calls Tryz.prog 7 #[.int .i64 c, .int .i64 n] w fun e w' => e = .returned (.int .i64 (outI c n)) ∧ w' = w := by
  by_cases h : 0 ≤ c
  · by_cases h2 : c < n
    · go_enter Tryz.func7, Tryz.ntmps7
      go_wp2
      go_ret
      exact ⟨ret_int (by simp [outI, h, h2]), rfl⟩
    · go_enter Tryz.func7, Tryz.ntmps7
      go_wp2
      go_ret
      exact ⟨ret_int (by unfold outI; rw [if_neg (by omega)]), rfl⟩
  · go_enter Tryz.func7, Tryz.ntmps7
    go_wp2
    go_ret
    exact ⟨ret_int (by unfold outI; rw [if_neg (by omega)]), rfl⟩
theorem outside_is {c n p : Int} (w : World) (hn : 0 ≤ n) (hn2 : n ≤ 1000) (h : outI c n = p) :
    Calls Tryz.prog 7 #[.int .i64 c, .int .i64 n] w fun e w' => e = .returned (.int .i64 p) ∧ w' = w := by subst h; exact outside_any c n w hn hn2

set_option maxHeartbeats 400000 in
set_option maxRecDepth 100000 in
theorem delay_own (i : Int) (w : World) :
    Calls Tryz.prog 5 #[.int .i64 i] w fun e w' => ∃ L O : Nat, e = .returned (.agg #[.int .i64 1, .slice (some ⟨L, 0, none⟩) 1 1, .slice none 0 0, .slice (some ⟨O, 0, none⟩) 1 1]) ∧
      w'.heap[L]? = some (.cells #[.int .i64 2, .int .i64 i] 31 (0, 0)) ∧ w'.heap[O]? = some (.cells #[.int .i64 4] 3 (0, 0)) ∧ w.heap.size ≤ L ∧ w.heap.size ≤ O ∧ L < w'.heap.size ∧ O < w'.heap.size ∧ L ≠ O ∧ Below w.heap.size w w' := by
  go_enter Tryz.func5, Tryz.ntmps5
  go_wp2
  refine bodyPost_ret (v := .agg #[.int .i64 1, .slice (some ⟨w.heap.size + 1, 0, none⟩) 1 1, .slice none 0 0, .slice (some ⟨w.heap.size + 1 + 1, 0, none⟩) 1 1]) (by simp [results, Tryz.results5, go_sem, World.cell?_alloc_past]) rfl ⟨_, _, rfl, ?_, ?_, by omega, by omega, by simp, by simp, by omega, ?_⟩
  · exact alloc_old (alloc_blk _ _ _ (by simp))
  · exact alloc_blk _ _ _ (by simp)
  · exact (((Below.refl _ _).alloc (Nat.le_refl _) _).alloc (by simp) _).alloc (by simp; omega) _

theorem delay_lists {w : World} {L O : Nat} {i : Int} (hL : w.heap[L]? = some (.cells #[.int .i64 2, .int .i64 i] 31 (0, 0))) (hO : w.heap[O]? = some (.cells #[.int .i64 4] 3 (0, 0))) :
    PairsAt w (some ⟨L, 0, none⟩) [(2, i)] ∧ IntsAt w (some ⟨O, 0, none⟩) [4] :=
  ⟨pairs_of_block hL (fun j hj => by match j, hj with | 0, _ => exact ⟨rfl, rfl⟩), ints_of_block hO (fun j hj => by match j, hj with | 0, _ => rfl)⟩
theorem ints2 (w : World) (x y : Int) (B : Nat) (hB : B = w.heap.size) : IntsAt (w.alloc (.cells #[.int .i64 x, .int .i64 y] 3)) (some ⟨B, 0, none⟩) [x, y] := by
  refine ints_of_block (alloc_blk _ _ _ hB) (fun j hj => ?_)
  match j, hj with
  | 0, _ => rfl
  | 1, _ => rfl
theorem ints1 (w : World) (x : Int) (B : Nat) (hB : B = w.heap.size) : IntsAt (w.alloc (.cells #[.int .i64 x] 3)) (some ⟨B, 0, none⟩) [x] := by
  refine ints_of_block (alloc_blk _ _ _ hB) (fun j hj => ?_)
  match j, hj with
  | 0, _ => rfl
theorem inputs_bad {q : Int} (h : q < 0 ∨ 2 ≤ q) : inputsB 1 [0, q] = false := by
  unfold inputsB
  rw [decide_eq_false_iff_not]
  intro hh
  have := inB_pos (hh.2 1 (by simp))
  simp at this
  omega

theorem run_51 (la oa ia : Option Addr) (w : World) (hL : PairsAt w la [(2, 0)]) (hO : IntsAt w oa [4]) (hI : IntsAt w ia (List.replicate 51 0)) :
    Calls Tryz.prog 9 #[.agg #[.int .i64 1, .slice la 1 1, .slice none 0 0, .slice oa 1 1], .slice ia 51 51] w fun e w' => e = .returned (.tuple #[.slice none 0 0, .int .i64 3]) ∧ Below w.heap.size w w' := by
  have h := run_inputs 1 la none oa ia 1 0 1 51 [(2, 0)] [] [4] (List.replicate 51 0) w (by simp [maxLen]) hL (.inl rfl) hO hI (by decide) (by decide)
  rwa [List.length_replicate] at h
/-- What makeSlice lays, kept shut. -/
def madeN (z : Value) (n : Nat) : Array Value := madeCells #[z] n
theorem make51 (w : World) : (Instr.makeSlice 25 (.int .i64 51) (.int .i64 51)).run Tryz.prog w = .ok (.slice (some ⟨w.heap.size, 0, none⟩) 51 51) (w.alloc (.cells (madeN (.int .i64 0) 51) 3)) :=
  run_make_row' 25 3 (.int .i64 0) 8 Tryz.underlying25 Tryz.infoInt rfl .i64 .i64 51 (by omega) (by omega) w
theorem make5 (w : World) : (Instr.makeSlice 25 (.int .i64 5) (.int .i64 5)).run Tryz.prog w = .ok (.slice (some ⟨w.heap.size, 0, none⟩) 5 5) (w.alloc (.cells (madeN (.int .i64 0) 5) 3)) :=
  run_make_row' 25 3 (.int .i64 0) 8 Tryz.underlying25 Tryz.infoInt rfl .i64 .i64 5 (by omega) (by omega) w
theorem made_ints (w : World) (k B : Nat) (hk : k ≤ 1000) (hB : B = w.heap.size) : IntsAt (w.alloc (.cells (madeN (.int .i64 0) k) 3)) (some ⟨B, 0, none⟩) (List.replicate k 0) := by
  subst hB
  have h := own_ints (made_full 0 k w hk (Nat.zero_le _))
  have e : ints (List.replicate k 0) = List.replicate k 0 := by simp [ints]
  rwa [e] at h

theorem steps_bad {n m : Int} (hm : outI (wrap64 (n - 1)) 10 = m) : wrap64 (m + 1) < 1 ∨ 10 < wrap64 (m + 1) := by
  subst hm
  unfold wrap64 outI
  split <;> omega

/-- A text of 1001 bytes, kept shut. -/
def z1001 : List UInt8 := List.replicate 1001 0
theorem z1001_len : z1001.length = 1001 := List.length_replicate ..
theorem zero_cell (N j : Nat) (hj : j < N) (h : j < (List.replicate N (0 : UInt8)).length) : (madeN (.int .u8 0) N)[j]? = some (.int .u8 (((List.replicate N (0 : UInt8))[j]).toNat : Int)) := by
  rw [madeN, made_toArray]
  simp [hj]
theorem Tryz.infoByte : (Tryz.prog.info? 5).map (fun i => (i.zero, i.size, i.bytes)) = some (some (.int .u8 0), 1, 1) := by kernel_rfl
theorem make1001 (w : World) : (Instr.makeSlice 50 (.int .i64 1001) (.int .i64 1001)).run Tryz.prog w = .ok (.slice (some ⟨w.heap.size, 0, none⟩) 1001 1001) (w.alloc (.cells (madeN (.int .u8 0) 1001) 5)) :=
  run_make_row' 50 5 (.int .u8 0) 1 Tryz.underlying50 Tryz.infoByte rfl .i64 .i64 1001 (by omega) (by omega) w
theorem conv1001 (w : World) (B : Nat) (hB : B = w.heap.size) : (convert 50 9 (.slice (some ⟨B, 0, none⟩) 1001 1001)).run Tryz.prog (w.alloc (.cells (madeN (.int .u8 0) 1001) 5)) = .ok (.string ⟨z1001.toArray⟩) (w.alloc (.cells (madeN (.int .u8 0) 1001) 5)) := by
  subst hB
  have h := run_convert_bytes_back (P := Tryz.prog) (w.alloc (.cells (madeN (.int .u8 0) 1001) 5)) 50 9 5 ⟨w.heap.size, 0, none⟩ 1001 z1001 Tryz.underlying50 Tryz.underlying5 Tryz.underlying9 (fun j hj => by
    have hj' : j < 1001 := by rwa [z1001_len] at hj
    have hadd : (⟨w.heap.size, 0, none⟩ : Addr).add j = ⟨w.heap.size, j, none⟩ := by unfold Addr.add; split <;> simp_all
    rw [hadd, cell_of_row _ _ _ _ _ _ (alloc_blk _ _ _ rfl)]
    exact zero_cell 1001 j hj' hj)
  rwa [z1001_len] at h

theorem bad_0 {p : Int} (h : p < 0 ∨ 5 ≤ p) : rightB p [(2, 0)] [] [4] = false := by
  have h5 : inB p 4 = false := by simp [inB]; omega
  simp only [rightB, sizesB]
  rw [h5]; rfl
theorem bad_1 {p : Int} (h : p < 0 ∨ 6 ≤ p) : rightB 1 [(2, 0)] [] [p] = false := by
  have h5 : outsB (1 + (([(2, 0)] : List (Int × Int)).length : Int) + (([] : List (Int × Int)).length : Int)) [p] = false := outsB_false (k := 0) (by simp) (by simp [inB]; omega)
  unfold rightB
  rw [h5, Bool.and_false]
theorem bad_2 {p : Int} (h : p < 0 ∨ 6 ≤ p) : rightB 1 [(p, 0)] [] [4] = false := by
  have h5 : latchesB (1 + (([(p, 0)] : List (Int × Int)).length : Int) + (([] : List (Int × Int)).length : Int)) [(p, 0)] = false := latchesB_false (k := 0) (by simp) (by simp [latchOk, inB]; omega)
  unfold rightB
  rw [h5, Bool.and_false, Bool.false_and, Bool.false_and]
theorem bad_3 {p : Int} (h : p < 0 ∨ 2 ≤ p) : rightB 1 [(2, p)] [] [4] = false := by
  have h5 : latchesB (1 + (([(2, p)] : List (Int × Int)).length : Int) + (([] : List (Int × Int)).length : Int)) [(2, p)] = false := latchesB_false (k := 0) (by simp) (by simp [latchOk, inB]; omega)
  unfold rightB
  rw [h5, Bool.and_false, Bool.false_and, Bool.false_and]
theorem bad_4 {p : Int} (h : p < 0 ∨ 6 ≤ p) : rightB 1 [(2, 0)] [(p, 0)] [4] = false := by
  have h5 : gatesB (1 + (([(2, 0)] : List (Int × Int)).length : Int)) [(p, 0)] = false := gatesB_false (k := 0) (by simp) (by simp [gateOk, inB]; omega)
  unfold rightB
  rw [h5, Bool.and_false, Bool.false_and]
theorem bad_5 {p : Int} (h : p < 0 ∨ 6 ≤ p) : rightB 1 [(2, 0)] [(0, p)] [4] = false := by
  have h5 : gatesB (1 + (([(2, 0)] : List (Int × Int)).length : Int)) [(0, p)] = false := gatesB_false (k := 0) (by simp) (by simp [gateOk, inB]; omega)
  unfold rightB
  rw [h5, Bool.and_false, Bool.false_and]
theorem bad_6 : rightB 1 [(2, 0)] [] (List.replicate 5 0) = false := by decide
theorem bad_7 : rightB 1 (List.replicate 5 (0, 0)) [] [4] = false := by decide
theorem bad_8 : rightB 1 [(2, 0)] (List.replicate 31 (0, 0)) [4] = false := by decide

theorem Tryz.infoLatch2 : (Tryz.prog.info? 31).map (fun i => (i.zero, i.size, i.bytes)) = some (some (.agg #[.int .i64 0, .int .i64 0]), 2, 16) := by kernel_rfl
theorem Tryz.infoGate2 : (Tryz.prog.info? 33).map (fun i => (i.zero, i.size, i.bytes)) = some (some (.agg #[.int .i64 0, .int .i64 0]), 2, 16) := by kernel_rfl
/-- What makeSlice lays of pairs, kept shut. -/
def madeP (n : Nat) : Array Value := madeCells #[.int .i64 0, .int .i64 0] (n * 2)
theorem madeP_at (n j : Nat) (h : j < n * 2) : (madeP n)[j]? = some (.int .i64 0) := by
  have h2 : j % 2 = 0 ∨ j % 2 = 1 := by omega
  rcases h2 with h2 | h2 <;> simp [madeP, madeCells, h, h2]
theorem makeL5 (w : World) : (Instr.makeSlice 23 (.int .i64 5) (.int .i64 5)).run Tryz.prog w = .ok (.slice (some ⟨w.heap.size, 0, none⟩) 5 5) (w.alloc (.cells (madeP 5) 31)) := by
  obtain ⟨i, hi, z0, z1, z2⟩ := info_parts Tryz.infoLatch2
  have h := run_make (P := Tryz.prog) w 23 31 i (.agg #[.int .i64 0, .int .i64 0]) Tryz.underlying23 hi z0 .i64 .i64 5 5 (by omega) (by omega) (by rw [z2]; omega) (by omega)
  rw [z1] at h
  exact h
theorem makeG31 (w : World) : (Instr.makeSlice 24 (.int .i64 31) (.int .i64 31)).run Tryz.prog w = .ok (.slice (some ⟨w.heap.size, 0, none⟩) 31 31) (w.alloc (.cells (madeP 31) 33)) := by
  obtain ⟨i, hi, z0, z1, z2⟩ := info_parts Tryz.infoGate2
  have h := run_make (P := Tryz.prog) w 24 33 i (.agg #[.int .i64 0, .int .i64 0]) Tryz.underlying24 hi z0 .i64 .i64 31 31 (by omega) (by omega) (by rw [z2]; omega) (by omega)
  rw [z1] at h
  exact h
theorem made_pairs (w : World) (k B : Nat) (t : TypeId) (hB : B = w.heap.size) : PairsAt (w.alloc (.cells (madeP k) t)) (some ⟨B, 0, none⟩) (List.replicate k (0, 0)) := by
  refine pairs_of_block (alloc_blk _ _ _ hB) (fun j hj => ?_)
  rw [List.length_replicate] at hj
  rw [madeP_at k (j * 2) (by omega), madeP_at k (j * 2 + 1) (by omega)]
  simp [hj]
theorem pairs1 (w : World) (x y : Int) (B : Nat) (t : TypeId) (hB : B = w.heap.size) : PairsAt (w.alloc (.cells #[.int .i64 x, .int .i64 y] t)) (some ⟨B, 0, none⟩) [(x, y)] := by
  refine pairs_of_block (alloc_blk _ _ _ hB) (fun j hj => ?_)
  match j, hj with
  | 0, _ => exact ⟨rfl, rfl⟩

end Go.Proofs.YtgpaajdfkekjiabGreatDoor
