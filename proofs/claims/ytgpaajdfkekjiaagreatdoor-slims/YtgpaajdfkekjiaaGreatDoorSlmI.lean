/-
  slices.Backward over a circuit's gates: its contract as an iterator.
-/
import Derived.Test.YtgpaajdfkekjiaaGreatDoorRight
import Derived.Test.YtgpaajdfkekjiaaGreatDoorKeeps
import Derived.RangeFuncNested
import Derived.RangeFuncBound
import Derived.RangeFuncCalls
import Derived.RangeFuncLeaves
import Derived.Shelf.Abstract
import Derived.Shelf.RegionOpen
import Derived.WalkKit
import Derived.OwnWalkIn
import Derived.TacticsInMore
import Derived.LoopNIn
import Derived.LoopIn
namespace Go.Proofs.YtgpaajdfkekjiaaGreatDoor
open Go.RowKit Go.Shelf

attribute [local go_sem] Oper.semAt_some

/-- What a round is handed: the index (from the last one back) and the gate. -/
def gencs (gs : List (Int × Int)) (j : Nat) : Array Value := #[.int .i64 ((gs.length - 1 - j : Nat) : Int), .agg #[.int .i64 (gs.getD (gs.length - 1 - j) (0, 0)).1, .int .i64 (gs.getD (gs.length - 1 - j) (0, 0)).2]]
/-- What a round of the loop leaves as it was: all but block U, and what is new. -/
def KpU (U n₁ : Nat) (A B : World) : Prop := Keeps (fun k => k = U ∨ n₁ ≤ k) A B
theorem kpU_t {U n₁ : Nat} {A B C : World} (h : KpU U n₁ A B) (k : KpU U n₁ B C) : KpU U n₁ A C := Keeps.trans h k
theorem kpU_b {U n₁ : Nat} (W : World) (l : Nat) (o o' : Obj) (hl : n₁ ≤ l) (_ : W.heap[l]? = some o) (_ : o.isCells = false) (_ : o.isWalk = false) : KpU U n₁ W (W.putObj l o') :=
  ⟨rfl, rfl, rfl, by simp, fun k _ hk => World.putObj_heap_other (fun e => hk (.inr (by omega)))⟩

set_option maxRecDepth 100000 in
set_option maxHeartbeats 2000000 in
theorem back1_in (F : Fence) (n : Nat) (hf : F.fn 128) (hro : F.round = none) (hn : 1 ≤ n) (l Bs U n₁ : Nat) (ga : Option Addr) (gc : Nat) (gs : List (Int × Int)) (hm : gs.length ≤ 1000)
    (w0 : World) (hG : PairsAt w0 ga gs) (hU : w0.heap.size ≤ U) (hn₁ : w0.heap.size ≤ n₁) (hBs : Bs < n₁) (hBU : Bs ≠ U) (J Jx : List Nat → World → Prop)
    (hY : ∀ pre x W, J pre W → pre.length < gs.length → YieldAt F (n - 1) Tryz.prog l (gencs gs x) W fun e W' =>
      (e = .returned (.bool true) ∧ J (pre ++ [x]) W' ∧ KpU U n₁ W W') ∨ (e = .returned (.bool false) ∧ Jx (pre ++ [x]) W'))
    (W : World) (hs : n₁ ≤ W.heap.size) (hc : W.cell? ⟨Bs, 0, none⟩ = some (.slice ga gs.length gc)) (hb : Below w0.heap.size w0 W) (h0 : J [] W) :
    CallsIn F n Tryz.prog 128 #[.func (.yield l) #[] #[], .pointer (some ⟨Bs, 0, none⟩)] W fun e W' => (∃ v, e = .returned v) ∧
      ((∃ ys, ys = List.range gs.length ∧ J ys W') ∨ (∃ pre, True ∧ Jx pre W')) := by
  refine callsIn_of_wp Tryz.func128 rfl hf ?_ hro
  simp only [Tryz.ntmps128, List.size_toArray, List.length_cons, List.length_nil, Nat.reduceAdd, Nat.reduceSub, Array.replicate_succ, Array.replicate_zero, List.push_toArray, List.append_toArray, List.nil_append, List.cons_append]
  gi_wp2
  gi_loopw [3] (fun i wr => ∃ (k : Nat) (z : Int), k ≤ gs.length ∧ i = .int .i64 z ∧ z = (gs.length : Int) - 1 - k ∧ J (List.range k) wr ∧ KpU U n₁ W wr)
    (fun i _ => (intOf i + 1).toNat)
  case atStart => exact ⟨0, _, Nat.zero_le _, rfl, by omega, h0, Keeps.refl _ _⟩
  case round =>
    obtain ⟨k, z, hk, rfl, hz, hJs, hnx⟩ := hrel
    have hcx : wr.cell? ⟨Bs, 0, none⟩ = some (.slice ga gs.length gc) := (hnx.cell (p := ⟨Bs, 0, none⟩) (by show Bs < _; omega) (by show ¬ (Bs = U ∨ n₁ ≤ Bs); omega)).trans hc
    by_cases hlt : k < gs.length
    · obtain ⟨b, off, rfl, hbl, hcs⟩ := hG.get (by omega)
      obtain ⟨i, hi⟩ : ∃ i : Nat, i = gs.length - 1 - k := ⟨_, rfl⟩
      obtain rfl : z = (i : Int) := by omega
      have hi2 : i < gs.length := by omega
      have h5 : ∀ o, wr.cell? ⟨b, o, none⟩ = w0.cell? ⟨b, o, none⟩ := fun o => (hnx.cell (p := ⟨b, o, none⟩) (by show b < _; omega) (by show ¬ (b = U ∨ n₁ ≤ b); omega)).trans (hb.cell (p := ⟨b, o, none⟩) hbl)
      have c0 := (h5 _).trans (hcs i hi2).1
      have c1 := (h5 _).trans (hcs i hi2).2
      obtain ⟨fn, tmps, assign, body, hy, hR⟩ := hY _ k wr hJs (by simpa using hlt)
      unfold gencs at hy
      rw [← hi] at hy
      obtain ⟨a, ha⟩ : ∃ a, a = (gs.getD i (0, 0)).1 := ⟨_, rfl⟩
      obtain ⟨c, hc'⟩ : ∃ c, c = (gs.getD i (0, 0)).2 := ⟨_, rfl⟩
      rw [← ha, ← hc'] at hy
      rw [← ha] at c0
      rw [← hc'] at c1
      clear ha hc' hi hcs h5
      have hi0 : (0 : Int) ≤ (i : Int) := by omega
      have HZ : Hid ((i : Int) = (gs.length : Int) - 1 - k) := hz
      clear hz
      gi_wp2
      refine hR.mono ?_
      rintro e W3 (⟨rfl, hJ3, hk3⟩ | ⟨rfl, hJx3⟩)
      · gi_wp2
        go_roundw
        case rel => exact ⟨k + 1, _, by omega, rfl, by have := HZ.out; omega, by rw [List.range_succ]; exact hJ3, kpU_t hnx hk3⟩
        case measure => simp [intOf]
      · gi_wp2
        refine bodyPost_ret (results_none rfl _ _ _) rfl ?_
        exact ⟨⟨_, rfl⟩, .inr ⟨_, trivial, hJx3⟩⟩
    · obtain rfl : k = gs.length := by omega
      obtain rfl : z = -1 := by omega
      gi_wp2
      go_end0
      exact ⟨⟨_, rfl⟩, .inl ⟨_, rfl, hJs⟩⟩

set_option maxHeartbeats 1000000 in
theorem back_in (F : Fence) (n : Nat) (h5 : F.fn 117) (hro : F.round = none) (a : Option Addr) (len cap : Nat) (w : World) :
    CallsIn F n Tryz.prog 117 #[.slice a len cap] w fun e w' => e = .returned (.func (.func 128) #[] #[.pointer (some ⟨w.heap.size, 0, none⟩)]) ∧ w' = w.alloc (.cells #[.slice a len cap] 31) := by
  refine callsIn_of_wp Tryz.func117 rfl h5 ?_ hro
  simp only [Tryz.ntmps117, List.size_toArray, List.length_cons, List.length_nil, Nat.reduceAdd, Nat.reduceSub, Array.replicate_succ, Array.replicate_zero, List.push_toArray, List.append_toArray, List.nil_append, List.cons_append]
  gi_wp2
  go_ret
  exact ⟨rfl, rfl⟩

theorem back_stops (F : Fence) (n : Nat) (hf : F.fn 128) (hro : F.round = none) (hn : 1 ≤ n) (Bs U n₁ : Nat) (ga : Option Addr) (gc : Nat) (gs : List (Int × Int)) (hm : gs.length ≤ 1000)
    (w0 : World) (hG : PairsAt w0 ga gs) (hU : w0.heap.size ≤ U) (hn₁ : w0.heap.size ≤ n₁) (hBs : Bs < n₁) (hBU : Bs ≠ U) (w : World) (hs : n₁ ≤ w.heap.size) (hc : w.cell? ⟨Bs, 0, none⟩ = some (.slice ga gs.length gc)) (hb : Below w0.heap.size w0 w) :
    SeqStopsK F n Tryz.prog 128 #[.pointer (some ⟨Bs, 0, none⟩)] (gencs gs) (KpU U n₁) (fun ys => ys = List.range gs.length) (fun _ => True) gs.length w := fun l J Jx W hW _ _ hY h0 =>
  back1_in F n hf hro hn l Bs U n₁ ga gc gs hm w0 hG hU hn₁ hBs hBU J Jx hY W (Nat.le_trans hs hW.size) ((hW.cell (p := ⟨Bs, 0, none⟩) (by show Bs < _; omega)).trans hc) (hb.trans (hW.mono hb.size)) h0

end Go.Proofs.YtgpaajdfkekjiaaGreatDoor
