/-
  Read of packages text and latch, of a text that is too long.
-/
import Derived.Test.YtgpaajdfkekjiabGreatDoorRdBox
import Derived.Test.YtgpaajdfkekjiabGreatDoorMem
import Derived.WalkMore
namespace Go.Proofs.YtgpaajdfkekjiabGreatDoor
open Go.RowKit

set_option maxHeartbeats 1000000 in
set_option maxRecDepth 100000 in
theorem textRead_long (S : List UInt8) (w : World) (hS : 1000 < S.length) (hS2 : S.length < 9223372036854775808) :
    Calls Tryz.prog 23 #[.string ⟨S.toArray⟩] w fun e w' => e = .returned (.tuple #[.agg #[.int .i64 0, .slice none 0 0, .slice none 0 0, .slice none 0 0], .int .i64 0, .int .i64 1]) ∧ Below w.heap.size w w' := by
  have hc : ((⟨S.toArray⟩ : ByteArray).size : Int) = S.length := by show ((S.toArray.size : Nat) : Int) = _; simp
  have hbox : (w.alloc (.cells #[.int .i64 0, .slice none 0 0, .slice none 0 0, .slice none 0 0] 27)).heap[w.heap.size]? = some (.cells #[.int .i64 0, .slice none 0 0, .slice none 0 0, .slice none 0 0] 27 (0, 0)) := heap_alloc_new _ _
  have hbel : Below w.heap.size w (w.alloc (.cells #[.int .i64 0, .slice none 0 0, .slice none 0 0, .slice none 0 0] 27)) := (Below.refl _ _).alloc (Nat.le_refl _) _
  have hS' : (1000 : Int) < (S.length : Int) := by omega
  have q0 := cell_of_row _ _ 0 _ _ _ hbox
  have q1 := cell_of_row _ _ 1 _ _ _ hbox
  have q2 := cell_of_row _ _ 2 _ _ _ hbox
  have q3 := cell_of_row _ _ 3 _ _ _ hbox
  obtain ⟨W0, hW0⟩ : ∃ W0, W0 = w.alloc (.cells #[.int .i64 0, .slice none 0 0, .slice none 0 0, .slice none 0 0] 27) := ⟨_, rfl⟩
  rw [← hW0] at hbox hbel q0 q1 q2 q3
  have qf0 : W0.frozen? ⟨w.heap.size, 0, none⟩ = false := frozen_of_row _ _ _ _ _ hbox
  have qf1 : W0.frozen? ⟨w.heap.size, 1, none⟩ = false := frozen_of_row _ _ _ _ _ hbox
  have qf2 : W0.frozen? ⟨w.heap.size, 2, none⟩ = false := frozen_of_row _ _ _ _ _ hbox
  have qf3 : W0.frozen? ⟨w.heap.size, 3, none⟩ = false := frozen_of_row _ _ _ _ _ hbox
  go_enter Tryz.func23, Tryz.ntmps23
  go_wp2_with fail
  rw [← hW0]
  clear hW0
  refine wp_scope_jumps 0 (fun _ _ => False) (fun _ _ => 0) rfl ?_ (fun _ _ h => h.elim)
  go_wp2
  rw [jump_ret]
  refine read_close (b := w.heap.size) (x := .int .i64 0) (y := .int .i64 1) (box4_blk hbox _ _ _ _) rfl rfl rfl ?_
  exact ⟨rfl, box4_below hbel (Nat.le_refl _) _ _ _ _⟩

set_option maxHeartbeats 1000000 in
set_option maxRecDepth 100000 in
theorem latchRead_long (S : List UInt8) (w : World) (hS : 1000 < S.length) (hS2 : S.length < 9223372036854775808) :
    Calls Tryz.prog 13 #[.string ⟨S.toArray⟩] w fun e w' => e = .returned (.tuple #[.agg #[.int .i64 0, .slice none 0 0, .slice none 0 0, .slice none 0 0], .int .i64 0, .int .i64 1]) ∧ Below w.heap.size w w' := by
  obtain ⟨W0, hW0⟩ : ∃ W0, W0 = w.alloc (.cells #[.int .i64 0, .slice none 0 0, .slice none 0 0, .slice none 0 0] 27) := ⟨_, rfl⟩
  have b0 : Below w.heap.size w W0 := by rw [hW0]; exact (Below.refl _ _).alloc (Nat.le_refl _) _
  have s0 : W0.heap.size = w.heap.size + 1 := by rw [hW0]; simp
  have bx : W0.heap[w.heap.size]? = some (.cells #[.int .i64 0, .slice none 0 0, .slice none 0 0, .slice none 0 0] 27 (0, 0)) := by rw [hW0]; exact heap_alloc_new _ _
  have hn := textRead_long S W0 hS hS2
  rw [hW0] at hn
  go_enter Tryz.func13, Tryz.ntmps13
  go_wp2_with fail
  refine hn.mono ?_
  rw [← hW0]
  clear hn hW0
  rintro e w1 ⟨rfl, b1⟩
  have bx1 : w1.heap[w.heap.size]? = some (.cells #[.int .i64 0, .slice none 0 0, .slice none 0 0, .slice none 0 0] 27 (0, 0)) := (b1.block w.heap.size (by omega)).trans bx
  have B1 : Below w.heap.size w w1 := b0.trans (b1.mono (by omega))
  have q0 : w1.cell? ⟨w.heap.size, 0, none⟩ = some (.int .i64 0) := by rw [cell_of_row _ _ _ _ _ _ bx1]; rfl
  have q1 : w1.cell? ⟨w.heap.size, 1, none⟩ = some (.slice none 0 0) := by rw [cell_of_row _ _ _ _ _ _ bx1]; rfl
  have q2 : w1.cell? ⟨w.heap.size, 2, none⟩ = some (.slice none 0 0) := by rw [cell_of_row _ _ _ _ _ _ bx1]; rfl
  have q3 : w1.cell? ⟨w.heap.size, 3, none⟩ = some (.slice none 0 0) := by rw [cell_of_row _ _ _ _ _ _ bx1]; rfl
  have qf0 : w1.frozen? ⟨w.heap.size, 0, none⟩ = false := frozen_of_row _ _ _ _ _ bx1
  have qf1 : w1.frozen? ⟨w.heap.size, 1, none⟩ = false := frozen_of_row _ _ _ _ _ bx1
  have qf2 : w1.frozen? ⟨w.heap.size, 2, none⟩ = false := frozen_of_row _ _ _ _ _ bx1
  have qf3 : w1.frozen? ⟨w.heap.size, 3, none⟩ = false := frozen_of_row _ _ _ _ _ bx1
  go_wp2
  refine latchRead_close (b := w.heap.size) (x := .int .i64 0) (y := .int .i64 1) (box4_blk bx1 _ _ _ _) rfl rfl rfl ?_
  exact ⟨rfl, box4_below B1 (Nat.le_refl _) _ _ _ _⟩

end Go.Proofs.YtgpaajdfkekjiabGreatDoor
