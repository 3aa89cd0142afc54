/-
  Read of packages text and latch, of any text.
-/
import Derived.Test.YtgpaajdfkekjiaaGreatDoorReadP
import Derived.Test.YtgpaajdfkekjiaaGreatDoorRdHead
namespace Go.Proofs.YtgpaajdfkekjiaaGreatDoor
open Go.RowKit

set_option maxHeartbeats 1000000 in
set_option maxRecDepth 100000 in
theorem read_long (S : List UInt8) (w : World) (hS : 1000 < S.length) (hS2 : S.length < 9223372036854775808) :
    Calls Tryz.prog 16 #[.string ⟨S.toArray⟩] w (ReadRes w S) := by
  have hc : ((⟨S.toArray⟩ : ByteArray).size : Int) = S.length := by rw [bsize]
  have hbox : (w.alloc (.cells #[.int .i64 0, .slice none 0 0, .slice none 0 0, .slice none 0 0] 34)).heap[w.heap.size]? = some (.cells #[.int .i64 0, .slice none 0 0, .slice none 0 0, .slice none 0 0] 34 (0, 0)) := heap_alloc_new _ _
  have hbel : Below w.heap.size w (w.alloc (.cells #[.int .i64 0, .slice none 0 0, .slice none 0 0, .slice none 0 0] 34)) := (Below.refl _ _).alloc (Nat.le_refl _) _
  have hS' : (1000 : Int) < (S.length : Int) := by omega
  have q0 := cell_of_row _ _ 0 _ _ _ hbox
  have q1 := cell_of_row _ _ 1 _ _ _ hbox
  have q2 := cell_of_row _ _ 2 _ _ _ hbox
  have q3 := cell_of_row _ _ 3 _ _ _ hbox
  obtain ⟨W0, hW0⟩ : ∃ W0, W0 = w.alloc (.cells #[.int .i64 0, .slice none 0 0, .slice none 0 0, .slice none 0 0] 34) := ⟨_, rfl⟩
  rw [← hW0] at hbox hbel q0 q1 q2 q3
  have qf0 : W0.frozen? ⟨w.heap.size, 0, none⟩ = false := frozen_of_row _ _ _ _ _ hbox
  have qf1 : W0.frozen? ⟨w.heap.size, 1, none⟩ = false := frozen_of_row _ _ _ _ _ hbox
  have qf2 : W0.frozen? ⟨w.heap.size, 2, none⟩ = false := frozen_of_row _ _ _ _ _ hbox
  have qf3 : W0.frozen? ⟨w.heap.size, 3, none⟩ = false := frozen_of_row _ _ _ _ _ hbox
  go_enter Tryz.func16, Tryz.ntmps16
  go_wp2_with fail
  rw [← hW0]
  clear hW0
  refine wp_scope_jumps 0 (fun _ _ => False) (fun _ _ => 0) rfl ?_ (fun _ _ h => h.elim)
  go_wp2
  rw [jump_ret]
  refine read_close (b := w.heap.size) (x := .int .i64 0) (y := .int .i64 1) (box4_blk hbox _ _ _ _) rfl rfl rfl ?_
  exact ⟨box4_below hbel (Nat.le_refl _) _ _ _ _, .inl ⟨0, .inl ⟨hS, rfl, rfl⟩, rfl⟩⟩

theorem textRead_all (S : List UInt8) (w : World) (hL : Lib0 w) (hS2 : S.length < 9223372036854775808) : Calls Tryz.prog 16 #[.string ⟨S.toArray⟩] w (ReadRes w S) := by
  by_cases hS : S.length ≤ 1000
  · exact read_walk (fun line rb R w hL hg hr hR hl => rdHead_any line rb R w hL hg hr hR hl) S w hL hS
  · exact read_long S w (by omega) hS2


set_option maxHeartbeats 1000000 in
set_option maxRecDepth 100000 in
theorem latchRead_all (S : List UInt8) (w : World) (hL : Lib0 w) (hS2 : S.length < 9223372036854775808) : Calls Tryz.prog 10 #[.string ⟨S.toArray⟩] w (ReadRes w S) := by
  obtain ⟨W0, hW0⟩ : ∃ W0, W0 = w.alloc (.cells #[.int .i64 0, .slice none 0 0, .slice none 0 0, .slice none 0 0] 34) := ⟨_, rfl⟩
  have b0 : Below w.heap.size w W0 := by rw [hW0]; exact (Below.refl _ _).alloc (Nat.le_refl _) _
  have s0 : W0.heap.size = w.heap.size + 1 := by rw [hW0]; simp
  have bx : W0.heap[w.heap.size]? = some (.cells #[.int .i64 0, .slice none 0 0, .slice none 0 0, .slice none 0 0] 34 (0, 0)) := by rw [hW0]; exact heap_alloc_new _ _
  have hn := textRead_all S W0 (hL.below b0) hS2
  rw [hW0] at hn
  go_enter Tryz.func10, Tryz.ntmps10
  go_wp2_with fail
  refine hn.mono ?_
  rw [← hW0]
  clear hn hW0
  rintro e w1 ⟨b1, hres⟩
  have bx1 : w1.heap[w.heap.size]? = some (.cells #[.int .i64 0, .slice none 0 0, .slice none 0 0, .slice none 0 0] 34 (0, 0)) := (b1.block w.heap.size (by omega)).trans bx
  have B1 : Below w.heap.size w w1 := b0.trans (b1.mono (by omega))
  have q0 : w1.cell? ⟨w.heap.size, 0, none⟩ = some (.int .i64 0) := by rw [cell_of_row _ _ _ _ _ _ bx1]; rfl
  have q1 : w1.cell? ⟨w.heap.size, 1, none⟩ = some (.slice none 0 0) := by rw [cell_of_row _ _ _ _ _ _ bx1]; rfl
  have q2 : w1.cell? ⟨w.heap.size, 2, none⟩ = some (.slice none 0 0) := by rw [cell_of_row _ _ _ _ _ _ bx1]; rfl
  have q3 : w1.cell? ⟨w.heap.size, 3, none⟩ = some (.slice none 0 0) := by rw [cell_of_row _ _ _ _ _ _ bx1]; rfl
  have qf0 : w1.frozen? ⟨w.heap.size, 0, none⟩ = false := frozen_of_row _ _ _ _ _ bx1
  have qf1 : w1.frozen? ⟨w.heap.size, 1, none⟩ = false := frozen_of_row _ _ _ _ _ bx1
  have qf2 : w1.frozen? ⟨w.heap.size, 2, none⟩ = false := frozen_of_row _ _ _ _ _ bx1
  have qf3 : w1.frozen? ⟨w.heap.size, 3, none⟩ = false := frozen_of_row _ _ _ _ _ bx1
  rcases hres with ⟨line, hans, rfl⟩ | ⟨n, ls, gs, os, lv, gv, ov, hans, rfl, oL, oG, oO, d1, d2, d3⟩
  · go_wp2
    refine latchRead_close (b := w.heap.size) (x := .int .i64 line) (y := .int .i64 1) (box4_blk bx1 _ _ _ _) rfl rfl rfl ?_
    exact ⟨box4_below B1 (Nat.le_refl _) _ _ _ _, .inl ⟨line, hans, rfl⟩⟩
  · obtain ⟨la, ln, lc, rfl⟩ := own_slice oL
    obtain ⟨ga, gn, gc, rfl⟩ := own_slice oG
    obtain ⟨oa, on, oc, rfl⟩ := own_slice oO
    go_wp2
    refine latchRead_close (b := w.heap.size) (x := .int .i64 0) (y := .int .i64 0) (box4_blk bx1 _ _ _ _) rfl rfl rfl ?_
    exact ⟨box4_below B1 (Nat.le_refl _) _ _ _ _, .inr ⟨n, ls, gs, os, _, _, _, hans, rfl, box4_own oL (by omega) (by omega) _ _ _ _, box4_own oG (by omega) (by omega) _ _ _ _, box4_own oO (by omega) (by omega) _ _ _ _, d1, d2, d3⟩⟩

end Go.Proofs.YtgpaajdfkekjiaaGreatDoor
