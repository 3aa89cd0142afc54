/-
  bits.TrailingZeros of the numbers 1 to 15.
-/
import Derived.Test.YtgpaajdfkekjiaaDoorBase
namespace Go.Proofs.YtgpaajdfkekjiaaDoor
open Go.RowKit

/-- What of math/bits' table is read. -/
structure TabDB (w : World) : Prop where
  c0 : w.cell? ⟨1, 0, none⟩ = some (.int .u8 0)
  c1 : w.cell? ⟨1, 1, none⟩ = some (.int .u8 1)
  c3 : w.cell? ⟨1, 3, none⟩ = some (.int .u8 2)
  c7 : w.cell? ⟨1, 7, none⟩ = some (.int .u8 3)
theorem TabDB.lt {w : World} (h : TabDB w) : 1 < w.heap.size := World.block_lt_of_cell? _ _ h.c0
theorem TabDB.block {w w' : World} (h : TabDB w) (hb : w'.heap[1]? = w.heap[1]?) : TabDB w' :=
  ⟨(World.cell?_of_block (w := w) hb).trans h.c0, (World.cell?_of_block (w := w) hb).trans h.c1, (World.cell?_of_block (w := w) hb).trans h.c3, (World.cell?_of_block (w := w) hb).trans h.c7⟩
theorem TabDB.below {w w' : World} (h : TabDB w) (hb : Below w.heap.size w w') : TabDB w' := h.block (hb.block _ h.lt)

/-- The number of the lowest bit. -/
def tzN (d : Nat) : Nat := if d % 2 = 1 then 0 else if d % 4 = 2 then 1 else if d % 8 = 4 then 2 else 3

set_option maxHeartbeats 2000000 in
set_option maxRecDepth 100000 in
theorem tz64_any (d : Nat) (h1 : 1 ≤ d) (h2 : d < 16) (w : World) (h : TabDB w) :
    Calls Tryd.prog 65 #[.int .u64 d] w fun e w' => e = .returned (.int .i64 (tzN d : Nat)) ∧ w' = w := by
  have c0 := h.c0
  have c1 := h.c1
  have c3 := h.c3
  have c7 := h.c7
  have hd : d = 1 ∨ d = 2 ∨ d = 3 ∨ d = 4 ∨ d = 5 ∨ d = 6 ∨ d = 7 ∨ d = 8 ∨ d = 9 ∨ d = 10 ∨ d = 11 ∨ d = 12 ∨ d = 13 ∨ d = 14 ∨ d = 15 := by omega
  rcases hd with rfl | rfl | rfl | rfl | rfl | rfl | rfl | rfl | rfl | rfl | rfl | rfl | rfl | rfl | rfl
  · have hb : IntKind.u64.wrap (bits BinOp.and IntKind.u64 1 (IntKind.u64.wrap (-1)) * 285870213051353865) / 288230376151711744 = 0 := by decide +kernel
    go_enter Tryd.func65, Tryd.ntmps65
    go_wp2
    go_ret
    exact ⟨rfl, rfl⟩
  · have hb : IntKind.u64.wrap (bits BinOp.and IntKind.u64 2 (IntKind.u64.wrap (-2)) * 285870213051353865) / 288230376151711744 = 1 := by decide +kernel
    go_enter Tryd.func65, Tryd.ntmps65
    go_wp2
    go_ret
    exact ⟨rfl, rfl⟩
  · have hb : IntKind.u64.wrap (bits BinOp.and IntKind.u64 3 (IntKind.u64.wrap (-3)) * 285870213051353865) / 288230376151711744 = 0 := by decide +kernel
    go_enter Tryd.func65, Tryd.ntmps65
    go_wp2
    go_ret
    exact ⟨rfl, rfl⟩
  · have hb : IntKind.u64.wrap (bits BinOp.and IntKind.u64 4 (IntKind.u64.wrap (-4)) * 285870213051353865) / 288230376151711744 = 3 := by decide +kernel
    go_enter Tryd.func65, Tryd.ntmps65
    go_wp2
    go_ret
    exact ⟨rfl, rfl⟩
  · have hb : IntKind.u64.wrap (bits BinOp.and IntKind.u64 5 (IntKind.u64.wrap (-5)) * 285870213051353865) / 288230376151711744 = 0 := by decide +kernel
    go_enter Tryd.func65, Tryd.ntmps65
    go_wp2
    go_ret
    exact ⟨rfl, rfl⟩
  · have hb : IntKind.u64.wrap (bits BinOp.and IntKind.u64 6 (IntKind.u64.wrap (-6)) * 285870213051353865) / 288230376151711744 = 1 := by decide +kernel
    go_enter Tryd.func65, Tryd.ntmps65
    go_wp2
    go_ret
    exact ⟨rfl, rfl⟩
  · have hb : IntKind.u64.wrap (bits BinOp.and IntKind.u64 7 (IntKind.u64.wrap (-7)) * 285870213051353865) / 288230376151711744 = 0 := by decide +kernel
    go_enter Tryd.func65, Tryd.ntmps65
    go_wp2
    go_ret
    exact ⟨rfl, rfl⟩
  · have hb : IntKind.u64.wrap (bits BinOp.and IntKind.u64 8 (IntKind.u64.wrap (-8)) * 285870213051353865) / 288230376151711744 = 7 := by decide +kernel
    go_enter Tryd.func65, Tryd.ntmps65
    go_wp2
    go_ret
    exact ⟨rfl, rfl⟩
  · have hb : IntKind.u64.wrap (bits BinOp.and IntKind.u64 9 (IntKind.u64.wrap (-9)) * 285870213051353865) / 288230376151711744 = 0 := by decide +kernel
    go_enter Tryd.func65, Tryd.ntmps65
    go_wp2
    go_ret
    exact ⟨rfl, rfl⟩
  · have hb : IntKind.u64.wrap (bits BinOp.and IntKind.u64 10 (IntKind.u64.wrap (-10)) * 285870213051353865) / 288230376151711744 = 1 := by decide +kernel
    go_enter Tryd.func65, Tryd.ntmps65
    go_wp2
    go_ret
    exact ⟨rfl, rfl⟩
  · have hb : IntKind.u64.wrap (bits BinOp.and IntKind.u64 11 (IntKind.u64.wrap (-11)) * 285870213051353865) / 288230376151711744 = 0 := by decide +kernel
    go_enter Tryd.func65, Tryd.ntmps65
    go_wp2
    go_ret
    exact ⟨rfl, rfl⟩
  · have hb : IntKind.u64.wrap (bits BinOp.and IntKind.u64 12 (IntKind.u64.wrap (-12)) * 285870213051353865) / 288230376151711744 = 3 := by decide +kernel
    go_enter Tryd.func65, Tryd.ntmps65
    go_wp2
    go_ret
    exact ⟨rfl, rfl⟩
  · have hb : IntKind.u64.wrap (bits BinOp.and IntKind.u64 13 (IntKind.u64.wrap (-13)) * 285870213051353865) / 288230376151711744 = 0 := by decide +kernel
    go_enter Tryd.func65, Tryd.ntmps65
    go_wp2
    go_ret
    exact ⟨rfl, rfl⟩
  · have hb : IntKind.u64.wrap (bits BinOp.and IntKind.u64 14 (IntKind.u64.wrap (-14)) * 285870213051353865) / 288230376151711744 = 1 := by decide +kernel
    go_enter Tryd.func65, Tryd.ntmps65
    go_wp2
    go_ret
    exact ⟨rfl, rfl⟩
  · have hb : IntKind.u64.wrap (bits BinOp.and IntKind.u64 15 (IntKind.u64.wrap (-15)) * 285870213051353865) / 288230376151711744 = 0 := by decide +kernel
    go_enter Tryd.func65, Tryd.ntmps65
    go_wp2
    go_ret
    exact ⟨rfl, rfl⟩
theorem tz_any (d : Nat) (h1 : 1 ≤ d) (h2 : d < 16) (w : World) (h : TabDB w) :
    Calls Tryd.prog 48 #[.int .u64 d] w fun e w' => e = .returned (.int .i64 (tzN d : Nat)) ∧ w' = w := by
  go_enter Tryd.func48, Tryd.ntmps48
  go_wp2_with (go_at_call 65; refine (tz64_any d h1 h2 _ h).mono ?_; rintro e w' ⟨rfl, hw⟩; have hw := hw.symm; subst hw)
  go_ret
  exact ⟨rfl, rfl⟩

end Go.Proofs.YtgpaajdfkekjiaaDoor
