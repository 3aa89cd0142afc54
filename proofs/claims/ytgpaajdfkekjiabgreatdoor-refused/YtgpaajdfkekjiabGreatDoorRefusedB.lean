/-
  A wrong circuit that stands in memory (for the walk of the statement Refused of package latchkeep).
-/
import Derived.Test.YtgpaajdfkekjiabGreatDoorBad
import Derived.Test.YtgpaajdfkekjiabGreatDoorRdLong
import Derived.Handy
import Derived.Deep.RegionWith
namespace Go.Proofs.YtgpaajdfkekjiabGreatDoor
open Go.RowKit

theorem pick_to {c n p : Int} (w : World) (hc : -9223372036854775808 ≤ c) (hc2 : c ≤ 9223372036854775807) (hn : 1 ≤ n) (hn2 : n ≤ 1000000) (h : pickI c n = p) :
    Calls Tryz.prog 6 #[.int .i64 c, .int .i64 n] w fun e w' => e = .returned (.int .i64 p) ∧ w' = w := by
  subst h; exact pick_any c n w hc hc2 hn hn2

theorem al1 {X Y : World} {o : Obj} (h : Below (X.alloc o).heap.size (X.alloc o) Y) : Below X.heap.size X Y := ((Below.refl _ _).alloc (Nat.le_refl _) o).trans (h.mono (by simp))
theorem ndr {X Y : World} (h : Below X.drew.heap.size X.drew Y) : Below X.heap.size X Y := ((Below.refl _ _).drew).trans h
/-- A wrong circuit stands in block B. -/
structure BadAt (w X : World) (B : Nat) (bn : Int) (la ga oa : Option Addr) (lc gc oc : Nat) (ls gs : List (Int × Int)) (os : List Int) : Prop where
  ge : w.heap.size ≤ B
  lt : B < X.heap.size
  box : X.heap[B]? = some (.cells #[.int .i64 bn, .slice la ls.length lc, .slice ga gs.length gc, .slice oa os.length oc] 27 (0, 0))
  hL : PairsAt X la ls
  hG : PairsAt X ga gs
  hO : IntsAt X oa os
  bad : rightB bn ls gs os = false
  bel : Below w.heap.size w X
theorem BadAt.below {w X X' : World} {B : Nat} {bn : Int} {la ga oa : Option Addr} {lc gc oc : Nat} {ls gs : List (Int × Int)} {os : List Int} (h : BadAt w X B bn la ga oa lc gc oc ls gs os) (b : Below X.heap.size X X') : BadAt w X' B bn la ga oa lc gc oc ls gs os :=
  ⟨h.ge, Nat.lt_of_lt_of_le h.lt b.size, (b.block B h.lt).trans h.box, h.hL.below b, h.hG.below b, h.hO.below b, h.bad, h.bel.trans (b.mono (Nat.le_trans h.ge (Nat.le_of_lt h.lt)))⟩
theorem BadAt.alloc {w X : World} {B : Nat} {bn : Int} {la ga oa : Option Addr} {lc gc oc : Nat} {ls gs : List (Int × Int)} {os : List Int} (h : BadAt w X B bn la ga oa lc gc oc ls gs os) (o : Obj) : BadAt w (X.alloc o) B bn la ga oa lc gc oc ls gs os :=
  h.below ((Below.refl _ _).alloc (Nat.le_refl _) o)
theorem BadAt.c0 {w X : World} {B : Nat} {bn : Int} {la ga oa : Option Addr} {lc gc oc : Nat} {ls gs : List (Int × Int)} {os : List Int} (h : BadAt w X B bn la ga oa lc gc oc ls gs os) : X.cell? ⟨B, 0, none⟩ = some (.int .i64 bn) := by rw [cell_of_row _ _ _ _ _ _ h.box]; rfl
theorem BadAt.c1 {w X : World} {B : Nat} {bn : Int} {la ga oa : Option Addr} {lc gc oc : Nat} {ls gs : List (Int × Int)} {os : List Int} (h : BadAt w X B bn la ga oa lc gc oc ls gs os) : X.cell? ⟨B, 1, none⟩ = some (.slice la ls.length lc) := by rw [cell_of_row _ _ _ _ _ _ h.box]; rfl
theorem BadAt.c2 {w X : World} {B : Nat} {bn : Int} {la ga oa : Option Addr} {lc gc oc : Nat} {ls gs : List (Int × Int)} {os : List Int} (h : BadAt w X B bn la ga oa lc gc oc ls gs os) : X.cell? ⟨B, 2, none⟩ = some (.slice ga gs.length gc) := by rw [cell_of_row _ _ _ _ _ _ h.box]; rfl
theorem BadAt.c3 {w X : World} {B : Nat} {bn : Int} {la ga oa : Option Addr} {lc gc oc : Nat} {ls gs : List (Int × Int)} {os : List Int} (h : BadAt w X B bn la ga oa lc gc oc ls gs os) : X.cell? ⟨B, 3, none⟩ = some (.slice oa os.length oc) := by rw [cell_of_row _ _ _ _ _ _ h.box]; rfl

theorem write_bad {w X : World} {B : Nat} {bn : Int} {la ga oa : Option Addr} {lc gc oc : Nat} {ls gs : List (Int × Int)} {os : List Int} (h : BadAt w X B bn la ga oa lc gc oc ls gs os) :
    Calls Tryz.prog 8 #[.agg #[.int .i64 bn, .slice la ls.length lc, .slice ga gs.length gc, .slice oa os.length oc]] X fun e X1 => e = .returned (.tuple #[.string ⟨#[]⟩, .int .i64 2]) ∧ BadAt w X1 B bn la ga oa lc gc oc ls gs os :=
  (write_wrong _ _ _ _ _ _ _ ls gs os _ h.hL h.hG h.hO h.bad).mono fun _ _ x => ⟨x.1, h.below x.2⟩

end Go.Proofs.YtgpaajdfkekjiabGreatDoor
