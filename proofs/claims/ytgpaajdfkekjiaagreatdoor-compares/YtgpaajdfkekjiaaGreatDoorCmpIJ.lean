/-
  further of package compare: the way that goes one step on.
  bits.TrailingZeros of the numbers 1 to 15.
-/
import Derived.Test.YtgpaajdfkekjiaaGreatDoorCmpFGH
import Derived.Test.YtgpaajdfkekjiaaGreatDoorSteps
import Derived.Test.YtgpaajdfkekjiaaGreatDoorMem
import Derived.Deep.DeepCutAuto
import Derived.Test.YtgpaajdfkekjiaaGreatDoorBase
namespace Go.Proofs.YtgpaajdfkekjiaaGreatDoor
open Go.RowKit

/-- A circuit as a value, its lists in memory. -/
def CirW (w : World) (v : Value) (n : Nat) (ls gs : List (Int × Int)) (os : List Int) : Prop :=
  ∃ la lc ga gc oa oc, v = .agg #[.int .i64 n, .slice la ls.length lc, .slice ga gs.length gc, .slice oa os.length oc] ∧ PairsAt w la ls ∧ PairsAt w ga gs ∧ IntsAt w oa os
theorem CirW.below {w w' : World} {v : Value} {n : Nat} {ls gs : List (Int × Int)} {os : List Int} (h : CirW w v n ls gs os) (hb : Below w.heap.size w w') : CirW w' v n ls gs os := by
  obtain ⟨la, lc, ga, gc, oa, oc, e, h1, h2, h3⟩ := h
  exact ⟨la, lc, ga, gc, oa, oc, e, h1.below hb, h2.below hb, h3.below hb⟩
/-- What a right circuit says, as Step wants it. -/
structure StepOk (n : Nat) (ls gs : List (Int × Int)) (os : List Int) : Prop where
  n4 : n ≤ 4
  l4 : ls.length ≤ 4
  g30 : gs.length ≤ 30
  o4 : os.length ≤ 4
  gat : ∀ i, i < gs.length → gateOk (n + ls.length + (i : Nat)) (gs.getD i (0, 0)) = true
  lat : ∀ i, i < ls.length → inB (ls.getD i (0, 0)).1 (2 * (n + ls.length + gs.length) + 1) = true
  out : ∀ i, i < os.length → inB (os.getD i 0) (2 * (n + ls.length + gs.length) + 1) = true
  ini : ∀ i, i < ls.length → inB (ls.getD i (0, 0)).2 1 = true
theorem stepOk_of {n : Nat} {ls gs : List (Int × Int)} {os : List Int} (hr : rightB n ls gs os = true) : StepOk n ls gs os := by
  obtain ⟨⟨_, hn4, hl4, ho4, hg30⟩, hokl, hokg, hoko⟩ := rightB_pos hr
  exact ⟨by omega, hl4, hg30, ho4, hokg, fun i h => by have := hokl i h; simp only [latchOk, Bool.and_eq_true] at this; exact this.1, hoko, fun i h => by have := hokl i h; simp only [latchOk, Bool.and_eq_true] at this; exact this.2⟩

theorem step_cir {w : World} {v : Value} {n : Nat} {ls gs : List (Int × Int)} {os : List Int} (h : CirW w v n ls gs os) (k : StepOk n ls gs os) (st inp : Nat) (hs : st < 16) (hi : inp < 16) {o nx : Nat} (ho : outOf os (vals n ls.length gs st inp) os.length = o) (hx : nextOf ls (vals n ls.length gs st inp) ls.length = nx) :
    Calls Tryz.prog 51 #[v, .int .i64 st, .int .i64 inp] w fun e w' => e = .returned (.tuple #[.int .i64 o, .int .i64 nx]) ∧ Below w.heap.size w w' := by
  obtain ⟨la, lc, ga, gc, oa, oc, rfl, h1, h2, h3⟩ := h
  subst ho hx
  exact step_any n st inp la ga oa lc gc oc ls gs os w k.n4 k.l4 k.g30 k.o4 hs hi h1 h2 h3 k.gat k.lat k.out

set_option maxHeartbeats 1000000 in
theorem way_results {w : World} {b : Nat} {tmps : Array Value} {v0 v1 v2 v3 : Value} (h : w.heap[b]? = some (.cells #[v0, v1, v2, v3] 148 (0, 0)))
    (h8 : tmps[8]?.getD undef = .pointer (some ⟨b, 0, none⟩)) :
    (results Tryz.f89 tmps).run Tryz.prog w = .ok (.agg #[v0, v1, v2, v3]) w := by
  have c0 : w.cell? ⟨b, 0, none⟩ = some v0 := by rw [cell_of_row _ _ _ _ _ _ h]; rfl
  have c1 : w.cell? ⟨b, 1, none⟩ = some v1 := by rw [cell_of_row _ _ _ _ _ _ h]; rfl
  have c2 : w.cell? ⟨b, 2, none⟩ = some v2 := by rw [cell_of_row _ _ _ _ _ _ h]; rfl
  have c3 : w.cell? ⟨b, 3, none⟩ = some v3 := by rw [cell_of_row _ _ _ _ _ _ h]; rfl
  simp [results, Tryz.results89, go_sem, h8, c0, c1, c2, c3]
theorem way_close {tmps : Array Value} {Q : Ending → World → Prop} {w : World} {b : Nat} {v0 v1 v2 v3 : Value} (h : w.heap[b]? = some (.cells #[v0, v1, v2, v3] 148 (0, 0)))
    (h8 : tmps[8]?.getD undef = .pointer (some ⟨b, 0, none⟩)) (hQ : Q (.returned (.agg #[v0, v1, v2, v3])) w) :
    bodyPost Tryz.prog Tryz.f89 Q Exit.ret ⟨tmps, []⟩ w := bodyPost_ret (way_results h h8) rfl hQ
theorem box4_blkW {w : World} {b : Nat} {u0 u1 u2 u3 : Value} {t : TypeId} (h : w.heap[b]? = some (.cells #[u0, u1, u2, u3] t (0, 0))) (v0 v1 v2 v3 : Value) : (box4 w b v0 v1 v2 v3).heap[b]? = some (.cells #[v0, v1, v2, v3] t (0, 0)) := by
  unfold box4
  exact blk_set (blk_set (blk_set (blk_set h 0 v0) 1 v1) 2 v2) 3 v3

theorem box4_keeps (w : World) (b : Nat) (v0 v1 v2 v3 : Value) : Keeps (fun k => k = b) w (box4 w b v0 v1 v2 v3) := by
  refine ⟨rfl, rfl, rfl, ?_, fun q _ hq => ?_⟩
  · unfold box4; simp only [Deep.nblk_setCell]; exact Nat.le_refl _
  · unfold box4
    rw [Deep.blk_setCell_other _ _ _ _ hq, Deep.blk_setCell_other _ _ _ _ hq, Deep.blk_setCell_other _ _ _ _ hq, Deep.blk_setCell_other _ _ _ _ hq]

set_option maxHeartbeats 2000000 in
set_option maxRecDepth 100000 in
theorem further_any (n : Nat) (la ga : List (Int × Int)) (oa : List Int) (lb gb : List (Int × Int)) (ob : List Int) (va vb : Value) (X : Nat → Prop) (v : Value) (u : List Nat) (i : Nat) (w : World)
    (ka : StepOk n la ga oa) (kb : StepOk n lb gb ob) (ca : CirW w va n la ga oa) (cb : CirW w vb n lb gb ob) (hu : u.length ≤ 400) (hv : InAt w X v u) (hi : i < 16) :
    Calls Tryz.prog 89 #[va, vb, wayV (duo n la ga oa lb gb ob) (u, v), .int .i64 i] w fun r w' => ∃ v', r = .returned (wayV (duo n la ga oa lb gb ob) (u ++ [i], v')) ∧ (∀ Y : Nat → Prop, (∀ k, Y k → k < w.heap.size) → InAt w' Y v' (u ++ [i])) ∧ Below w.heap.size w w' := by
  obtain ⟨M, hM⟩ : ∃ M, M = duo n la ga oa lb gb ob := ⟨_, rfl⟩
  rw [← hM]
  have hsm := Duo.run_small (M := M) (by rw [hM]; exact duo_small ka.l4 kb.l4) u
  obtain ⟨sa, hsa⟩ : ∃ x : Nat, x = (M.run u).1 := ⟨_, rfl⟩
  obtain ⟨sb, hsb⟩ : ∃ x : Nat, x = (M.run u).2 := ⟨_, rfl⟩
  obtain ⟨du, hdu⟩ : ∃ x : Nat, x = M.difL u := ⟨_, rfl⟩
  obtain ⟨xa, hxa⟩ : ∃ x : Nat, outOf oa (vals n la.length ga sa i) oa.length = x := ⟨_, rfl⟩
  obtain ⟨xb, hxb⟩ : ∃ x : Nat, outOf ob (vals n lb.length gb sb i) ob.length = x := ⟨_, rfl⟩
  obtain ⟨na, hna⟩ : ∃ x : Nat, nextOf la (vals n la.length ga sa i) la.length = x := ⟨_, rfl⟩
  obtain ⟨nb, hnb⟩ : ∃ x : Nat, nextOf lb (vals n lb.length gb sb i) lb.length = x := ⟨_, rfl⟩
  have hrun : M.run (u ++ [i]) = (na, nb) := by
    rw [M.run_snoc, ← hna, ← hnb, hsa, hsb, hM]; rfl
  have hdif : M.difL (u ++ [i]) = xa ^^^ xb := by
    rw [M.difL_snoc, ← hxa, ← hxb, hsa, hsb, hM]; rfl
  have hxa16 : xa < 16 := by rw [← hxa]; exact out_lt16 _ ka.o4
  have hxb16 : xb < 16 := by rw [← hxb]; exact out_lt16 _ kb.o4
  have hxor : bits .xor .i64 (xa : Int) (xb : Int) = ((xa ^^^ xb : Nat) : Int) := i64_xor_nat xa xb (by omega) (by omega)
  have hsa16 : sa < 16 := by rw [hsa]; exact hsm.1
  have hsb16 : sb < 16 := by rw [hsb]; exact hsm.2
  have eW : wayV M (u, v) = .agg #[v, .int .i64 sa, .int .i64 sb, .int .i64 du] := by unfold wayV; rw [hsa, hsb, hdu]
  have HR := hideW hrun
  have HDf := hideW hdif
  rw [eW]
  clear eW hM hsm hsa hsb hdu hrun hdif
  obtain ⟨av, cv, hve, hvr⟩ := hv
  have hv : InAt w X v u := ⟨av, cv, hve, hvr⟩
  subst hve
  obtain ⟨la1, lc1, ga1, gc1, oa1, oc1, hva, _⟩ := ca
  have ca : CirW w va n la ga oa := ⟨la1, lc1, ga1, gc1, oa1, oc1, hva, by assumption⟩
  obtain ⟨lb1, ld1, gb1, gd1, ob1, od1, hvb, _⟩ := cb
  have cb : CirW w vb n lb gb ob := ⟨lb1, ld1, gb1, gd1, ob1, od1, hvb, by assumption⟩
  subst hva hvb
  obtain ⟨W4, hW4⟩ : ∃ W4, W4 = (((w.alloc (.cells #[.int .i64 n, .slice la1 la.length lc1, .slice ga1 ga.length gc1, .slice oa1 oa.length oc1] 34)).alloc (.cells #[.int .i64 n, .slice lb1 lb.length ld1, .slice gb1 gb.length gd1, .slice ob1 ob.length od1] 34)).alloc (.cells #[.slice av u.length cv, .int .i64 sa, .int .i64 sb, .int .i64 du] 148)).alloc (.cells #[.slice none 0 0, .int .i64 0, .int .i64 0, .int .i64 0] 148) := ⟨_, rfl⟩
  have s4 : W4.heap.size = w.heap.size + 4 := by rw [hW4]; simp
  have B4 : Below w.heap.size w W4 := by rw [hW4]; exact ((((Below.refl _ _).alloc (Nat.le_refl _) _).alloc (by simp) _).alloc (by simp; omega) _).alloc (by simp; omega) _
  have bA : W4.heap[w.heap.size]? = some (.cells #[.int .i64 n, .slice la1 la.length lc1, .slice ga1 ga.length gc1, .slice oa1 oa.length oc1] 34 (0, 0)) := by rw [hW4]; exact alloc_old (alloc_old (alloc_old (alloc_blk _ _ _ rfl)))
  have bB : W4.heap[w.heap.size + 1]? = some (.cells #[.int .i64 n, .slice lb1 lb.length ld1, .slice gb1 gb.length gd1, .slice ob1 ob.length od1] 34 (0, 0)) := by rw [hW4]; exact alloc_old (alloc_old (alloc_blk _ _ _ (by simp)))
  have bW : W4.heap[w.heap.size + 1 + 1]? = some (.cells #[.slice av u.length cv, .int .i64 sa, .int .i64 sb, .int .i64 du] 148 (0, 0)) := by rw [hW4]; exact alloc_old (alloc_blk _ _ _ (by simp))
  have bR : W4.heap[w.heap.size + 1 + 1 + 1]? = some (.cells #[.slice none 0 0, .int .i64 0, .int .i64 0, .int .i64 0] 148 (0, 0)) := by rw [hW4]; exact alloc_blk _ _ _ (by simp)
  have A0 : W4.cell? ⟨w.heap.size, 0, none⟩ = some (.int .i64 n) := by rw [cell_of_row _ _ _ _ _ _ bA]; rfl
  have A1 : W4.cell? ⟨w.heap.size, 1, none⟩ = some (.slice la1 la.length lc1) := by rw [cell_of_row _ _ _ _ _ _ bA]; rfl
  have A2 : W4.cell? ⟨w.heap.size, 2, none⟩ = some (.slice ga1 ga.length gc1) := by rw [cell_of_row _ _ _ _ _ _ bA]; rfl
  have A3 : W4.cell? ⟨w.heap.size, 3, none⟩ = some (.slice oa1 oa.length oc1) := by rw [cell_of_row _ _ _ _ _ _ bA]; rfl
  have C1 : W4.cell? ⟨w.heap.size + 1 + 1, 1, none⟩ = some (.int .i64 sa) := by rw [cell_of_row _ _ _ _ _ _ bW]; rfl
  go_enter Tryz.func89, Tryz.ntmps89
  go_upto_region 1 with fail
  rw [← hW4]
  clear hW4
  go_wp2_with fail
  refine (step_cir (ca.below B4) ka sa i hsa16 hi hxa hna).mono ?_
  rintro r w5 ⟨rfl, b5⟩
  have B5 : Below w.heap.size w w5 := B4.trans (b5.mono B4.size)
  have blk5 : ∀ k, k < W4.heap.size → w5.heap[k]? = W4.heap[k]? := b5.block
  have bB5 := (blk5 (w.heap.size + 1) (by omega)).trans bB
  have bW5 := (blk5 (w.heap.size + 1 + 1) (by omega)).trans bW
  have bR5 := (blk5 (w.heap.size + 1 + 1 + 1) (by omega)).trans bR
  have D0 : w5.cell? ⟨w.heap.size + 1, 0, none⟩ = some (.int .i64 n) := by rw [cell_of_row _ _ _ _ _ _ bB5]; rfl
  have D1 : w5.cell? ⟨w.heap.size + 1, 1, none⟩ = some (.slice lb1 lb.length ld1) := by rw [cell_of_row _ _ _ _ _ _ bB5]; rfl
  have D2 : w5.cell? ⟨w.heap.size + 1, 2, none⟩ = some (.slice gb1 gb.length gd1) := by rw [cell_of_row _ _ _ _ _ _ bB5]; rfl
  have D3 : w5.cell? ⟨w.heap.size + 1, 3, none⟩ = some (.slice ob1 ob.length od1) := by rw [cell_of_row _ _ _ _ _ _ bB5]; rfl
  have D4 : w5.cell? ⟨w.heap.size + 1 + 1, 2, none⟩ = some (.int .i64 sb) := by rw [cell_of_row _ _ _ _ _ _ bW5]; rfl
  clear A0 A1 A2 A3 C1 blk5 bA bB bW bR
  go_wp2_with fail
  refine (step_cir (cb.below B5) kb sb i hsb16 hi hxb hnb).mono ?_
  rintro r w6 ⟨rfl, b6⟩
  have s5 := b5.size
  have B6 : Below w.heap.size w w6 := B5.trans (b6.mono B5.size)
  have bW6 := (b6.block (w.heap.size + 1 + 1) (by omega)).trans bW5
  have bR6 := (b6.block (w.heap.size + 1 + 1 + 1) (by omega)).trans bR5
  have E0 : w6.cell? ⟨w.heap.size + 1 + 1, 0, none⟩ = some (.slice av u.length cv) := by rw [cell_of_row _ _ _ _ _ _ bW6]; rfl
  clear D0 D1 D2 D3 D4 bB5 bW5 bR5
  go_wp2_with fail
  refine (with_any X _ u i w6 (by omega) (hv.below B6)).mono ?_
  rintro r w7 ⟨v', rfl, hin, b7⟩
  have s6 := b6.size
  have B7 : Below w.heap.size w w7 := B6.trans (b7.mono B6.size)
  have bR7 := (b7.block (w.heap.size + 1 + 1 + 1) (by omega)).trans bR6
  have F0 : w7.cell? ⟨w.heap.size + 1 + 1 + 1, 0, none⟩ = some (.slice none 0 0) := by rw [cell_of_row _ _ _ _ _ _ bR7]; rfl
  have F1 : w7.cell? ⟨w.heap.size + 1 + 1 + 1, 1, none⟩ = some (.int .i64 0) := by rw [cell_of_row _ _ _ _ _ _ bR7]; rfl
  have F2 : w7.cell? ⟨w.heap.size + 1 + 1 + 1, 2, none⟩ = some (.int .i64 0) := by rw [cell_of_row _ _ _ _ _ _ bR7]; rfl
  have F3 : w7.cell? ⟨w.heap.size + 1 + 1 + 1, 3, none⟩ = some (.int .i64 0) := by rw [cell_of_row _ _ _ _ _ _ bR7]; rfl
  have G0 : w7.frozen? ⟨w.heap.size + 1 + 1 + 1, 0, none⟩ = false := frozen_of_row _ _ _ _ _ bR7
  have G1 : w7.frozen? ⟨w.heap.size + 1 + 1 + 1, 1, none⟩ = false := frozen_of_row _ _ _ _ _ bR7
  have G2 : w7.frozen? ⟨w.heap.size + 1 + 1 + 1, 2, none⟩ = false := frozen_of_row _ _ _ _ _ bR7
  have G3 : w7.frozen? ⟨w.heap.size + 1 + 1 + 1, 3, none⟩ = false := frozen_of_row _ _ _ _ _ bR7
  have HIN := hideW hin
  have hsl : ∃ a c, v' = .slice a (u.length + 1) c := by obtain ⟨a, c, e, _⟩ := hin (fun _ => False) (fun _ h => h.elim); exact ⟨a, c, by rw [e]; simp⟩
  clear hin
  obtain ⟨a7, c7, rfl⟩ := hsl
  go_wp2
  refine way_close (b := w.heap.size + 1 + 1 + 1) (box4_blkW bR7 _ _ _ _) (by rfl) ?_
  refine ⟨.slice a7 (u.length + 1) c7, ?_, fun Y hY => ?_, box4_below B7 (by omega) _ _ _ _⟩
  · unfold wayV
    rw [HR.out, HDf.out]
  · have K : Keeps (fun k => k = w.heap.size + 1 + 1 + 1) w7 (box4 w7 (w.heap.size + 1 + 1 + 1) (.slice a7 (u.length + 1) c7) (.int .i64 na) (.int .i64 nb) (.int .i64 ((xa ^^^ xb : Nat) : Int))) := box4_keeps _ _ _ _ _ _
    have h1 := HIN.out (fun k => Y k ∨ k = w.heap.size + 1 + 1 + 1) (fun k hk => by
      rcases hk with hk | hk
      · have := hY k hk; omega
      · omega)
    exact (h1.keeps K (fun k hk => .inr hk)).mono (fun k _ hk => .inl hk)

end Go.Proofs.YtgpaajdfkekjiaaGreatDoor

namespace Go.Proofs.YtgpaajdfkekjiaaGreatDoor
open Go.RowKit

/-- What of math/bits' table is read. -/
structure TabDB (w : World) : Prop where
  c0 : w.cell? ⟨1, 0, none⟩ = some (.int .u8 0)
  c1 : w.cell? ⟨1, 1, none⟩ = some (.int .u8 1)
  c3 : w.cell? ⟨1, 3, none⟩ = some (.int .u8 2)
  c7 : w.cell? ⟨1, 7, none⟩ = some (.int .u8 3)
theorem TabDB.lt {w : World} (h : TabDB w) : 1 < w.heap.size := World.block_lt_of_cell? _ _ h.c0
theorem TabDB.block {w w' : World} (h : TabDB w) (hb : w'.heap[1]? = w.heap[1]?) : TabDB w' :=
  ⟨(World.cell?_of_block (w := w) hb).trans h.c0, (World.cell?_of_block (w := w) hb).trans h.c1, (World.cell?_of_block (w := w) hb).trans h.c3, (World.cell?_of_block (w := w) hb).trans h.c7⟩
theorem TabDB.below {w w' : World} (h : TabDB w) (hb : Below w.heap.size w w') : TabDB w' := h.block (hb.block _ h.lt)

/-- The number of the lowest bit. -/
def tzN (d : Nat) : Nat := if d % 2 = 1 then 0 else if d % 4 = 2 then 1 else if d % 8 = 4 then 2 else 3

set_option maxHeartbeats 2000000 in
set_option maxRecDepth 100000 in
theorem tz64_any (d : Nat) (h1 : 1 ≤ d) (h2 : d < 16) (w : World) (h : TabDB w) :
    Calls Tryz.prog 108 #[.int .u64 d] w fun e w' => e = .returned (.int .i64 (tzN d : Nat)) ∧ w' = w := by
  have c0 := h.c0
  have c1 := h.c1
  have c3 := h.c3
  have c7 := h.c7
  have hd : d = 1 ∨ d = 2 ∨ d = 3 ∨ d = 4 ∨ d = 5 ∨ d = 6 ∨ d = 7 ∨ d = 8 ∨ d = 9 ∨ d = 10 ∨ d = 11 ∨ d = 12 ∨ d = 13 ∨ d = 14 ∨ d = 15 := by omega
  rcases hd with rfl | rfl | rfl | rfl | rfl | rfl | rfl | rfl | rfl | rfl | rfl | rfl | rfl | rfl | rfl
  · have hb : IntKind.u64.wrap (bits BinOp.and IntKind.u64 1 (IntKind.u64.wrap (-1)) * 285870213051353865) / 288230376151711744 = 0 := by decide +kernel
    go_enter Tryz.func108, Tryz.ntmps108
    go_wp2
    go_ret
    exact ⟨rfl, rfl⟩
  · have hb : IntKind.u64.wrap (bits BinOp.and IntKind.u64 2 (IntKind.u64.wrap (-2)) * 285870213051353865) / 288230376151711744 = 1 := by decide +kernel
    go_enter Tryz.func108, Tryz.ntmps108
    go_wp2
    go_ret
    exact ⟨rfl, rfl⟩
  · have hb : IntKind.u64.wrap (bits BinOp.and IntKind.u64 3 (IntKind.u64.wrap (-3)) * 285870213051353865) / 288230376151711744 = 0 := by decide +kernel
    go_enter Tryz.func108, Tryz.ntmps108
    go_wp2
    go_ret
    exact ⟨rfl, rfl⟩
  · have hb : IntKind.u64.wrap (bits BinOp.and IntKind.u64 4 (IntKind.u64.wrap (-4)) * 285870213051353865) / 288230376151711744 = 3 := by decide +kernel
    go_enter Tryz.func108, Tryz.ntmps108
    go_wp2
    go_ret
    exact ⟨rfl, rfl⟩
  · have hb : IntKind.u64.wrap (bits BinOp.and IntKind.u64 5 (IntKind.u64.wrap (-5)) * 285870213051353865) / 288230376151711744 = 0 := by decide +kernel
    go_enter Tryz.func108, Tryz.ntmps108
    go_wp2
    go_ret
    exact ⟨rfl, rfl⟩
  · have hb : IntKind.u64.wrap (bits BinOp.and IntKind.u64 6 (IntKind.u64.wrap (-6)) * 285870213051353865) / 288230376151711744 = 1 := by decide +kernel
    go_enter Tryz.func108, Tryz.ntmps108
    go_wp2
    go_ret
    exact ⟨rfl, rfl⟩
  · have hb : IntKind.u64.wrap (bits BinOp.and IntKind.u64 7 (IntKind.u64.wrap (-7)) * 285870213051353865) / 288230376151711744 = 0 := by decide +kernel
    go_enter Tryz.func108, Tryz.ntmps108
    go_wp2
    go_ret
    exact ⟨rfl, rfl⟩
  · have hb : IntKind.u64.wrap (bits BinOp.and IntKind.u64 8 (IntKind.u64.wrap (-8)) * 285870213051353865) / 288230376151711744 = 7 := by decide +kernel
    go_enter Tryz.func108, Tryz.ntmps108
    go_wp2
    go_ret
    exact ⟨rfl, rfl⟩
  · have hb : IntKind.u64.wrap (bits BinOp.and IntKind.u64 9 (IntKind.u64.wrap (-9)) * 285870213051353865) / 288230376151711744 = 0 := by decide +kernel
    go_enter Tryz.func108, Tryz.ntmps108
    go_wp2
    go_ret
    exact ⟨rfl, rfl⟩
  · have hb : IntKind.u64.wrap (bits BinOp.and IntKind.u64 10 (IntKind.u64.wrap (-10)) * 285870213051353865) / 288230376151711744 = 1 := by decide +kernel
    go_enter Tryz.func108, Tryz.ntmps108
    go_wp2
    go_ret
    exact ⟨rfl, rfl⟩
  · have hb : IntKind.u64.wrap (bits BinOp.and IntKind.u64 11 (IntKind.u64.wrap (-11)) * 285870213051353865) / 288230376151711744 = 0 := by decide +kernel
    go_enter Tryz.func108, Tryz.ntmps108
    go_wp2
    go_ret
    exact ⟨rfl, rfl⟩
  · have hb : IntKind.u64.wrap (bits BinOp.and IntKind.u64 12 (IntKind.u64.wrap (-12)) * 285870213051353865) / 288230376151711744 = 3 := by decide +kernel
    go_enter Tryz.func108, Tryz.ntmps108
    go_wp2
    go_ret
    exact ⟨rfl, rfl⟩
  · have hb : IntKind.u64.wrap (bits BinOp.and IntKind.u64 13 (IntKind.u64.wrap (-13)) * 285870213051353865) / 288230376151711744 = 0 := by decide +kernel
    go_enter Tryz.func108, Tryz.ntmps108
    go_wp2
    go_ret
    exact ⟨rfl, rfl⟩
  · have hb : IntKind.u64.wrap (bits BinOp.and IntKind.u64 14 (IntKind.u64.wrap (-14)) * 285870213051353865) / 288230376151711744 = 1 := by decide +kernel
    go_enter Tryz.func108, Tryz.ntmps108
    go_wp2
    go_ret
    exact ⟨rfl, rfl⟩
  · have hb : IntKind.u64.wrap (bits BinOp.and IntKind.u64 15 (IntKind.u64.wrap (-15)) * 285870213051353865) / 288230376151711744 = 0 := by decide +kernel
    go_enter Tryz.func108, Tryz.ntmps108
    go_wp2
    go_ret
    exact ⟨rfl, rfl⟩
theorem tz_any (d : Nat) (h1 : 1 ≤ d) (h2 : d < 16) (w : World) (h : TabDB w) :
    Calls Tryz.prog 87 #[.int .u64 d] w fun e w' => e = .returned (.int .i64 (tzN d : Nat)) ∧ w' = w := by
  go_enter Tryz.func87, Tryz.ntmps87
  go_wp2_with (go_at_call 108; refine (tz64_any d h1 h2 _ h).mono ?_; rintro e w' ⟨rfl, hw⟩; have hw := hw.symm; subst hw)
  go_ret
  exact ⟨rfl, rfl⟩

end Go.Proofs.YtgpaajdfkekjiaaGreatDoor
