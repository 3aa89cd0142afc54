/-
  What the program's reader does with the first line.
-/
import Derived.Test.YtgpaajdfkekjiaaGreatDoorRdOut
namespace Go.Proofs.YtgpaajdfkekjiaaGreatDoor
open Go.RowKit

theorem chain5 {w : World} {b : Nat} {u0 u1 u2 u3 u4 : Value} (v0 v1 v2 v3 v4 : Value) (h0 : w.cell? ⟨b, 0, none⟩ = some u0) (h1 : w.cell? ⟨b, 1, none⟩ = some u1) (h2 : w.cell? ⟨b, 2, none⟩ = some u2) (h3 : w.cell? ⟨b, 3, none⟩ = some u3) (h4 : w.cell? ⟨b, 4, none⟩ = some u4) (W : World)
    (hW : W = ((((w.setCell ⟨b, 0, none⟩ v0).setCell ⟨b, 1, none⟩ v1).setCell ⟨b, 2, none⟩ v2).setCell ⟨b, 3, none⟩ v3).setCell ⟨b, 4, none⟩ v4) :
    W.cell? ⟨b, 0, none⟩ = some v0 ∧ W.cell? ⟨b, 1, none⟩ = some v1 ∧ W.cell? ⟨b, 2, none⟩ = some v2 ∧ W.cell? ⟨b, 3, none⟩ = some v3 ∧ W.cell? ⟨b, 4, none⟩ = some v4 := by
  have o : ∀ (w : World) (i j : Nat) (v : Value), j ≠ i → (w.setCell ⟨b, i, none⟩ v).cell? ⟨b, j, none⟩ = w.cell? ⟨b, j, none⟩ := fun w i j v h => World.cell?_setCell_other _ _ _ _ (fun e => h (by injection e; omega))
  have s : ∀ (w : World) (i : Nat) (v u : Value), w.cell? ⟨b, i, none⟩ = some u → (w.setCell ⟨b, i, none⟩ v).cell? ⟨b, i, none⟩ = some v := fun w i v u h => World.cell?_setCell_same' _ _ _ (by rw [h]; rfl)
  subst hW
  refine ⟨?_, ?_, ?_, ?_, ?_⟩
  · rw [o _ 4 0 _ (by omega), o _ 3 0 _ (by omega), o _ 2 0 _ (by omega), o _ 1 0 _ (by omega)]
    exact s _ 0 _ _ h0
  · rw [o _ 4 1 _ (by omega), o _ 3 1 _ (by omega), o _ 2 1 _ (by omega)]
    exact s _ 1 _ _ (by rw [o _ 0 1 _ (by omega)]; exact h1)
  · rw [o _ 4 2 _ (by omega), o _ 3 2 _ (by omega)]
    exact s _ 2 _ _ (by rw [o _ 1 2 _ (by omega), o _ 0 2 _ (by omega)]; exact h2)
  · rw [o _ 4 3 _ (by omega)]
    exact s _ 3 _ _ (by rw [o _ 2 3 _ (by omega), o _ 1 3 _ (by omega), o _ 0 3 _ (by omega)]; exact h3)
  · exact s _ 4 _ _ (by rw [o _ 3 4 _ (by omega), o _ 2 4 _ (by omega), o _ 1 4 _ (by omega), o _ 0 4 _ (by omega)]; exact h4)

set_option maxHeartbeats 1000000 in
theorem head_results {w : World} {b : Nat} {tmps : Array Value} {v0 v1 v2 v3 v4 x : Value} (h : w.cell? ⟨b, 0, none⟩ = some v0 ∧ w.cell? ⟨b, 1, none⟩ = some v1 ∧ w.cell? ⟨b, 2, none⟩ = some v2 ∧ w.cell? ⟨b, 3, none⟩ = some v3 ∧ w.cell? ⟨b, 4, none⟩ = some v4)
    (h2 : tmps[2]?.getD undef = .pointer (some ⟨b, 0, none⟩)) (h3 : tmps[3]?.getD undef = x) :
    (results Tryz.f39 tmps).run Tryz.prog w = .ok (.tuple #[.agg #[v0, v1, v2, v3, v4], x]) w := by
  obtain ⟨c0, c1, c2, c3, c4⟩ := h
  simp [results, Tryz.results39, go_sem, h2, h3, c0, c1, c2, c3, c4]

def box5 (w : World) (b : Nat) (v0 v1 v2 v3 v4 : Value) : World := ((((w.setCell ⟨b, 0, none⟩ v0).setCell ⟨b, 1, none⟩ v1).setCell ⟨b, 2, none⟩ v2).setCell ⟨b, 3, none⟩ v3).setCell ⟨b, 4, none⟩ v4
theorem head_close {tmps : Array Value} {Q : Ending → World → Prop} {w : World} {b : Nat} {v0 v1 v2 v3 v4 x u0 u1 u2 u3 u4 : Value} (h0 : w.cell? ⟨b, 0, none⟩ = some u0) (h1 : w.cell? ⟨b, 1, none⟩ = some u1) (h2 : w.cell? ⟨b, 2, none⟩ = some u2) (h3 : w.cell? ⟨b, 3, none⟩ = some u3) (h4 : w.cell? ⟨b, 4, none⟩ = some u4)
    (t2 : tmps[2]?.getD undef = .pointer (some ⟨b, 0, none⟩)) (t3 : tmps[3]?.getD undef = x) (hQ : Q (.returned (.tuple #[.agg #[v0, v1, v2, v3, v4], x])) (box5 w b v0 v1 v2 v3 v4)) :
    bodyPost Tryz.prog Tryz.f39 Q Exit.ret ⟨tmps, []⟩ (((((w.setCell ⟨b, 0, none⟩ v0).setCell ⟨b, 1, none⟩ v1).setCell ⟨b, 2, none⟩ v2).setCell ⟨b, 3, none⟩ v3).setCell ⟨b, 4, none⟩ v4) :=
  bodyPost_ret (head_results (chain5 v0 v1 v2 v3 v4 h0 h1 h2 h3 h4 _ rfl) t2 t3) rfl hQ
theorem StepRes.box5 {st : St} {line rb : Nat} {w w2 : World} {ok : St → Prop} {no : Prop} (h : StepRes st line rb w w2 ok no) {b : Nat} (hb : w.heap.size ≤ b) (hne : b ≠ rb) (v0 v1 v2 v3 v4 : Value) : StepRes st line rb w (box5 w2 b v0 v1 v2 v3 v4) ok no := by
  obtain ⟨sp, h⟩ := h
  refine ⟨((((sp.setNew hb v0).setNew hb v1).setNew hb v2).setNew hb v3).setNew hb v4, ?_⟩
  rcases h with ⟨st', h1, h2, h3⟩ | ⟨R', h1, h2, h3⟩
  · exact .inl ⟨st', h1, ((((h2.set_other hne v0).set_other hne v1).set_other hne v2).set_other hne v3).set_other hne v4, h3⟩
  · exact .inr ⟨R', h1, ((((h2.set_other hne v0).set_other hne v1).set_other hne v2).set_other hne v3).set_other hne v4, h3⟩

set_option maxHeartbeats 4000000 in
set_option maxRecDepth 100000 in
theorem rdHead_any (line rb : Nat) (R : List UInt8) (w : World) (hL : Lib0 w) (hg : ¬ isGlob rb) (hr : RdAt w rb R line) (hR : R.length ≤ 1000) (hl : line ≤ 100) :
    Calls Tryz.prog 39 #[.pointer (some ⟨rb, 0, none⟩)] w fun e w' =>
      StepRes (st0 R) line rb w w' (fun st' => ∃ h : Hd, h.Ok ∧ st' = ⟨some h, 0, [], [], [], st'.rest⟩ ∧ e = .returned (.tuple #[.agg #[.int .i64 ((h.n : Int) + h.l + h.g), .int .i64 h.n, .int .i64 h.l, .int .i64 h.o, .int .i64 h.g], .bool true])) (∃ a b c d f : Int, e = .returned (.tuple #[.agg #[.int .i64 a, .int .i64 b, .int .i64 c, .int .i64 d, .int .i64 f], .bool false])) := by
  obtain ⟨W0, hW0⟩ : ∃ W0, W0 = w.alloc (.cells #[.int .i64 0, .int .i64 0, .int .i64 0, .int .i64 0, .int .i64 0] 91) := ⟨_, rfl⟩
  have b0 : Below w.heap.size w W0 := by rw [hW0]; exact (Below.refl _ _).alloc (Nat.le_refl _) _
  have s0 : W0.heap.size = w.heap.size + 1 := by rw [hW0]; simp
  have bx : W0.heap[w.heap.size]? = some (.cells #[.int .i64 0, .int .i64 0, .int .i64 0, .int .i64 0, .int .i64 0] 91 (0, 0)) := by rw [hW0]; exact heap_alloc_new _ _
  have hne : w.heap.size ≠ rb := by have := hr.lt; omega
  have hn := numbers_any aag R 5 line rb W0 (hL.below b0) hg (hr.below b0) hR (by simp [aag]) (by simp [aag]) (by omega) (by omega) hl
  rw [hW0] at hn
  go_enter Tryz.func39, Tryz.ntmps39
  go_wp2_with fail
  refine hn.mono ?_
  rw [← hW0]
  rintro e w1 ⟨sp0, hres⟩
  have bx1 : w1.heap[w.heap.size]? = some (.cells #[.int .i64 0, .int .i64 0, .int .i64 0, .int .i64 0, .int .i64 0] 91 (0, 0)) := (sp0.block w.heap.size (by omega) (by omega)).trans bx
  have sp : Span rb (rb + 1) w w1 := (Span.of_below b0).trans sp0
  have q0 : w1.cell? ⟨w.heap.size, 0, none⟩ = some (.int .i64 0) := by rw [cell_of_row _ _ _ _ _ _ bx1]; rfl
  have q1 : w1.cell? ⟨w.heap.size, 1, none⟩ = some (.int .i64 0) := by rw [cell_of_row _ _ _ _ _ _ bx1]; rfl
  have q2 : w1.cell? ⟨w.heap.size, 2, none⟩ = some (.int .i64 0) := by rw [cell_of_row _ _ _ _ _ _ bx1]; rfl
  have q3 : w1.cell? ⟨w.heap.size, 3, none⟩ = some (.int .i64 0) := by rw [cell_of_row _ _ _ _ _ _ bx1]; rfl
  have q4 : w1.cell? ⟨w.heap.size, 4, none⟩ = some (.int .i64 0) := by rw [cell_of_row _ _ _ _ _ _ bx1]; rfl
  have qf0 : w1.frozen? ⟨w.heap.size, 0, none⟩ = false := frozen_of_row _ _ _ _ _ bx1
  have qf1 : w1.frozen? ⟨w.heap.size, 1, none⟩ = false := frozen_of_row _ _ _ _ _ bx1
  have qf2 : w1.frozen? ⟨w.heap.size, 2, none⟩ = false := frozen_of_row _ _ _ _ _ bx1
  have qf3 : w1.frozen? ⟨w.heap.size, 3, none⟩ = false := frozen_of_row _ _ _ _ _ bx1
  have qf4 : w1.frozen? ⟨w.heap.size, 4, none⟩ = false := frozen_of_row _ _ _ _ _ bx1
  clear hn hW0
  rcases hres with ⟨ns, g, R', got, hbd, rd, hlen, rfl, hge, hrow⟩ | ⟨R', hno, rd, rfl⟩
  · have hl5 : ns.length = 5 := got.1
    have c0 := upTo_cell hrow 0 (by omega)
    have c1 := upTo_cell hrow 1 (by omega)
    have c2 := upTo_cell hrow 2 (by omega)
    have c3 := upTo_cell hrow 3 (by omega)
    have c4 := upTo_cell hrow 4 (by omega)
    have hst := stepHead_got got
    have y0 := getD_lt (k := 0) hbd
    have y1 := getD_lt (k := 1) hbd
    have y2 := getD_lt (k := 2) hbd
    have y3 := getD_lt (k := 3) hbd
    have y4 := getD_lt (k := 4) hbd
    obtain ⟨x0, hx0⟩ : ∃ x, x = ns.getD 0 0 := ⟨_, rfl⟩
    obtain ⟨x1, hx1⟩ : ∃ x, x = ns.getD 1 0 := ⟨_, rfl⟩
    obtain ⟨x2, hx2⟩ : ∃ x, x = ns.getD 2 0 := ⟨_, rfl⟩
    obtain ⟨x3, hx3⟩ : ∃ x, x = ns.getD 3 0 := ⟨_, rfl⟩
    obtain ⟨x4, hx4⟩ : ∃ x, x = ns.getD 4 0 := ⟨_, rfl⟩
    rw [← hx0] at c0 hst y0
    rw [← hx1] at c1 hst y1
    rw [← hx2] at c2 hst y2
    rw [← hx3] at c3 hst y3
    rw [← hx4] at c4 hst y4
    rw [hl5]
    have glt : g < w1.heap.size := hrow.lt
    have hlw : w.heap.size < w1.heap.size := by have := sp0.size; omega
    clear hx0 hx1 hx2 hx3 hx4 hr hL hl hR b0 bx bx1 sp0 hg s0 hge hrow hbd got
    go_wp2_with fail
    go_region_held3 (fun w' => w'.cell? ⟨g, 0, none⟩ = some (.int .i64 x0) ∧ w'.cell? ⟨g, 1, none⟩ = some (.int .i64 x1) ∧ w'.cell? ⟨g, 2, none⟩ = some (.int .i64 x2) ∧ w'.cell? ⟨g, 3, none⟩ = some (.int .i64 x3) ∧ w'.cell? ⟨g, 4, none⟩ = some (.int .i64 x4)) (first | (simp [go_sem, c0, c1, c2, c3, c4]; done) | (simp [go_sem, World.cell?_alloc_past, glt, c0, c1, c2, c3, c4]; done)) (first | fail | fail)
    go_wp2_with fail
    obtain ⟨W2, hW2⟩ : ∃ W2, W2 = (w1.alloc (.cells #[.int .i64 x0, .int .i64 x1, .int .i64 x2, .int .i64 x3, .int .i64 x4] 91)).drew := ⟨_, rfl⟩
    have b2 : Below w1.heap.size w1 W2 := by rw [hW2]; exact ((Below.refl _ _).alloc (Nat.le_refl _) _).drew
    have bh : W2.heap[w1.heap.size]? = some (.cells #[.int .i64 x0, .int .i64 x1, .int .i64 x2, .int .i64 x3, .int .i64 x4] 91 (0, 0)) := by rw [hW2]; exact heap_alloc_new _ _
    rw [← hW2]
    have k0 : W2.cell? ⟨w1.heap.size, 0, none⟩ = some (.int .i64 x0) := by rw [cell_of_row _ _ _ _ _ _ bh]; rfl
    have k1 : W2.cell? ⟨w1.heap.size, 1, none⟩ = some (.int .i64 x1) := by rw [cell_of_row _ _ _ _ _ _ bh]; rfl
    have k2 : W2.cell? ⟨w1.heap.size, 2, none⟩ = some (.int .i64 x2) := by rw [cell_of_row _ _ _ _ _ _ bh]; rfl
    have k3 : W2.cell? ⟨w1.heap.size, 3, none⟩ = some (.int .i64 x3) := by rw [cell_of_row _ _ _ _ _ _ bh]; rfl
    have k4 : W2.cell? ⟨w1.heap.size, 4, none⟩ = some (.int .i64 x4) := by rw [cell_of_row _ _ _ _ _ _ bh]; rfl
    have r0 := (b2.cell (p := ⟨w.heap.size, 0, none⟩) hlw).trans q0
    have r1 := (b2.cell (p := ⟨w.heap.size, 1, none⟩) hlw).trans q1
    have r2 := (b2.cell (p := ⟨w.heap.size, 2, none⟩) hlw).trans q2
    have r3 := (b2.cell (p := ⟨w.heap.size, 3, none⟩) hlw).trans q3
    have r4 := (b2.cell (p := ⟨w.heap.size, 4, none⟩) hlw).trans q4
    have s0 := (b2.frozen (p := ⟨w.heap.size, 0, none⟩) hlw).trans qf0
    have s1 := (b2.frozen (p := ⟨w.heap.size, 1, none⟩) hlw).trans qf1
    have s2 := (b2.frozen (p := ⟨w.heap.size, 2, none⟩) hlw).trans qf2
    have s3 := (b2.frozen (p := ⟨w.heap.size, 3, none⟩) hlw).trans qf3
    have s4 := (b2.frozen (p := ⟨w.heap.size, 4, none⟩) hlw).trans qf4
    have sp2 := sp.trans (Span.of_below b2)
    have rd2 := rd.below b2
    clear q0 q1 q2 q3 q4 qf0 qf1 qf2 qf3 qf4 c0 c1 c2 c3 c4 hW2 bh glt
    cases hs : sizesB (x1 : Int) x2 x3 x4
    · have hno : ¬ (x1 ≤ 4 ∧ x2 ≤ 4 ∧ x3 ≤ 4 ∧ x4 ≤ 30 ∧ x0 = x1 + x2 + x4) := fun e => by
        have : sizesB (x1 : Int) x2 x3 x4 = true := by
          simp only [sizesB, Bool.and_eq_true]
          exact ⟨⟨⟨inB_mk (by omega) (by omega), inB_mk (by omega) (by omega)⟩, inB_mk (by omega) (by omega)⟩, inB_mk (by omega) (by omega)⟩
        rw [this] at hs; cases hs
      rw [if_neg hno] at hst
      refine (sizes_is _ hs).mono ?_
      rintro e w' ⟨rfl, hw⟩
      have hw := hw.symm
      subst hw
      clear hno hs
      go_wp2
      refine head_close (x := .bool false) r0 r1 r2 r3 r4 rfl rfl ?_
      exact StepRes.box5 ⟨sp2, .inr ⟨_, hst, rd2, _, _, _, _, _, rfl⟩⟩ (Nat.le_refl _) hne _ _ _ _ _
    · obtain ⟨z1, z2, z3, z4, z5⟩ := sizesB_pos hs
      refine (sizes_is _ hs).mono ?_
      rintro e w' ⟨rfl, hw⟩
      have hw := hw.symm
      subst hw
      have hok : Hd.Ok ⟨x1, x2, x3, x4⟩ := ⟨show x1 ≤ 4 by omega, show x2 ≤ 4 by omega, show x3 ≤ 4 by omega, show x4 ≤ 30 by omega⟩
      by_cases he : x0 = x1 + x2 + x4
      · rw [if_pos ⟨by omega, by omega, by omega, by omega, he⟩] at hst
        subst he
        go_wp2
        refine head_close (x := .bool true) r0 r1 r2 r3 r4 rfl rfl ?_
        exact StepRes.box5 ⟨sp2, .inl ⟨_, hst, rd2, hlen, ⟨x1, x2, x3, x4⟩, hok, rfl, rfl⟩⟩ (Nat.le_refl _) hne _ _ _ _ _
      · rw [if_neg (fun e => he e.2.2.2.2)] at hst
        have he' : ¬ (x0 : Int) = (x1 : Int) + x2 + x4 := by omega
        go_wp2
        refine head_close (x := .bool false) r0 r1 r2 r3 r4 rfl (by simp [he']) ?_
        exact StepRes.box5 ⟨sp2, .inr ⟨_, hst, rd2, _, _, _, _, _, rfl⟩⟩ (Nat.le_refl _) hne _ _ _ _ _
  · go_wp2
    refine head_close (x := .bool false) q0 q1 q2 q3 q4 rfl rfl ?_
    exact StepRes.box5 ⟨sp, .inr ⟨_, stepHead_no hno, rd, _, _, _, _, _, rfl⟩⟩ (Nat.le_refl _) hne _ _ _ _ _

end Go.Proofs.YtgpaajdfkekjiaaGreatDoor
