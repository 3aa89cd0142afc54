/-
  The book's one, at a call of Write: it answers true; nothing that was there is written.
-/
import Derived.Test.YtgpaajdfkekjiaaGreatDoorOneRun
import Derived.Test.YtgpaajdfkekjiaaGreatDoorWrAll
namespace Go.Proofs.YtgpaajdfkekjiaaGreatDoor
open Go.RowKit

set_option maxHeartbeats 2000000 in
set_option maxRecDepth 100000 in
theorem one_write (S : Nat → Prop) (P : Nat) (hv : Value) (es : List Entry) (sv : Value) (n : Int) (la ga oa : Option Addr) (lc gc oc : Nat) (ls gs : List (Int × Int)) (os : List Int) (w : World)
    (hB : BookAt S w P hv es) (hS : ∀ k, S k → k < w.heap.size)
    (hml : ls.length * 16 ≤ 140737488351232) (hmg : gs.length * 16 ≤ 140737488351232) (hmo : os.length * 8 ≤ 140737488351232)
    (hL : PairsAt w la ls) (hG : PairsAt w ga gs) (hO : IntsAt w oa os)
    (fL : ∀ i, i < ls.length → Fits (ls.getD i (0, 0)).1) (fG : ∀ i, i < gs.length → Fits (gs.getD i (0, 0)).1 ∧ Fits (gs.getD i (0, 0)).2) (fO : ∀ i, i < os.length → Fits (os.getD i 0)) :
    Calls Tryz.prog 13 #[.pointer (some ⟨P, 0, none⟩), .agg #[.int .i64 2, sv, .int .i64 n, .slice la ls.length lc, .slice ga gs.length gc, .slice oa os.length oc, .int .i64 0, .slice none 0 0, .slice none 0 0, .slice none 0 0, .slice none 0 0, .int .i64 0]] w fun e w' =>
      e = .returned (.bool true) ∧ Keeps S w w' := by
  obtain ⟨W0, hW0⟩ : ∃ W0, W0 = w.alloc (.cells #[.int .i64 2, sv, .int .i64 n, .slice la ls.length lc, .slice ga gs.length gc, .slice oa os.length oc, .int .i64 0, .slice none 0 0, .slice none 0 0, .slice none 0 0, .slice none 0 0, .int .i64 0] 42) := ⟨_, rfl⟩
  have b0 : Below w.heap.size w W0 := by rw [hW0]; exact (Below.refl _ _).alloc (Nat.le_refl _) _
  have s0 : W0.heap.size = w.heap.size + 1 := by rw [hW0]; simp
  have C0 : ∀ i, W0.cell? ⟨w.heap.size, i, none⟩ = #[.int .i64 2, sv, .int .i64 n, .slice la ls.length lc, .slice ga gs.length gc, .slice oa os.length oc, .int .i64 0, .slice none 0 0, .slice none 0 0, .slice none 0 0, .slice none 0 0, .int .i64 0][i]? := fun i => by rw [hW0]; exact cell_of_row _ _ _ _ _ _ (heap_alloc_new _ _)
  have hd := handed_any n la ga oa lc gc oc ls gs os W0 hml hmg hmo (hL.below b0) (hG.below b0) (hO.below b0)
  rw [hW0] at hd
  have HC0 : Hid (∀ i, W0.cell? ⟨w.heap.size, i, none⟩ = #[.int .i64 2, sv, .int .i64 n, .slice la ls.length lc, .slice ga gs.length gc, .slice oa os.length oc, .int .i64 0, .slice none 0 0, .slice none 0 0, .slice none 0 0, .slice none 0 0, .int .i64 0][i]?) := C0
  have HS0 : Hid (W0.heap.size = w.heap.size + 1) := s0
  have HSS : Hid (∀ k, S k → k < w.heap.size) := hS
  clear C0 s0 hS
  go_enter Tryz.func13, Tryz.ntmps13
  go_wp2_with fail
  refine hd.mono ?_
  rw [← hW0]
  rintro e w1 ⟨xl, xg, xo, rfl, hxl, hx1, hx2, rxL, rxG, rxO, b1⟩
  clear hd hW0
  have C1 := row_keep HC0.out (by rw [HS0.out]; omega) b1
  have z1 : w.heap.size < w1.heap.size := Nat.lt_of_lt_of_le (by rw [HS0.out]; omega) b1.size
  have a6 := C1 6
  have a7 := C1 7
  have a8 := C1 8
  have a9 := C1 9
  have HC1 : Hid (∀ i, w1.cell? ⟨w.heap.size, i, none⟩ = #[.int .i64 2, sv, .int .i64 n, .slice la ls.length lc, .slice ga gs.length gc, .slice oa os.length oc, .int .i64 0, .slice none 0 0, .slice none 0 0, .slice none 0 0, .slice none 0 0, .int .i64 0][i]?) := C1
  clear C1
  go_wp2_with fail
  refine (handed_zero _).mono ?_
  rintro e w2 ⟨yl, yg, yo, rfl, hyl, hy1, hy2, ryL, ryG, ryO, b2⟩
  have B12 := alloc_then b2
  have HX2 : Hid (∀ i, w2.cell? ⟨w1.heap.size, i, none⟩ = #[.int .i64 n, .slice (some ⟨xl, 0, none⟩) ls.length (ls.length + 8), .slice (some ⟨xg, 0, none⟩) gs.length (gs.length + 8), .slice (some ⟨xo, 0, none⟩) os.length (os.length + 8)][i]?) := box_cells b2
  have HC2 : Hid (∀ i, w2.cell? ⟨w.heap.size, i, none⟩ = #[.int .i64 2, sv, .int .i64 n, .slice la ls.length lc, .slice ga gs.length gc, .slice oa os.length oc, .int .i64 0, .slice none 0 0, .slice none 0 0, .slice none 0 0, .slice none 0 0, .int .i64 0][i]?) := row_keep HC1.out z1 B12
  have hyl' : w1.heap.size + 1 ≤ yl := by simpa using hyl
  have z2 : w1.heap.size < w2.heap.size := Nat.lt_of_lt_of_le (by simp) b2.size
  have B02 : Below w.heap.size w w2 := (b0.trans (b1.mono (by rw [HS0.out]; omega))).trans (B12.mono (by omega))
  have y2 : w.heap.size < w2.heap.size := by omega
  have a10 := HC2.out 10
  clear a6 a7 a8 a9 b2 hyl
  go_wp2_with fail
  refine (handedInts_any none 0 [] _ (by simp) (.inl rfl)).mono ?_
  rintro e w3 ⟨zi, rfl, hzi, rzI, b3⟩
  have B23 := alloc_then b3
  have HY3 : Hid (∀ i, w3.cell? ⟨w2.heap.size, i, none⟩ = #[.int .i64 0, .slice (some ⟨yl, 0, none⟩) 0 8, .slice (some ⟨yg, 0, none⟩) 0 8, .slice (some ⟨yo, 0, none⟩) 0 8][i]?) := box_cells b3
  have HC3 : Hid (∀ i, w3.cell? ⟨w.heap.size, i, none⟩ = #[.int .i64 2, sv, .int .i64 n, .slice la ls.length lc, .slice ga gs.length gc, .slice oa os.length oc, .int .i64 0, .slice none 0 0, .slice none 0 0, .slice none 0 0, .slice none 0 0, .int .i64 0][i]?) := row_keep HC2.out (by omega) B23
  have HX3 : Hid (∀ i, w3.cell? ⟨w1.heap.size, i, none⟩ = #[.int .i64 n, .slice (some ⟨xl, 0, none⟩) ls.length (ls.length + 8), .slice (some ⟨xg, 0, none⟩) gs.length (gs.length + 8), .slice (some ⟨xo, 0, none⟩) os.length (os.length + 8)][i]?) := row_keep HX2.out z2 B23
  have hzi' : w2.heap.size + 1 ≤ zi := by simpa using hzi
  have z3 : w2.heap.size < w3.heap.size := Nat.lt_of_lt_of_le (by simp) b3.size
  have B03 : Below w.heap.size w w3 := B02.trans (B23.mono (by omega))
  have B13 : Below w1.heap.size w1 w3 := B12.trans (B23.mono (by omega))
  have y3 : w.heap.size < w3.heap.size := by omega
  have yx3 : w1.heap.size < w3.heap.size := by omega
  have c0 := HC3.out 0
  have x0 := HX3.out 0
  have x1 := HX3.out 1
  have x2 := HX3.out 2
  have x3 := HX3.out 3
  have rxL3 := rowIs_below rxL B13
  have rxG3 := rowIs_below rxG B13
  have rxO3 := rowIs_below rxO B13
  have ryL3 := rowIs_below ryL B23
  have ryG3 := rowIs_below ryG B23
  have ryO3 := rowIs_below ryO B23
  have tops : xo < w1.heap.size ∧ yo < w2.heap.size ∧ zi < w3.heap.size := ⟨rxO.lt, ryO.lt, rzI.lt⟩
  clear a10 b3 hzi HX2 HC2 rxL rxG rxO ryL ryG ryO
  go_wp2_with fail
  refine (write_all n (some ⟨xl, 0, none⟩) (some ⟨xg, 0, none⟩) (some ⟨xo, 0, none⟩) _ _ _ ls gs os _ (row_pairs rxL3) (row_pairs rxG3) (row_ints rxO3)).mono ?_
  rintro e w4 ⟨rfl, b4⟩
  have HC4 : Hid (∀ i, w4.cell? ⟨w.heap.size, i, none⟩ = #[.int .i64 2, sv, .int .i64 n, .slice la ls.length lc, .slice ga gs.length gc, .slice oa os.length oc, .int .i64 0, .slice none 0 0, .slice none 0 0, .slice none 0 0, .slice none 0 0, .int .i64 0][i]?) := row_keep HC3.out (by omega) b4
  have B04 : Below w.heap.size w w4 := B03.trans (b4.mono (by omega))
  have c2 := HC4.out 2
  have c3 := HC4.out 3
  have c4 := HC4.out 4
  have c5 := HC4.out 5
  clear c0 x0 x1 x2 x3
  go_wp2_with fail
  refine (refWrite_all n la ga oa lc gc oc ls gs os _ (hL.below B04) (hG.below B04) (hO.below B04) fL fG fO).mono ?_
  rintro e w7 ⟨rfl, b5⟩
  clear c2 c3 c4 c5
  have B37 : Below w3.heap.size w3 w7 := b4.trans (b5.mono b4.size)
  have B07 : Below w.heap.size w w7 := B04.trans (b5.mono (by have := b4.size; omega))
  have s37 : w3.heap.size ≤ w7.heap.size := B37.size
  have hB7 : BookAt S w7 P hv es := hB.keeps (T := fun k => w.heap.size ≤ k) ⟨B07.os, B07.tape, B07.output, B07.size, fun k hk _ => B07.block k hk⟩ (fun k hk => by have := HSS.out k hk; omega)
  have HC7 : Hid (∀ i, w7.cell? ⟨w.heap.size, i, none⟩ = #[.int .i64 2, sv, .int .i64 n, .slice la ls.length lc, .slice ga gs.length gc, .slice oa os.length oc, .int .i64 0, .slice none 0 0, .slice none 0 0, .slice none 0 0, .slice none 0 0, .int .i64 0][i]?) := row_keep HC3.out (by omega) B37
  have HX7 : Hid (∀ i, w7.cell? ⟨w1.heap.size, i, none⟩ = #[.int .i64 n, .slice (some ⟨xl, 0, none⟩) ls.length (ls.length + 8), .slice (some ⟨xg, 0, none⟩) gs.length (gs.length + 8), .slice (some ⟨xo, 0, none⟩) os.length (os.length + 8)][i]?) := row_keep HX3.out (by omega) B37
  have HY7 : Hid (∀ i, w7.cell? ⟨w2.heap.size, i, none⟩ = #[.int .i64 0, .slice (some ⟨yl, 0, none⟩) 0 8, .slice (some ⟨yg, 0, none⟩) 0 8, .slice (some ⟨yo, 0, none⟩) 0 8][i]?) := row_keep HY3.out (by omega) B37
  have rxL7 := rowIs_below rxL3 B37
  have rxG7 := rowIs_below rxG3 B37
  have rxO7 := rowIs_below rxO3 B37
  have ryL7 := rowIs_below ryL3 B37
  have ryG7 := rowIs_below ryG3 B37
  have ryO7 := rowIs_below ryO3 B37
  have rzI7 := rowIs_below rzI B37
  have hxl' : w.heap.size + 1 ≤ xl := by rw [HS0.out] at hxl; exact hxl
  have hL7 : PairsIn xl w7 la ls := ((hL.into).below B07).mono (by omega)
  have hG7 : PairsIn xl w7 ga gs := ((hG.into).below B07).mono (by omega)
  have hO7 : IntsIn xl w7 oa os := ((hO.into).below B07).mono (by omega)
  have K07 : Keeps S w w7 := ⟨B07.os, B07.tape, B07.output, B07.size, fun k hk _ => B07.block k hk⟩
  have x0 := HX7.out 0
  have x1 := HX7.out 1
  have x2 := HX7.out 2
  have x3 := HX7.out 3
  have c2 := HC7.out 2
  have c3 := HC7.out 3
  have c4 := HC7.out 4
  have c5 := HC7.out 5
  clear HC3 HX3 HY3 HC4 rxL3 rxG3 rxO3 ryL3 ryG3 ryO3 rzI HC1 HC0
  go_wp2_with (go_at_call 14; refine (num_any _ _).mono ?_; rintro e w' ⟨rfl, hw⟩; have hw := hw.symm; subst hw)
  refine (untouched_any n la ga oa lc gc oc xl xg xo ls gs os _ hml hmg hmo hL7 hG7 hO7 hx1 hx2 rxL7 rxG7 rxO7).mono ?_
  rintro e w8 ⟨rfl, sp8⟩
  have K8 := Keeps.of_span sp8
  have HC8 : Hid (∀ i, w8.cell? ⟨w.heap.size, i, none⟩ = #[.int .i64 2, sv, .int .i64 n, .slice la ls.length lc, .slice ga gs.length gc, .slice oa os.length oc, .int .i64 0, .slice none 0 0, .slice none 0 0, .slice none 0 0, .slice none 0 0, .int .i64 0][i]?) := row_keeps HC7.out (by omega) K8 (by omega)
  have HY8 : Hid (∀ i, w8.cell? ⟨w2.heap.size, i, none⟩ = #[.int .i64 0, .slice (some ⟨yl, 0, none⟩) 0 8, .slice (some ⟨yg, 0, none⟩) 0 8, .slice (some ⟨yo, 0, none⟩) 0 8][i]?) := row_keeps HY7.out (by omega) K8 (by omega)
  have ryL8 := rowIs_keeps ryL7 K8 (by omega)
  have ryG8 := rowIs_keeps ryG7 K8 (by omega)
  have ryO8 := rowIs_keeps ryO7 K8 (by omega)
  have rzI8 := rowIs_keeps rzI7 K8 (by omega)
  have s78 : w7.heap.size ≤ w8.heap.size := K8.size
  have sev : ∀ lo hi, w.heap.size < lo → hi ≤ w3.heap.size → ∀ k, S k → ¬ (lo ≤ k ∧ k < hi) := fun lo hi h1 h2 k hk h => by
    have := HSS.out k hk; omega
  have hB8 := hB7.keeps K8 (sev _ _ (by omega) (by omega))
  have y0 := HY8.out 0
  have y1 := HY8.out 1
  have y2' := HY8.out 2
  have y3' := HY8.out 3
  have c6 := HC8.out 6
  have c7 := HC8.out 7
  have c8 := HC8.out 8
  have c9 := HC8.out 9
  clear x0 x1 x2 x3 c2 c3 c4 c5 hL7 hG7 hO7 rxL7 rxG7 rxO7 hB7 ryL7 ryG7 ryO7 rzI7
  go_wp2_with fail
  refine (untouched_zero yl yg yo _ hy1 hy2 ryL8 ryG8 ryO8).mono ?_
  rintro e w9 ⟨rfl, sp9⟩
  have K9 := Keeps.of_span sp9
  have HC9 : Hid (∀ i, w9.cell? ⟨w.heap.size, i, none⟩ = #[.int .i64 2, sv, .int .i64 n, .slice la ls.length lc, .slice ga gs.length gc, .slice oa os.length oc, .int .i64 0, .slice none 0 0, .slice none 0 0, .slice none 0 0, .slice none 0 0, .int .i64 0][i]?) := row_keeps HC8.out (by omega) K9 (by omega)
  have rzI9 := rowIs_keeps rzI8 K9 (by omega)
  have s89 : w8.heap.size ≤ w9.heap.size := K9.size
  have hB9 := hB8.keeps K9 (sev _ _ (by omega) (by omega))
  have c10 := HC9.out 10
  clear y0 y1 y2' y3' c6 c7 c8 c9 hB8 ryL8 ryG8 ryO8 rzI8
  go_wp2_with fail
  refine (untouchedInts_any none 0 zi [] _ (by simp) (.inl rfl) rzI9).mono ?_
  rintro e w10 ⟨rfl, sp10⟩
  have K10 := Keeps.of_span sp10
  have hB10 := hB9.keeps K10 (sev _ _ (by omega) (by omega))
  clear c10 hB9 rzI9
  go_wp2_with fail
  refine (reads_any _ P hv es _ hB10).mono ?_
  rintro e w' ⟨rfl, hw⟩
  have hw := hw.symm
  subst hw
  go_wp2
  go_ret
  refine ⟨rfl, ?_⟩
  · have fin : ∀ {a b : World} {lo hi : Nat}, Keeps S w a → Keeps (fun k => lo ≤ k ∧ k < hi) a b → w.heap.size ≤ lo → Keeps S w b := fun {a b lo hi} h1 h2 h3 =>
      ⟨h2.os.trans h1.os, h2.tape.trans h1.tape, h2.output.trans h1.output, Nat.le_trans h1.size h2.size, fun k hk ho => (h2.block k (by have := h1.size; omega) (by omega)).trans (h1.block k hk ho)⟩
    exact fin (fin (fin K07 K8 (by omega)) K9 (by omega)) K10 (by omega)

end Go.Proofs.YtgpaajdfkekjiaaGreatDoor
