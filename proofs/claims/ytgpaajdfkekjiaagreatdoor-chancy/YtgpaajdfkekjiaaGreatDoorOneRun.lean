/-
  The book's one, at a call of Run: it answers true; the book goes on; nothing else that was there is written.
-/
import Derived.Test.YtgpaajdfkekjiaaGreatDoorOne
namespace Go.Proofs.YtgpaajdfkekjiaaGreatDoor
open Go.RowKit

theorem handed_zero (w : World) :
    Calls Tryz.prog 18 #[.agg #[.int .i64 0, .slice none 0 0, .slice none 0 0, .slice none 0 0]] w fun e w' => ∃ gl gg go,
      e = .returned (.agg #[.int .i64 0, .slice (some ⟨gl, 0, none⟩) 0 8, .slice (some ⟨gg, 0, none⟩) 0 8, .slice (some ⟨go, 0, none⟩) 0 8]) ∧
      w.heap.size ≤ gl ∧ gl < gg ∧ gg < go ∧ w'.rowIs gl 54 16 (hPair []) ∧ w'.rowIs gg 56 16 (hPair []) ∧ w'.rowIs go 3 8 (hInt []) ∧ Below w.heap.size w w' :=
  handed_any 0 none none none 0 0 0 [] [] [] w (by simp) (by simp) (by simp) (.inl rfl) (.inl rfl) (.inl rfl)
theorem untouched_zero (gl gg go : Nat) (w : World) (h1 : gl < gg) (h2 : gg < go) (rL : w.rowIs gl 54 16 (hPair [])) (rG : w.rowIs gg 56 16 (hPair [])) (rO : w.rowIs go 3 8 (hInt [])) :
    Calls Tryz.prog 35 #[.agg #[.int .i64 0, .slice (some ⟨gl, 0, none⟩) 0 8, .slice (some ⟨gg, 0, none⟩) 0 8, .slice (some ⟨go, 0, none⟩) 0 8],
        .agg #[.int .i64 0, .slice none 0 0, .slice none 0 0, .slice none 0 0]] w fun e w' => e = .returned (.bool true) ∧ Span gl (go + 1) w w' :=
  untouched_any 0 none none none 0 0 0 gl gg go [] [] [] w (by simp) (by simp) (by simp) (.inl rfl) (.inl rfl) (.inl rfl) h1 h2 rL rG rO

/-- The cells of a block, kept. -/
theorem row_keep {w w' : World} {B : Nat} {cs : Array Value} (h : ∀ j, w.cell? ⟨B, j, none⟩ = cs[j]?) (hB : B < w.heap.size) (hb : Below w.heap.size w w') : ∀ j, w'.cell? ⟨B, j, none⟩ = cs[j]? := fun j => (hb.cell (p := ⟨B, j, none⟩) hB).trans (h j)
theorem row_keeps {S : Nat → Prop} {w w' : World} {B : Nat} {cs : Array Value} (h : ∀ j, w.cell? ⟨B, j, none⟩ = cs[j]?) (hB : B < w.heap.size) (K : Keeps S w w') (hS : ¬ S B) : ∀ j, w'.cell? ⟨B, j, none⟩ = cs[j]? := fun j => (K.cell (p := ⟨B, j, none⟩) hB hS).trans (h j)

theorem PairsAt.lt {w : World} {a : Option Addr} {ps : List (Int × Int)} (h : PairsAt w a ps) {b o : Nat} (ha : a = some ⟨b, o, none⟩) (hne : ps ≠ []) : b < w.heap.size := by
  rcases h with h | ⟨b', off, ha', hlt, _⟩
  · exact absurd h hne
  · rw [ha] at ha'; simp only [Option.some.injEq, Addr.mk.injEq, and_true] at ha'; omega
theorem IntsAt.lt {w : World} {a : Option Addr} {xs : List Int} (h : IntsAt w a xs) {b o : Nat} (ha : a = some ⟨b, o, none⟩) (hne : xs ≠ []) : b < w.heap.size := by
  rcases h with h | ⟨b', off, ha', hlt, _⟩
  · exact absurd h hne
  · rw [ha] at ha'; simp only [Option.some.injEq, Addr.mk.injEq, and_true] at ha'; omega
theorem IntsAt.alloc_any {w : World} {a : Option Addr} {xs : List Int} (h : IntsAt w a xs) (o : Obj) : IntsAt (w.alloc o) a xs := h.below ((Below.refl _ _).alloc (Nat.le_refl _) _)
theorem alloc_then {w w' : World} {o : Obj} (h : Below (w.alloc o).heap.size (w.alloc o) w') : Below w.heap.size w w' := ((Below.refl _ _).alloc (Nat.le_refl _) o).trans (h.mono (by simp))
theorem box_cells {w w' : World} {cs : Array Value} {t : TypeId} (h : Below (w.alloc (.cells cs t)).heap.size (w.alloc (.cells cs t)) w') : ∀ i, w'.cell? ⟨w.heap.size, i, none⟩ = cs[i]? := fun i =>
  (h.cell (p := ⟨w.heap.size, i, none⟩) (by simp)).trans (cell_of_row _ _ _ _ _ _ (heap_alloc_new _ _))

set_option maxHeartbeats 2000000 in
set_option maxRecDepth 100000 in
theorem one_run (S : Nat → Prop) (P : Nat) (hv : Value) (es : List Entry) (j : Nat) (sv : Value) (n : Int) (la ga oa ia : Option Addr) (lc gc oc ic : Nat) (ls gs : List (Int × Int)) (os ins : List Int) (w : World)
    (hB : BookAt S w P hv es) (hS : ∀ k, S k → k < w.heap.size) (hj : es.length = 4 * j) (hj2 : j ≤ 100)
    (hml : ls.length * 16 ≤ 140737488351232) (hmg : gs.length * 16 ≤ 140737488351232) (hmo : os.length * 8 ≤ 140737488351232) (hmi : ins.length * 8 ≤ 140737488351232)
    (hL : PairsAt w la ls) (hG : PairsAt w ga gs) (hO : IntsAt w oa os) (hI : IntsAt w ia ins)
    (fL : ∀ i, i < ls.length → Fits (ls.getD i (0, 0)).1) (fG : ∀ i, i < gs.length → Fits (gs.getD i (0, 0)).1 ∧ Fits (gs.getD i (0, 0)).2) (fO : ∀ i, i < os.length → Fits (os.getD i 0))
    (sL : ∀ b o, la = some ⟨b, o, none⟩ → ls ≠ [] → ¬ S b) (sG : ∀ b o, ga = some ⟨b, o, none⟩ → gs ≠ [] → ¬ S b) (sO : ∀ b o, oa = some ⟨b, o, none⟩ → os ≠ [] → ¬ S b) (sI : ∀ b o, ia = some ⟨b, o, none⟩ → ins ≠ [] → ¬ S b) :
    Calls Tryz.prog 13 #[.pointer (some ⟨P, 0, none⟩), .agg #[.int .i64 3, sv, .int .i64 n, .slice la ls.length lc, .slice ga gs.length gc, .slice oa os.length oc, .int .i64 0, .slice none 0 0, .slice none 0 0, .slice none 0 0, .slice ia ins.length ic, .int .i64 0]] w fun e w' =>
      e = .returned (.bool true) ∧ (∃ hv' es', BookAt (fun k => S k ∨ w.heap.size ≤ k) w' P hv' es' ∧ es'.length = 4 * (j + 1)) ∧ Keeps S w w' := by
  obtain ⟨W0, hW0⟩ : ∃ W0, W0 = w.alloc (.cells #[.int .i64 3, sv, .int .i64 n, .slice la ls.length lc, .slice ga gs.length gc, .slice oa os.length oc, .int .i64 0, .slice none 0 0, .slice none 0 0, .slice none 0 0, .slice ia ins.length ic, .int .i64 0] 42) := ⟨_, rfl⟩
  have b0 : Below w.heap.size w W0 := by rw [hW0]; exact (Below.refl _ _).alloc (Nat.le_refl _) _
  have s0 : W0.heap.size = w.heap.size + 1 := by rw [hW0]; simp
  have C0 : ∀ i, W0.cell? ⟨w.heap.size, i, none⟩ = #[.int .i64 3, sv, .int .i64 n, .slice la ls.length lc, .slice ga gs.length gc, .slice oa os.length oc, .int .i64 0, .slice none 0 0, .slice none 0 0, .slice none 0 0, .slice ia ins.length ic, .int .i64 0][i]? := fun i => by rw [hW0]; exact cell_of_row _ _ _ _ _ _ (heap_alloc_new _ _)
  have hd := handed_any n la ga oa lc gc oc ls gs os W0 hml hmg hmo (hL.below b0) (hG.below b0) (hO.below b0)
  rw [hW0] at hd
  have HC0 : Hid (∀ i, W0.cell? ⟨w.heap.size, i, none⟩ = #[.int .i64 3, sv, .int .i64 n, .slice la ls.length lc, .slice ga gs.length gc, .slice oa os.length oc, .int .i64 0, .slice none 0 0, .slice none 0 0, .slice none 0 0, .slice ia ins.length ic, .int .i64 0][i]?) := C0
  have HS0 : Hid (W0.heap.size = w.heap.size + 1) := s0
  have HSS : Hid (∀ k, S k → k < w.heap.size) := hS
  have HJ : Hid (es.length = 4 * j) := hj
  clear C0 s0 hS hj
  go_enter Tryz.func13, Tryz.ntmps13
  go_wp2_with fail
  refine hd.mono ?_
  rw [← hW0]
  rintro e w1 ⟨xl, xg, xo, rfl, hxl, hx1, hx2, rxL, rxG, rxO, b1⟩
  clear hd hW0
  have C1 := row_keep HC0.out (by rw [HS0.out]; omega) b1
  have z1 : w.heap.size < w1.heap.size := Nat.lt_of_lt_of_le (by rw [HS0.out]; omega) b1.size
  have a6 := C1 6
  have a7 := C1 7
  have a8 := C1 8
  have a9 := C1 9
  have HC1 : Hid (∀ i, w1.cell? ⟨w.heap.size, i, none⟩ = #[.int .i64 3, sv, .int .i64 n, .slice la ls.length lc, .slice ga gs.length gc, .slice oa os.length oc, .int .i64 0, .slice none 0 0, .slice none 0 0, .slice none 0 0, .slice ia ins.length ic, .int .i64 0][i]?) := C1
  clear C1
  go_wp2_with fail
  refine (handed_zero _).mono ?_
  rintro e w2 ⟨yl, yg, yo, rfl, hyl, hy1, hy2, ryL, ryG, ryO, b2⟩
  have B12 := alloc_then b2
  have HX2 : Hid (∀ i, w2.cell? ⟨w1.heap.size, i, none⟩ = #[.int .i64 n, .slice (some ⟨xl, 0, none⟩) ls.length (ls.length + 8), .slice (some ⟨xg, 0, none⟩) gs.length (gs.length + 8), .slice (some ⟨xo, 0, none⟩) os.length (os.length + 8)][i]?) := box_cells b2
  have HC2 : Hid (∀ i, w2.cell? ⟨w.heap.size, i, none⟩ = #[.int .i64 3, sv, .int .i64 n, .slice la ls.length lc, .slice ga gs.length gc, .slice oa os.length oc, .int .i64 0, .slice none 0 0, .slice none 0 0, .slice none 0 0, .slice ia ins.length ic, .int .i64 0][i]?) := row_keep HC1.out z1 B12
  have hyl' : w1.heap.size + 1 ≤ yl := by simpa using hyl
  have z2 : w1.heap.size < w2.heap.size := Nat.lt_of_lt_of_le (by simp) b2.size
  have B02 : Below w.heap.size w w2 := (b0.trans (b1.mono (by rw [HS0.out]; omega))).trans (B12.mono (by omega))
  have y2 : w.heap.size < w2.heap.size := by omega
  have a10 := HC2.out 10
  clear a6 a7 a8 a9 b2 hyl
  go_wp2_with fail
  refine (handedInts_any ia ic ins _ hmi ((hI.below B02).alloc_any _)).mono ?_
  rintro e w3 ⟨zi, rfl, hzi, rzI, b3⟩
  have B23 := alloc_then b3
  have HY3 : Hid (∀ i, w3.cell? ⟨w2.heap.size, i, none⟩ = #[.int .i64 0, .slice (some ⟨yl, 0, none⟩) 0 8, .slice (some ⟨yg, 0, none⟩) 0 8, .slice (some ⟨yo, 0, none⟩) 0 8][i]?) := box_cells b3
  have HC3 : Hid (∀ i, w3.cell? ⟨w.heap.size, i, none⟩ = #[.int .i64 3, sv, .int .i64 n, .slice la ls.length lc, .slice ga gs.length gc, .slice oa os.length oc, .int .i64 0, .slice none 0 0, .slice none 0 0, .slice none 0 0, .slice ia ins.length ic, .int .i64 0][i]?) := row_keep HC2.out (by omega) B23
  have HX3 : Hid (∀ i, w3.cell? ⟨w1.heap.size, i, none⟩ = #[.int .i64 n, .slice (some ⟨xl, 0, none⟩) ls.length (ls.length + 8), .slice (some ⟨xg, 0, none⟩) gs.length (gs.length + 8), .slice (some ⟨xo, 0, none⟩) os.length (os.length + 8)][i]?) := row_keep HX2.out z2 B23
  have hzi' : w2.heap.size + 1 ≤ zi := by simpa using hzi
  have z3 : w2.heap.size < w3.heap.size := Nat.lt_of_lt_of_le (by simp) b3.size
  have B03 : Below w.heap.size w w3 := B02.trans (B23.mono (by omega))
  have B13 : Below w1.heap.size w1 w3 := B12.trans (B23.mono (by omega))
  have y3 : w.heap.size < w3.heap.size := by omega
  have yx3 : w1.heap.size < w3.heap.size := by omega
  have c0 := HC3.out 0
  have x0 := HX3.out 0
  have x1 := HX3.out 1
  have x2 := HX3.out 2
  have x3 := HX3.out 3
  have rxL3 := rowIs_below rxL B13
  have rxG3 := rowIs_below rxG B13
  have rxO3 := rowIs_below rxO B13
  have ryL3 := rowIs_below ryL B23
  have ryG3 := rowIs_below ryG B23
  have ryO3 := rowIs_below ryO B23
  have hmax : ins.length ≤ maxLen := by unfold maxLen; omega
  have tops : xo < w1.heap.size ∧ yo < w2.heap.size ∧ zi < w3.heap.size := ⟨rxO.lt, ryO.lt, rzI.lt⟩
  clear a10 b3 hzi HX2 HC2 rxL rxG rxO ryL ryG ryO
  go_wp2_with fail
  refine (run_all n (some ⟨xl, 0, none⟩) (some ⟨xg, 0, none⟩) (some ⟨xo, 0, none⟩) (some ⟨zi, 0, none⟩) _ _ _ _ ls gs os ins _ hmax (row_pairs rxL3) (row_pairs rxG3) (row_ints rxO3) (row_ints rzI)).mono ?_
  rintro e w4 ⟨ra, rfl, hra, rI4, b4⟩
  have HC4 : Hid (∀ i, w4.cell? ⟨w.heap.size, i, none⟩ = #[.int .i64 3, sv, .int .i64 n, .slice la ls.length lc, .slice ga gs.length gc, .slice oa os.length oc, .int .i64 0, .slice none 0 0, .slice none 0 0, .slice none 0 0, .slice ia ins.length ic, .int .i64 0][i]?) := row_keep HC3.out (by omega) b4
  have B04 : Below w.heap.size w w4 := B03.trans (b4.mono (by omega))
  have c2 := HC4.out 2
  have c3 := HC4.out 3
  have c4 := HC4.out 4
  have c5 := HC4.out 5
  have c10 := HC4.out 10
  clear c0 x0 x1 x2 x3
  go_wp2_with fail
  refine (refRun_all n la ga oa ia lc gc oc ic ls gs os ins _ hmax (hL.below B04) (hG.below B04) (hO.below B04) (hI.below B04) fL fG fO).mono ?_
  rintro e w5 ⟨ma, mc, rfl, mI5, b5⟩
  clear c2 c3 c4 c5 c10
  have B35 : Below w3.heap.size w3 w5 := b4.trans (b5.mono b4.size)
  have B05 : Below w.heap.size w w5 := B04.trans (b5.mono (by have := b4.size; omega))
  have hB5 : BookAt S w5 P hv es := hB.keeps (T := fun k => w.heap.size ≤ k) ⟨B05.os, B05.tape, B05.output, B05.size, fun k hk _ => B05.block k hk⟩ (fun k hk => by have := HSS.out k hk; omega)
  go_wp2_with fail
  refine (reads_any S P hv es _ hB5).mono ?_
  rintro e w' ⟨rfl, hw⟩
  have hw := hw.symm
  subst hw
  go_wp2_with fail
  refine (sameInts_eq ra ma _ _ _ (ints (runL n ls gs os ins)) _ (ints_len _).symm (by rw [ints_len]; have := runL_len n ls gs os ins; omega) (rI4.below b5) mI5).mono ?_
  rintro e w6 ⟨rfl, b6⟩
  have B36 : Below w3.heap.size w3 w6 := B35.trans (b6.mono B35.size)
  have B06 : Below w.heap.size w w6 := B05.trans (b6.mono (by have := B35.size; omega))
  have s36 : w3.heap.size ≤ w6.heap.size := B36.size
  have hB6 : BookAt S w6 P hv es := hB.keeps (T := fun k => w.heap.size ≤ k) ⟨B06.os, B06.tape, B06.output, B06.size, fun k hk _ => B06.block k hk⟩ (fun k hk => by have := HSS.out k hk; omega)
  have hra6 : (ra = none ∧ (runL n ls gs os ins).length = 0) ∨ ∃ g f, ra = some ⟨g, 0, none⟩ ∧ w6.rowIs g 3 (runL n ls gs os ins).length f ∧ ∀ k, S k → k < g := by
    rcases hra with h | ⟨g, f, h1, h2, h3⟩
    · exact .inl h
    · exact .inr ⟨g, f, h1, rowIs_below h3 (b5.trans (b6.mono b5.size)), fun k hk => by have := HSS.out k hk; omega⟩
  have hra3 : ∀ g, ra = some ⟨g, 0, none⟩ → w3.heap.size ≤ g ∧ g < w6.heap.size := by
    rcases hra with h | ⟨g, f, h1, h2, h3⟩
    · intro g e; rw [h.1] at e; cases e
    · intro g' e
      have := (rowIs_below h3 (b5.trans (b6.mono b5.size))).lt
      rw [h1] at e; simp only [Option.some.injEq, Addr.mk.injEq, and_true] at e; omega
  clear hB5 hra mI5 rI4
  go_wp2_with fail
  refine (keepInts_any S P hv es ra (runL n ls gs os ins).length j _ hB6 HJ.out hj2 (by have := runL_len n ls gs os ins; omega) hra6).mono ?_
  rintro e w7 ⟨rfl, hv', es', hB7, hes', K7⟩
  have nT : ∀ k, w.heap.size ≤ k → k < w3.heap.size → ¬ (S k ∨ ra = some ⟨k, 0, none⟩) := fun k h1 h2 h => by
    rcases h with h | h
    · have := HSS.out k h; omega
    · have := (hra3 k h).1; omega
  have HC7 : Hid (∀ i, w7.cell? ⟨w.heap.size, i, none⟩ = #[.int .i64 3, sv, .int .i64 n, .slice la ls.length lc, .slice ga gs.length gc, .slice oa os.length oc, .int .i64 0, .slice none 0 0, .slice none 0 0, .slice none 0 0, .slice ia ins.length ic, .int .i64 0][i]?) := row_keeps (row_keep HC3.out (by omega) B36) (by omega) K7 (nT _ (Nat.le_refl _) (by omega))
  have HX7 : Hid (∀ i, w7.cell? ⟨w1.heap.size, i, none⟩ = #[.int .i64 n, .slice (some ⟨xl, 0, none⟩) ls.length (ls.length + 8), .slice (some ⟨xg, 0, none⟩) gs.length (gs.length + 8), .slice (some ⟨xo, 0, none⟩) os.length (os.length + 8)][i]?) := row_keeps (row_keep HX3.out (by omega) B36) (by omega) K7 (nT _ (by omega) (by omega))
  have HY7 : Hid (∀ i, w7.cell? ⟨w2.heap.size, i, none⟩ = #[.int .i64 0, .slice (some ⟨yl, 0, none⟩) 0 8, .slice (some ⟨yg, 0, none⟩) 0 8, .slice (some ⟨yo, 0, none⟩) 0 8][i]?) := row_keeps (row_keep HY3.out (by omega) B36) (by omega) K7 (nT _ (by omega) (by omega))
  have rxL7 := rowIs_keeps (rowIs_below rxL3 B36) K7 (nT _ (by rw [HS0.out] at hxl; omega) (by omega))
  have rxG7 := rowIs_keeps (rowIs_below rxG3 B36) K7 (nT _ (by rw [HS0.out] at hxl; omega) (by omega))
  have rxO7 := rowIs_keeps (rowIs_below rxO3 B36) K7 (nT _ (by rw [HS0.out] at hxl; omega) (by omega))
  have ryL7 := rowIs_keeps (rowIs_below ryL3 B36) K7 (nT _ (by omega) (by omega))
  have ryG7 := rowIs_keeps (rowIs_below ryG3 B36) K7 (nT _ (by omega) (by omega))
  have ryO7 := rowIs_keeps (rowIs_below ryO3 B36) K7 (nT _ (by omega) (by omega))
  have rzI7 := rowIs_keeps (rowIs_below rzI B36) K7 (nT _ (by omega) (by omega))
  have hxl' : w.heap.size + 1 ≤ xl := by rw [HS0.out] at hxl; exact hxl
  have s67 : w6.heap.size ≤ w7.heap.size := K7.size
  have hL7 : PairsIn xl w7 la ls := (((hL.into).below B06).keeps K7 (fun b o ha hne h => by
    rcases h with h | h
    · exact sL b o ha hne h
    · have := (hra3 b h).1; have := hL.lt ha hne; omega)).mono (by omega)
  have hG7 : PairsIn xl w7 ga gs := (((hG.into).below B06).keeps K7 (fun b o ha hne h => by
    rcases h with h | h
    · exact sG b o ha hne h
    · have := (hra3 b h).1; have := hG.lt ha hne; omega)).mono (by omega)
  have hO7 : IntsIn xl w7 oa os := (((hO.into).below B06).keeps K7 (fun b o ha hne h => by
    rcases h with h | h
    · exact sO b o ha hne h
    · have := (hra3 b h).1; have := hO.lt ha hne; omega)).mono (by omega)
  have hI7 : IntsIn xl w7 ia ins := (((hI.into).below B06).keeps K7 (fun b o ha hne h => by
    rcases h with h | h
    · exact sI b o ha hne h
    · have := (hra3 b h).1; have := hI.lt ha hne; omega)).mono (by omega)
  have K07 : Keeps S w w7 := ⟨K7.os.trans B06.os, K7.tape.trans B06.tape, K7.output.trans B06.output, Nat.le_trans B06.size K7.size, fun k hk ho => (K7.block k (by have := B06.size; omega) (fun h => by
    rcases h with h | h
    · exact ho h
    · have := (hra3 k h).1; omega)).trans (B06.block k hk)⟩
  have x0 := HX7.out 0
  have x1 := HX7.out 1
  have x2 := HX7.out 2
  have x3 := HX7.out 3
  have c2 := HC7.out 2
  have c3 := HC7.out 3
  have c4 := HC7.out 4
  have c5 := HC7.out 5
  clear hB6 hra6 HC3 HX3 HY3 HC4 rxL3 rxG3 rxO3 ryL3 ryG3 ryO3 rzI HC1 HC0
  go_wp2_with (go_at_call 14; refine (num_any _ _).mono ?_; rintro e w' ⟨rfl, hw⟩; have hw := hw.symm; subst hw)
  refine (untouched_any n la ga oa lc gc oc xl xg xo ls gs os _ hml hmg hmo hL7 hG7 hO7 hx1 hx2 rxL7 rxG7 rxO7).mono ?_
  rintro e w8 ⟨rfl, sp8⟩
  have K8 := Keeps.of_span sp8
  have HC8 : Hid (∀ i, w8.cell? ⟨w.heap.size, i, none⟩ = #[.int .i64 3, sv, .int .i64 n, .slice la ls.length lc, .slice ga gs.length gc, .slice oa os.length oc, .int .i64 0, .slice none 0 0, .slice none 0 0, .slice none 0 0, .slice ia ins.length ic, .int .i64 0][i]?) := row_keeps HC7.out (by omega) K8 (by omega)
  have HY8 : Hid (∀ i, w8.cell? ⟨w2.heap.size, i, none⟩ = #[.int .i64 0, .slice (some ⟨yl, 0, none⟩) 0 8, .slice (some ⟨yg, 0, none⟩) 0 8, .slice (some ⟨yo, 0, none⟩) 0 8][i]?) := row_keeps HY7.out (by omega) K8 (by omega)
  have ryL8 := rowIs_keeps ryL7 K8 (by omega)
  have ryG8 := rowIs_keeps ryG7 K8 (by omega)
  have ryO8 := rowIs_keeps ryO7 K8 (by omega)
  have rzI8 := rowIs_keeps rzI7 K8 (by omega)
  have hI8 := hI7.span sp8 (Nat.le_refl _)
  have s78 : w7.heap.size ≤ w8.heap.size := K8.size
  have sev : ∀ lo hi, w.heap.size < lo → hi ≤ w3.heap.size → ∀ k, (S k ∨ ra = some ⟨k, 0, none⟩ ∨ w6.heap.size ≤ k) → ¬ (lo ≤ k ∧ k < hi) := fun lo hi h1 h2 k hk h => by
    rcases hk with hk | hk | hk
    · have := HSS.out k hk; omega
    · have := (hra3 k hk).1; omega
    · omega
  have hB8 := hB7.keeps K8 (sev _ _ (by omega) (by omega))
  have y0 := HY8.out 0
  have y1 := HY8.out 1
  have y2' := HY8.out 2
  have y3' := HY8.out 3
  have c6 := HC8.out 6
  have c7 := HC8.out 7
  have c8 := HC8.out 8
  have c9 := HC8.out 9
  clear x0 x1 x2 x3 c2 c3 c4 c5 hL7 hG7 hO7 rxL7 rxG7 rxO7 hB7 hI7 ryL7 ryG7 ryO7 rzI7
  go_wp2_with fail
  refine (untouched_zero yl yg yo _ hy1 hy2 ryL8 ryG8 ryO8).mono ?_
  rintro e w9 ⟨rfl, sp9⟩
  have K9 := Keeps.of_span sp9
  have HC9 : Hid (∀ i, w9.cell? ⟨w.heap.size, i, none⟩ = #[.int .i64 3, sv, .int .i64 n, .slice la ls.length lc, .slice ga gs.length gc, .slice oa os.length oc, .int .i64 0, .slice none 0 0, .slice none 0 0, .slice none 0 0, .slice ia ins.length ic, .int .i64 0][i]?) := row_keeps HC8.out (by omega) K9 (by omega)
  have rzI9 := rowIs_keeps rzI8 K9 (by omega)
  have hI9 := hI8.span sp9 (by omega)
  have s89 : w8.heap.size ≤ w9.heap.size := K9.size
  have hB9 := hB8.keeps K9 (sev _ _ (by omega) (by omega))
  have c10 := HC9.out 10
  clear y0 y1 y2' y3' c6 c7 c8 c9 hB8 hI8 ryL8 ryG8 ryO8 rzI8
  go_wp2_with fail
  refine (untouchedInts_any ia ic zi ins _ hmi (hI9.mono (by omega)) rzI9).mono ?_
  rintro e w10 ⟨rfl, sp10⟩
  have K10 := Keeps.of_span sp10
  have hB10 := hB9.keeps K10 (sev _ _ (by omega) (by omega))
  clear c10 hB9 hI9 rzI9
  go_wp2_with fail
  refine (reads_any _ P hv' es' _ hB10).mono ?_
  rintro e w' ⟨rfl, hw⟩
  have hw := hw.symm
  subst hw
  go_wp2
  go_ret
  refine ⟨rfl, ⟨hv', es', hB10.mono (fun k hk => ?_), hes'⟩, ?_⟩
  · rcases hk with hk | hk | hk
    · exact .inl hk
    · have := (hra3 k hk).1; exact .inr (by omega)
    · exact .inr (by have := B06.size; omega)
  · have fin : ∀ {a b : World} {lo hi : Nat}, Keeps S w a → Keeps (fun k => lo ≤ k ∧ k < hi) a b → w.heap.size ≤ lo → Keeps S w b := fun {a b lo hi} h1 h2 h3 =>
      ⟨h2.os.trans h1.os, h2.tape.trans h1.tape, h2.output.trans h1.output, Nat.le_trans h1.size h2.size, fun k hk ho => (h2.block k (by have := h1.size; omega) (by omega)).trans (h1.block k hk ho)⟩
    exact fin (fin (fin K07 K8 (by omega)) K9 (by omega)) K10 (by omega)

end Go.Proofs.YtgpaajdfkekjiaaGreatDoor
