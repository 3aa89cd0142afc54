/-
  The ways of package compare in memory, and what its methods do with them: Len, Less, Swap.
-/
import Derived.Test.YtgpaajdfkekjiaaGreatDoorCmpA
import Derived.Test.YtgpaajdfkekjiaaGreatDoorHeldK
import Derived.Test.YtgpaajdfkekjiaaGreatDoorBox
namespace Go.Proofs.YtgpaajdfkekjiaaGreatDoor
open Go.RowKit

/-- The cells of a way: its inputs, the states that they lead to, how far the last step differs. -/
def wayL (M : Duo) (e : List Nat × Value) : List Value := [e.2, .int .i64 ((M.run e.1).1 : Nat), .int .i64 ((M.run e.1).2 : Nat), .int .i64 (M.difL e.1 : Nat)]
def rowW (M : Duo) (es : List (List Nat × Value)) : List Value := es.flatMap (wayL M)
def noWay : List Nat × Value := ([], .slice none 0 0)
theorem rowW_len (M : Duo) (es : List (List Nat × Value)) : (rowW M es).length = es.length * 4 := by
  induction es with
  | nil => rfl
  | cons e es ih => simp [rowW, wayL] at ih ⊢; omega
theorem rowW_cons (M : Duo) (e : List Nat × Value) (es : List (List Nat × Value)) : rowW M (e :: es) = wayL M e ++ rowW M es := rfl
theorem rowW_get (M : Duo) : ∀ (es : List (List Nat × Value)) (i c : Nat), i < es.length → c < 4 → (rowW M es)[i * 4 + c]? = (wayL M (es.getD i noWay))[c]?
  | [], i, c, hi, _ => by simp at hi
  | e :: es, 0, c, _, hc => by rw [rowW_cons, Nat.zero_mul, Nat.zero_add, List.getElem?_append_left (by simp [wayL]; omega)]; rfl
  | e :: es, i + 1, c, hi, hc => by
    have := rowW_get M es i c (by simpa using hi) hc
    have e1 : (i + 1) * 4 + c = (i * 4 + c) + 4 := by omega
    rw [e1, rowW_cons, List.getElem?_append_right (by simp [wayL])]
    simpa [wayL] using this
theorem rowW_snoc (M : Duo) (es : List (List Nat × Value)) (e : List Nat × Value) : rowW M (es ++ [e]) = rowW M es ++ wayL M e := by simp [rowW]
theorem rowW_take (M : Duo) : ∀ (es : List (List Nat × Value)) (k : Nat), (rowW M es).take (k * 4) = rowW M (es.take k)
  | [], k => by simp [rowW]
  | e :: es, 0 => by simp [rowW]
  | e :: es, k + 1 => by
    have e1 : (k + 1) * 4 = 4 + k * 4 := by omega
    rw [e1, rowW_cons, List.take_succ_cons, rowW_cons, ← rowW_take M es k]
    have hl : (wayL M e).length = 4 := rfl
    rw [List.take_append, List.take_of_length_le (by rw [hl]; omega), hl, show 4 + k * 4 - 4 = k * 4 by omega]
def set4 (xs : List Value) (k : Nat) (a b c d : Value) : List Value := (((xs.set k a).set (k + 1) b).set (k + 2) c).set (k + 3) d
theorem set4_get (xs : List Value) (k : Nat) (a b c d : Value) (h : k + 3 < xs.length) (j : Nat) : (set4 xs k a b c d)[j]? = if j = k then some a else if j = k + 1 then some b else if j = k + 2 then some c else if j = k + 3 then some d else xs[j]? := by
  unfold set4
  simp only [List.getElem?_set, List.length_set]
  by_cases h3 : j = k + 3
  · subst h3; simp; omega
  by_cases h2 : j = k + 2
  · subst h2; simp; omega
  by_cases h1 : j = k + 1
  · subst h1; simp; omega
  by_cases h0 : j = k
  · subst h0; simp; omega
  simp [h0, h1, h2, h3, Ne.symm h0, Ne.symm h1, Ne.symm h2, Ne.symm h3]
theorem rowW_set (M : Duo) (es : List (List Nat × Value)) (i : Nat) (e : List Nat × Value) (hi : i < es.length) :
    set4 (rowW M es) (i * 4) e.2 (.int .i64 ((M.run e.1).1 : Nat)) (.int .i64 ((M.run e.1).2 : Nat)) (.int .i64 (M.difL e.1 : Nat)) = rowW M (es.set i e) := by
  apply List.ext_getElem?
  intro j
  have hl := rowW_len M es
  rw [set4_get _ _ _ _ _ _ (by omega)]
  by_cases hj : j < es.length * 4
  · have ej : j = j / 4 * 4 + j % 4 := by omega
    have hq : j / 4 < es.length := by omega
    rw [ej, rowW_get M (es.set i e) _ _ (by simpa using hq) (by omega), rowW_get M es _ _ hq (by omega)]
    by_cases hqi : j / 4 = i
    · have e2 : (es.set i e).getD (j / 4) noWay = e := by rw [hqi]; simp [hi]
      rw [e2, hqi]
      have : j % 4 = 0 ∨ j % 4 = 1 ∨ j % 4 = 2 ∨ j % 4 = 3 := by omega
      rcases this with h | h | h | h <;> rw [h] <;> simp [wayL]
    · have e2 : (es.set i e).getD (j / 4) noWay = es.getD (j / 4) noWay := by simp only [List.getD_eq_getElem?_getD]; rw [List.getElem?_set_ne (by omega)]
      rw [e2, if_neg (by omega), if_neg (by omega), if_neg (by omega), if_neg (by omega)]
  · rw [if_neg (by omega), if_neg (by omega), if_neg (by omega), if_neg (by omega), List.getElem?_eq_none (by omega), List.getElem?_eq_none (by rw [rowW_len]; simp; omega)]

/-- The blocks that a heap of ways may write into. -/
def heapBlocks (P : Nat) (hv : Value) (k : Nat) : Prop := k = P ∨ hv.ownBlock = some k

/-- .. and the blocks in which no inputs of a way lie. -/
def inX (B P : Nat) (hv : Value) (k : Nat) : Prop := heapBlocks P hv k ∨ k < B

/-- A heap of ways: the list's header in block P, the list hv, the ways es. -/
structure WaysAt (M : Duo) (B : Nat) (w : World) (P : Nat) (hv : Value) (es : List (List Nat × Value)) : Prop where
  lo : B ≤ P
  lt : P < w.heap.size
  cell : w.cell? ⟨P, 0, none⟩ = some hv
  frz : w.frozen? ⟨P, 0, none⟩ = false
  own : w.ownsRow B 148 4 hv es.length (rowW M es)
  ap : hv.ownBlock ≠ some P
  ins : ∀ e ∈ es, InAt w (inX B P hv) e.2 e.1

theorem Keeps.drewR {S : Nat → Prop} {a b : World} (h : Keeps S a b) : Keeps S a b.drew := ⟨h.os, h.tape, h.output, h.size, h.block⟩
theorem len_any (hv : Value) (a : Option Addr) (n c : Nat) (w : World) (h : hv = .slice a n c) :
    Calls Tryz.prog 85 #[hv] w fun e w' => e = .returned (.int .i64 n) ∧ w' = w := by
  subst h
  go_enter Tryz.func85, Tryz.ntmps85
  go_wp2
  go_ret
  exact ⟨rfl, rfl⟩

section
variable {M : Duo} {B P : Nat} {w : World} {hv : Value} {es : List (List Nat × Value)}
theorem WaysAt.slice (h : WaysAt M B w P hv es) (h0 : 0 < es.length) : ∃ g cap, hv = .slice (some ⟨g, 0, none⟩) es.length cap ∧ es.length ≤ cap := by
  rcases h.own.2 with ⟨_, h2⟩ | ⟨g, cap, cur, hv', _, _, hc, _⟩
  · omega
  · exact ⟨g, cap, hv', hc⟩
theorem WaysAt.get (h : WaysAt M B w P hv es) {g i c : Nat} (hg : hv.ownBlock = some g) (hi : i < es.length) (hc : c < 4) : w.cell? ⟨g, i * 4 + c, none⟩ = (wayL M (es.getD i noWay))[c]? := by
  obtain ⟨g', cap, e, _⟩ := h.slice (by omega)
  subst e
  obtain rfl : g' = g := by simpa [Value.ownBlock] using hg
  rw [h.own.cellAt _ (by omega), rowW_get M es i c hi hc]
theorem WaysAt.inAt (h : WaysAt M B w P hv es) {i : Nat} (hi : i < es.length) : InAt w (inX B P hv) (es.getD i noWay).2 (es.getD i noWay).1 := by
  refine h.ins _ ?_
  rw [List.getD_eq_getElem?_getD, List.getElem?_eq_getElem hi]; exact List.getElem_mem hi
end

theorem hideW {p : Prop} (h : p) : Hid p := h
theorem slicesCompare_two (aa ba : Option Addr) (ac bc : Nat) (u v : List Nat) (w : World) (hl : u.length = v.length) (hb : u.length ≤ 1000) (hu : Dig u) (hv : Dig v) (hX : IntsAt w aa (zs u)) (hY : IntsAt w ba (zs v)) :
    Calls Tryz.prog 179 #[.slice aa u.length ac, .slice ba v.length bc] w fun e w' => e = .returned (.int .i64 (cmpL u v)) ∧ w' = w := by
  have h := slicesCompare_any aa ba ac bc u v w hl hb hu hv hX hY
  rw [show (.slice ba u.length bc : Value) = .slice ba v.length bc by rw [hl]] at h
  exact h

set_option maxHeartbeats 1000000 in
set_option maxRecDepth 100000 in
theorem less_any (M : Duo) (B P : Nat) (hv : Value) (es : List (List Nat × Value)) (i j : Nat) (w : World) (h : WaysAt M B w P hv es) (hi : i < es.length) (hj : j < es.length) (hn : es.length ≤ 10000)
    (di : Dig (es.getD i noWay).1) (dj : Dig (es.getD j noWay).1) (li : (es.getD i noWay).1.length ≤ 500) :
    Calls Tryz.prog 175 #[hv, .int .i64 i, .int .i64 j] w fun e w' => e = .returned (.bool (decide (code (es.getD i noWay).1 < code (es.getD j noWay).1))) ∧ ∃ n, w' = w.drewN n := by
  obtain ⟨g, cap, e, hcap⟩ := h.slice (by omega)
  obtain ⟨u, hu⟩ : ∃ u, u = (es.getD i noWay).1 := ⟨_, rfl⟩
  obtain ⟨v, hv'⟩ : ∃ v, v = (es.getD j noWay).1 := ⟨_, rfl⟩
  have ii := h.inAt hi
  have ij := h.inAt hj
  have ci := h.get (g := g) (c := 0) (by rw [e]; rfl) hi (by omega)
  have cj := h.get (g := g) (c := 0) (by rw [e]; rfl) hj (by omega)
  subst e
  rw [← hu] at ii di li
  rw [← hv'] at ij dj
  obtain ⟨ai, cci, ei, hii, _⟩ := ii
  obtain ⟨aj, ccj, ej, hij, _⟩ := ij
  have ci' : w.cell? ⟨g, i * 4, none⟩ = some (.slice ai u.length cci) := by rw [show i * 4 = i * 4 + 0 by omega, ci]; show some (es.getD i noWay).2 = _; rw [ei]
  have cj' : w.cell? ⟨g, j * 4, none⟩ = some (.slice aj v.length ccj) := by rw [show j * 4 = j * 4 + 0 by omega, cj]; show some (es.getD j noWay).2 = _; rw [ej]
  rw [← hu, ← hv']
  have i0 : (0 : Int) ≤ (i : Int) := by omega
  have j0 : (0 : Int) ≤ (j : Int) := by omega
  have i1 : (i : Int) < (es.length : Int) := by omega
  have j1 : (j : Int) < (es.length : Int) := by omega
  clear ci cj ei ej hu hv' h
  by_cases hl : u.length = v.length
  · have hne : ((u.length : Int) != (v.length : Int)) = false := by simp [hl]
    have HL : Hid (u.length = v.length) := hl
    clear hl
    go_enter Tryz.func175, Tryz.ntmps175
    go_wp2
    go_quiet (fail)
    rename_i nq
    have sc := slicesCompare_two ai aj cci ccj u v (w.drewN nq) HL.out (by omega) di dj (hii.below (below_drewN (Below.refl _ _) nq)) (hij.below (below_drewN (Below.refl _ _) nq))
    obtain ⟨cm, hcm⟩ : ∃ cm, cm = cmpL u v := ⟨_, rfl⟩
    rw [← hcm] at sc
    have HC : Hid (cm = cmpL u v) := hcm
    clear hcm
    by_cases hc : code u < code v
    · have e1 : cm = -1 := by rw [HC.out]; simp [cmpL, hc]
      subst e1
      go_wp2_with fail
      refine sc.mono ?_
      rintro e w' ⟨rfl, hw⟩
      have hw := hw.symm
      subst hw
      go_wp2
      go_ret
      exact ⟨ret_bool (decide_eq_true hc).symm, nq, rfl⟩
    · have e1 : cm = 0 ∨ cm = 1 := by rw [HC.out]; unfold cmpL; rw [if_neg hc]; split <;> simp
      rcases e1 with e1 | e1 <;> subst e1
      all_goals
        go_wp2_with fail
        refine sc.mono ?_
        rintro e w' ⟨rfl, hw⟩
        have hw := hw.symm
        subst hw
        go_wp2
        go_ret
        exact ⟨ret_bool (decide_eq_false hc).symm, nq, rfl⟩
  · have hne : ((u.length : Int) != (v.length : Int)) = true := by simp; omega
    rcases Nat.lt_or_ge u.length v.length with hlt | hge
    · have hltI : (u.length : Int) < (v.length : Int) := by omega
      have hc := code_shorter di dj hlt
      clear hl
      go_enter Tryz.func175, Tryz.ntmps175
      go_wp2
      go_quiet (fail)
      rename_i nq
      go_wp2
      go_ret
      exact ⟨ret_bool (decide_eq_true hc).symm, nq, rfl⟩
    · have hltI : ¬ (u.length : Int) < (v.length : Int) := by omega
      have hltN : ¬ u.length < v.length := by omega
      have hc := code_shorter dj di (by omega)
      clear hl
      go_enter Tryz.func175, Tryz.ntmps175
      go_wp2
      go_quiet (fail)
      rename_i nq
      go_wp2
      go_ret
      exact ⟨ret_bool (decide_eq_false (show ¬ code u < code v by omega)).symm, nq, rfl⟩

/-- A way is stored. -/
def setW (w : World) (g k : Nat) (v : Value) (a b d : Nat) : World := (((w.setCell ⟨g, k, none⟩ v).setCell ⟨g, k + 1, none⟩ (.int .i64 (a : Int))).setCell ⟨g, k + 2, none⟩ (.int .i64 (b : Int))).setCell ⟨g, k + 3, none⟩ (.int .i64 (d : Int))
theorem setW_keeps (w : World) (g k : Nat) (v : Value) (a b d : Nat) : Keeps (fun q => q = g) w (setW w g k v a b d) := by
  refine ⟨rfl, rfl, rfl, ?_, fun q _ hq => ?_⟩
  · unfold setW; simp only [Deep.nblk_setCell]; exact Nat.le_refl _
  · unfold setW
    rw [Deep.blk_setCell_other _ _ _ _ hq, Deep.blk_setCell_other _ _ _ _ hq, Deep.blk_setCell_other _ _ _ _ hq, Deep.blk_setCell_other _ _ _ _ hq]
theorem setW_size (w : World) (g k : Nat) (v : Value) (a b d : Nat) : (setW w g k v a b d).heap.size = w.heap.size := by unfold setW; simp only [Deep.nblk_setCell]
theorem own_setW {w : World} {base e size g len cap : Nat} {xs : List Value} (h : w.ownsRow base e size (.slice (some ⟨g, 0, none⟩) len cap) len xs) (k : Nat) (v : Value) (a b d : Nat) :
    (setW w g k v a b d).ownsRow base e size (.slice (some ⟨g, 0, none⟩) len cap) len (set4 xs k v (.int .i64 (a : Int)) (.int .i64 (b : Int)) (.int .i64 (d : Int))) := by
  have o1 := (h.stored k v).1
  have o2 := (o1.stored (k + 1) (.int .i64 (a : Int))).1
  have o3 := (o2.stored (k + 2) (.int .i64 (b : Int))).1
  exact (o3.stored (k + 3) (.int .i64 (d : Int))).1
theorem WaysAt.drew {M : Duo} {B P : Nat} {w : World} {hv : Value} {es : List (List Nat × Value)} (h : WaysAt M B w P hv es) : WaysAt M B w.drew P hv es :=
  ⟨h.lo, h.lt, h.cell, h.frz, h.own, h.ap, fun e he => (h.ins e he).below ((Below.refl _ _).drew)⟩
theorem WaysAt.put {M : Duo} {B P : Nat} {w : World} {hv : Value} {es : List (List Nat × Value)} (h : WaysAt M B w P hv es) {g i : Nat} (hg : hv.ownBlock = some g) (hi : i < es.length) (e : List Nat × Value) (he : InAt w (inX B P hv) e.2 e.1) :
    WaysAt M B (setW w g (i * 4) e.2 (M.run e.1).1 (M.run e.1).2 (M.difL e.1)) P hv (es.set i e) := by
  obtain ⟨g', cap, rfl, _⟩ := h.slice (by omega)
  obtain rfl : g' = g := by simpa [Value.ownBlock] using hg
  have K := setW_keeps w g' (i * 4) e.2 (M.run e.1).1 (M.run e.1).2 (M.difL e.1)
  have hPg : P ≠ g' := fun e => h.ap (by rw [e]; rfl)
  have o4 := own_setW h.own (i * 4) e.2 (M.run e.1).1 (M.run e.1).2 (M.difL e.1)
  rw [rowW_set M es i e hi] at o4
  obtain ⟨w', hw'⟩ : ∃ w', w' = setW w g' (i * 4) e.2 (M.run e.1).1 (M.run e.1).2 (M.difL e.1) := ⟨_, rfl⟩
  have hsz : w'.heap.size = w.heap.size := by rw [hw']; exact setW_size _ _ _ _ _ _ _
  rw [← hw'] at K o4 ⊢
  clear hw'
  have hblk := K.block P h.lt hPg
  refine ⟨h.lo, by rw [hsz]; exact h.lt, (World.cell?_of_block (w := w) hblk).trans h.cell, (World.frozen?_of_block (w := w) hblk).trans h.frz, ?_, h.ap, fun x hx => ?_⟩
  · rw [List.length_set]
    exact o4
  · have hX : ∀ k, (fun q => q = g') k → inX B P (.slice (some ⟨g', 0, none⟩) es.length cap) k := fun k hk => .inl (.inr (by rw [show k = g' from hk]; rfl))
    rcases List.mem_or_eq_of_mem_set hx with hx | rfl
    · exact (h.ins x hx).keeps K hX
    · exact he.keeps K hX

/-- Two ways change places. -/
def swapE (es : List (List Nat × Value)) (i j : Nat) : List (List Nat × Value) := (es.set i (es.getD j noWay)).set j (es.getD i noWay)
theorem swapE_len (es : List (List Nat × Value)) (i j : Nat) : (swapE es i j).length = es.length := by simp [swapE]

set_option maxHeartbeats 2000000 in
set_option maxRecDepth 100000 in
theorem swap_any (M : Duo) (B P : Nat) (hv : Value) (es : List (List Nat × Value)) (i j : Nat) (w : World) (h : WaysAt M B w P hv es) (hi : i < es.length) (hj : j < es.length) (hn : es.length ≤ 10000) :
    Calls Tryz.prog 178 #[hv, .int .i64 i, .int .i64 j] w fun e w' => e = .returned (.tuple #[]) ∧ WaysAt M B w' P hv (swapE es i j) ∧ Keeps (heapBlocks P hv) w w' := by
  obtain ⟨g, cap, e, hcap⟩ := h.slice (by omega)
  have hg : hv.ownBlock = some g := by rw [e]; rfl
  have cell : ∀ k c x, k < es.length → c < 4 → (wayL M (es.getD k noWay))[c]? = some x → w.cell? ⟨g, k * 4 + c, none⟩ = some x := fun k c x hk hc hx => (h.get hg hk hc).trans hx
  obtain ⟨ei, hei⟩ : ∃ ei, ei = es.getD i noWay := ⟨_, rfl⟩
  obtain ⟨ej, hej⟩ : ∃ ej, ej = es.getD j noWay := ⟨_, rfl⟩
  obtain ⟨vi, hvi⟩ : ∃ vi, vi = ei.2 := ⟨_, rfl⟩
  obtain ⟨vj, hvj⟩ : ∃ vj, vj = ej.2 := ⟨_, rfl⟩
  obtain ⟨ai, hai⟩ : ∃ x : Nat, x = (M.run ei.1).1 := ⟨_, rfl⟩
  obtain ⟨bi, hbi⟩ : ∃ x : Nat, x = (M.run ei.1).2 := ⟨_, rfl⟩
  obtain ⟨di, hdi⟩ : ∃ x : Nat, x = M.difL ei.1 := ⟨_, rfl⟩
  obtain ⟨aj, haj⟩ : ∃ x : Nat, x = (M.run ej.1).1 := ⟨_, rfl⟩
  obtain ⟨bj, hbj⟩ : ∃ x : Nat, x = (M.run ej.1).2 := ⟨_, rfl⟩
  obtain ⟨dj, hdj⟩ : ∃ x : Nat, x = M.difL ej.1 := ⟨_, rfl⟩
  have ci0 : w.cell? ⟨g, i * 4, none⟩ = some vi := cell i 0 vi hi (by omega) (by rw [← hei, hvi]; rfl)
  have ci1 : w.cell? ⟨g, i * 4 + 1, none⟩ = some (.int .i64 ai) := cell i 1 _ hi (by omega) (by rw [← hei, hai]; rfl)
  have ci2 : w.cell? ⟨g, i * 4 + 2, none⟩ = some (.int .i64 bi) := cell i 2 _ hi (by omega) (by rw [← hei, hbi]; rfl)
  have ci3 : w.cell? ⟨g, i * 4 + 3, none⟩ = some (.int .i64 di) := cell i 3 _ hi (by omega) (by rw [← hei, hdi]; rfl)
  have cj0 : w.cell? ⟨g, j * 4, none⟩ = some vj := cell j 0 vj hj (by omega) (by rw [← hej, hvj]; rfl)
  have cj1 : w.cell? ⟨g, j * 4 + 1, none⟩ = some (.int .i64 aj) := cell j 1 _ hj (by omega) (by rw [← hej, haj]; rfl)
  have cj2 : w.cell? ⟨g, j * 4 + 2, none⟩ = some (.int .i64 bj) := cell j 2 _ hj (by omega) (by rw [← hej, hbj]; rfl)
  have cj3 : w.cell? ⟨g, j * 4 + 3, none⟩ = some (.int .i64 dj) := cell j 3 _ hj (by omega) (by rw [← hej, hdj]; rfl)
  have i0 : (0 : Int) ≤ (i : Int) := by omega
  have j0 : (0 : Int) ≤ (j : Int) := by omega
  have i1 : (i : Int) < (es.length : Int) := by omega
  have j1 : (j : Int) < (es.length : Int) := by omega
  have fz : ∀ k, w.frozen? ⟨g, k, none⟩ = false := fun k => by have := h.own; rw [e] at this; exact this.frozenAt k
  have fi0 := fz (i * 4)
  have fi1 := fz (i * 4 + 1)
  have fi2 := fz (i * 4 + 2)
  have fi3 := fz (i * 4 + 3)
  clear fz
  obtain ⟨avi, lvi, cvi, rfl⟩ : ∃ a n c, vi = .slice a n c := by have := h.inAt hi; rw [← hei] at this; obtain ⟨a, c, e2, _⟩ := this; exact ⟨a, _, c, hvi.trans e2⟩
  obtain ⟨avj, lvj, cvj, rfl⟩ : ∃ a n c, vj = .slice a n c := by have := h.inAt hj; rw [← hej] at this; obtain ⟨a, c, e2, _⟩ := this; exact ⟨a, _, c, hvj.trans e2⟩
  have hw0 := hideW hvi
  have hw1 := hideW hvj
  have hw2 := hideW hai
  have hw3 := hideW hbi
  have hw4 := hideW hdi
  have hw5 := hideW haj
  have hw6 := hideW hbj
  have hw7 := hideW hdj
  have hw8 := hideW hei
  have hw9 := hideW hej
  clear hvi hvj hai hbi hdi haj hbj hdj hei hej cell
  subst e
  go_enter Tryz.func178, Tryz.ntmps178
  go_wp2_with fail
  refine wp_region_noPanic ?_
  refine wp_region_any (by kernel_rfl) ?_
  simp only [List.size_toArray, List.length_cons, List.length_nil, Nat.zero_add, Nat.reduceAdd]
  refine wpAny_take (i := 0) (v := ?_) (by simp only [List.getElem?_toArray, List.getElem?_cons_zero]; rfl) (by kernel_rfl) (by kernel_rfl) (by kernel_rfl) (fun _ _ _ h => h) (Or.inl ⟨by rfl, ?_⟩) ?_
  rotate_left 1
  · (intro w0; go_simp; try (with_reducible rfl))
  simp only [Act.put, List.setIfInBounds_toArray, List.set_cons_zero, List.set_cons_succ]
  refine wpAny_take (i := 1) (v := ?_) (by simp only [List.getElem?_toArray, List.getElem?_cons_succ, List.getElem?_cons_zero]; rfl) (by kernel_rfl) (by kernel_rfl) (by kernel_rfl) (fun _ _ _ h => h) (Or.inl ⟨by rfl, ?_⟩) ?_
  rotate_left 1
  · (intro w0; go_simp; try (with_reducible rfl))
  simp only [Act.put, List.setIfInBounds_toArray, List.set_cons_zero, List.set_cons_succ]
  refine wpAny_take (i := 2) (v := ?_) (by simp only [List.getElem?_toArray, List.getElem?_cons_succ, List.getElem?_cons_zero]; rfl) (by kernel_rfl) (by kernel_rfl) (by kernel_rfl) (fun _ _ _ h => h) (Or.inl ⟨by rfl, ?_⟩) ?_
  rotate_left 1
  · (intro w0; go_simp; try (with_reducible rfl))
  simp only [Act.put, List.setIfInBounds_toArray, List.set_cons_zero, List.set_cons_succ]
  refine wpAny_take (i := 3) (v := ?_) (by simp only [List.getElem?_toArray, List.getElem?_cons_succ, List.getElem?_cons_zero]; rfl) (by kernel_rfl) (by kernel_rfl) (by kernel_rfl) (fun _ _ _ h => h) (Or.inl ⟨by rfl, ?_⟩) ?_
  rotate_left 1
  · (intro w0; go_simp; try (with_reducible rfl))
  simp only [Act.put, List.setIfInBounds_toArray, List.set_cons_zero, List.set_cons_succ]
  refine wpAny_take (i := 4) (v := ?_) (by simp only [List.getElem?_toArray, List.getElem?_cons_succ, List.getElem?_cons_zero]; rfl) (by kernel_rfl) (by kernel_rfl) (by kernel_rfl) (fun _ _ _ h => h) (Or.inl ⟨by rfl, ?_⟩) ?_
  rotate_left 1
  · (intro w0; go_simp; try (with_reducible rfl))
  simp only [Act.put, List.setIfInBounds_toArray, List.set_cons_zero, List.set_cons_succ]
  refine wpAny_take (i := 5) (v := ?_) (by simp only [List.getElem?_toArray, List.getElem?_cons_succ, List.getElem?_cons_zero]; rfl) (by kernel_rfl) (by kernel_rfl) (by kernel_rfl) (fun _ _ _ h => h) (Or.inl ⟨by rfl, ?_⟩) ?_
  rotate_left 1
  · (intro w0; go_simp; try (with_reducible rfl))
  simp only [Act.put, List.setIfInBounds_toArray, List.set_cons_zero, List.set_cons_succ]
  refine wpAny_take (i := 6) (v := ?_) (by simp only [List.getElem?_toArray, List.getElem?_cons_succ, List.getElem?_cons_zero]; rfl) (by kernel_rfl) (by kernel_rfl) (by kernel_rfl) (fun _ _ _ h => h) (Or.inl ⟨by rfl, ?_⟩) ?_
  rotate_left 1
  · (intro w0; go_simp; try (with_reducible rfl))
  simp only [Act.put, List.setIfInBounds_toArray, List.set_cons_zero, List.set_cons_succ]
  refine wpAny_take (i := 8) (v := ?_) (by simp only [List.getElem?_toArray, List.getElem?_cons_succ, List.getElem?_cons_zero]; rfl) (by kernel_rfl) (by kernel_rfl) (by kernel_rfl) (fun _ _ _ h => h) (Or.inl ⟨by rfl, ?_⟩) ?_
  rotate_left 1
  · (intro w0; go_simp; try (with_reducible rfl))
  simp only [Act.put, List.setIfInBounds_toArray, List.set_cons_zero, List.set_cons_succ]
  refine wpAny_take (i := 9) (v := ?_) (by simp only [List.getElem?_toArray, List.getElem?_cons_succ, List.getElem?_cons_zero]; rfl) (by kernel_rfl) (by kernel_rfl) (by kernel_rfl) (fun _ _ _ h => h) (Or.inl ⟨by rfl, ?_⟩) ?_
  rotate_left 1
  · (intro w0; go_simp; try (with_reducible rfl))
  simp only [Act.put, List.setIfInBounds_toArray, List.set_cons_zero, List.set_cons_succ]
  refine wpAny_take (i := 10) (v := ?_) (by simp only [List.getElem?_toArray, List.getElem?_cons_succ, List.getElem?_cons_zero]; rfl) (by kernel_rfl) (by kernel_rfl) (by kernel_rfl) (fun _ _ _ h => h) (Or.inl ⟨by rfl, ?_⟩) ?_
  rotate_left 1
  · (intro w0; go_simp; try (with_reducible rfl))
  simp only [Act.put, List.setIfInBounds_toArray, List.set_cons_zero, List.set_cons_succ]
  have hS0 : (fun w' : World => w'.cell? ⟨g, i * 4, none⟩ = some (.slice avi lvi cvi) ∧ w'.cell? ⟨g, i * 4 + 1, none⟩ = some (.int .i64 ai) ∧ w'.cell? ⟨g, i * 4 + 2, none⟩ = some (.int .i64 bi) ∧ w'.cell? ⟨g, i * 4 + 3, none⟩ = some (.int .i64 di) ∧ w'.cell? ⟨g, j * 4, none⟩ = some (.slice avj lvj cvj) ∧ w'.cell? ⟨g, j * 4 + 1, none⟩ = some (.int .i64 aj) ∧ w'.cell? ⟨g, j * 4 + 2, none⟩ = some (.int .i64 bj) ∧ w'.cell? ⟨g, j * 4 + 3, none⟩ = some (.int .i64 dj)) w.drew := ⟨ci0, ci1, ci2, ci3, cj0, cj1, cj2, cj3⟩
  refine wpAny_of_K (k := 13) (S := fun w' : World => w'.cell? ⟨g, i * 4, none⟩ = some (.slice avi lvi cvi) ∧ w'.cell? ⟨g, i * 4 + 1, none⟩ = some (.int .i64 ai) ∧ w'.cell? ⟨g, i * 4 + 2, none⟩ = some (.int .i64 bi) ∧ w'.cell? ⟨g, i * 4 + 3, none⟩ = some (.int .i64 di) ∧ w'.cell? ⟨g, j * 4, none⟩ = some (.slice avj lvj cvj) ∧ w'.cell? ⟨g, j * 4 + 1, none⟩ = some (.int .i64 aj) ∧ w'.cell? ⟨g, j * 4 + 2, none⟩ = some (.int .i64 bj) ∧ w'.cell? ⟨g, j * 4 + 3, none⟩ = some (.int .i64 dj)) _ _ _ _ ?_
  refine wpAnyK_take (i := 7) (v := ?_) (by simp only [List.getElem?_toArray, List.getElem?_cons_succ, List.getElem?_cons_zero]; rfl) (by kernel_rfl) (by kernel_rfl) (by kernel_rfl) (by kernel_rfl) (by kernel_rfl) (by kernel_rfl) (fun _ _ _ h => h) (Or.inl ⟨by rfl, ?_⟩) hS0 ?_
  rotate_left 1
  · (intro w0 hSw; (try dsimp only at hSw); go_simp; try (with_reducible rfl))
  simp only [Act.put, List.setIfInBounds_toArray, List.set_cons_zero, List.set_cons_succ]
  refine wpAnyK_take (i := 11) (v := ?_) (by simp only [List.getElem?_toArray, List.getElem?_cons_succ, List.getElem?_cons_zero]; rfl) (by kernel_rfl) (by kernel_rfl) (by kernel_rfl) (by kernel_rfl) (by kernel_rfl) (by kernel_rfl) (fun _ _ _ h => h) (Or.inl ⟨by rfl, ?_⟩) hS0 ?_
  rotate_left 1
  · (intro w0 hSw; (try dsimp only at hSw); go_simp; try (with_reducible rfl))
  simp only [Act.put, List.setIfInBounds_toArray, List.set_cons_zero, List.set_cons_succ]
  refine wpAnyK_take (i := 12) (v := ?_) (by simp only [List.getElem?_toArray, List.getElem?_cons_succ, List.getElem?_cons_zero]; rfl) (by kernel_rfl) (by kernel_rfl) (by kernel_rfl) (by kernel_rfl) (by kernel_rfl) (by kernel_rfl) (fun _ _ _ h => h) (Or.inl ⟨by rfl, ?_⟩) hS0 ?_
  rotate_left 1
  · (intro w0 hSw; (try dsimp only at hSw); go_simp; try (with_reducible rfl))
  simp only [Act.put, List.setIfInBounds_toArray, List.set_cons_zero, List.set_cons_succ]
  refine wpAnyK_here (by kernel_rfl) (by simp only [List.getElem?_toArray, List.getElem?_cons_succ, List.getElem?_cons_zero]; rfl) (fun K hK => ?_)
  go_simp
  refine hK _ _ ?_
  clear hK K
  have hin := h.inAt hj
  rw [← hw9.out] at hin
  have h4 := h.put hg hi ej hin
  rw [← hw1.out, ← hw5.out, ← hw6.out, ← hw7.out] at h4
  obtain ⟨W4, hW4⟩ : ∃ W4, W4 = setW w g (i * 4) (.slice avj lvj cvj) aj bj dj := ⟨_, rfl⟩
  rw [← hW4] at h4
  have K4 : Keeps (fun q => q = g) w W4 := by rw [hW4]; exact setW_keeps _ _ _ _ _ _ _
  unfold setW at hW4
  rw [← hW4]
  clear hW4
  have hlen : (es.set i ej).length = es.length := by simp
  have cell : ∀ c, c < 4 → ∃ x, W4.cell? ⟨g, j * 4 + c, none⟩ = some x := fun c hc => by
    rw [h4.get hg (by omega) hc]
    exact ⟨_, List.getElem?_eq_getElem (by simp [wayL]; omega)⟩
  obtain ⟨x0, hx0⟩ := cell 0 (by omega)
  obtain ⟨x1, hx1⟩ := cell 1 (by omega)
  obtain ⟨x2, hx2⟩ := cell 2 (by omega)
  obtain ⟨x3, hx3⟩ := cell 3 (by omega)
  rw [Nat.add_zero] at hx0
  have own4 := h4.own
  rw [hlen] at own4
  have fj0 : W4.frozen? ⟨g, j * 4, none⟩ = false := own4.frozenAt _
  have fj1 : W4.frozen? ⟨g, j * 4 + 1, none⟩ = false := own4.frozenAt _
  have fj2 : W4.frozen? ⟨g, j * 4 + 2, none⟩ = false := own4.frozenAt _
  have fj3 : W4.frozen? ⟨g, j * 4 + 3, none⟩ = false := own4.frozenAt _
  clear own4 cell ci0 ci1 ci2 ci3 cj0 cj1 cj2 cj3 hS0 fi0 fi1 fi2 fi3
  refine wpAny_take (i := 14) (v := ?_) (by simp only [List.getElem?_toArray, List.getElem?_cons_succ, List.getElem?_cons_zero]; rfl) (by kernel_rfl) (by kernel_rfl) (by kernel_rfl) (fun _ _ _ h => h) (Or.inl ⟨by rfl, ?_⟩) ?_
  rotate_left 1
  · (intro w0; go_simp; try (with_reducible rfl))
  simp only [Act.put, List.setIfInBounds_toArray, List.set_cons_zero, List.set_cons_succ]
  refine wpAny_here (i := 15) (by kernel_rfl) (by simp only [List.getElem?_toArray, List.getElem?_cons_succ, List.getElem?_cons_zero]; rfl) (fun K hK => ?_)
  go_simp
  refine hK _ _ ?_
  clear hK K
  refine wpAny_done (by kernel_rfl) ?_ _
  refine NoPanic.normal ?_
  have hin2 := (h.inAt hi).keeps K4 (fun k hk => .inl (.inr (by rw [show k = g from hk]; rfl)))
  rw [← hw8.out] at hin2
  have h5 := h4.put hg (show j < (es.set i ej).length by rw [hlen]; exact hj) ei hin2
  rw [← hw0.out, ← hw2.out, ← hw3.out, ← hw4.out] at h5
  have K5 := K4.trans (setW_keeps W4 g (j * 4) (.slice avi lvi cvi) ai bi di)
  have hsw : (es.set i ej).set j ei = swapE es i j := by unfold swapE; rw [← hw8.out, ← hw9.out]
  rw [hsw] at h5
  go_wp2
  go_end0
  exact ⟨rfl, h5.drew, (K5.mono (fun k _ hk => .inr (by rw [show k = g from hk]; rfl))).drewR⟩

end Go.Proofs.YtgpaajdfkekjiaaGreatDoor
