/-
  Small functions that package compare leans on: cmp.Compare and slices.Compare at ints, slices.Clip, with.
-/
import Derived.Test.YtgpaajdfkekjiaaGreatDoorBase
import Derived.Test.YtgpaajdfkekjiaaGreatDoorDuoC
import Derived.Test.YtgpaajdfkekjiaaGreatDoorPairsAll
import Derived.Test.YtgpaajdfkekjiaaGreatDoorKeeps
import Derived.Test.YtgpaajdfkekjiaaGreatDoorBox
import Derived.ArgAppend
namespace Go.Proofs.YtgpaajdfkekjiaaGreatDoor
open Go.RowKit

theorem isNaN_any (x : Int) (w : World) : Calls Tryz.prog 181 #[.int .i64 x] w fun e w' => e = .returned (.bool false) ∧ w' = w := by
  have h : (x != x) = false := by simp
  go_enter Tryz.func181, Tryz.ntmps181
  go_wp2
  go_ret
  exact ⟨rfl, rfl⟩

def cmpI (x y : Int) : Int := if x < y then -1 else if y < x then 1 else 0
theorem cmpCompare_any (x y : Int) (w : World) : Calls Tryz.prog 180 #[.int .i64 x, .int .i64 y] w fun e w' => e = .returned (.int .i64 (cmpI x y)) ∧ w' = w := by
  by_cases h1 : x < y
  · go_enter Tryz.func180, Tryz.ntmps180
    go_wp2_with (go_at_call 181; refine (isNaN_any _ _).mono ?_; rintro e w' ⟨rfl, hw⟩; have hw := hw.symm; subst hw)
    go_ret
    exact ⟨ret_int (by simp [cmpI, h1]), rfl⟩
  · by_cases h2 : y < x
    · go_enter Tryz.func180, Tryz.ntmps180
      go_wp2_with (go_at_call 181; refine (isNaN_any _ _).mono ?_; rintro e w' ⟨rfl, hw⟩; have hw := hw.symm; subst hw)
      go_ret
      exact ⟨ret_int (by simp [cmpI, h1, h2]), rfl⟩
    · go_enter Tryz.func180, Tryz.ntmps180
      go_wp2_with (go_at_call 181; refine (isNaN_any _ _).mono ?_; rintro e w' ⟨rfl, hw⟩; have hw := hw.symm; subst hw)
      go_ret
      exact ⟨ret_int (by unfold cmpI; rw [if_neg (by omega), if_neg (by omega)]), rfl⟩
theorem cmpCompare_is {x y c : Int} (w : World) (h : cmpI x y = c) : Calls Tryz.prog 180 #[.int .i64 x, .int .i64 y] w fun e w' => e = .returned (.int .i64 c) ∧ w' = w := by
  subst h; exact cmpCompare_any x y w

/-- Of two lists as long, the sign of the first numbers in which they part tells which is less. -/
theorem code_app2 {A B : List Nat} (h : code A < code B) : ∀ (n : Nat) (r s : List Nat), r.length = n → s.length = n → Dig r → code (A ++ r) < code (B ++ s) := by
  intro n
  induction n with
  | zero =>
    intro r s hr hs _
    obtain rfl := List.length_eq_zero_iff.1 hr
    obtain rfl := List.length_eq_zero_iff.1 hs
    simpa using h
  | succ n ih =>
    intro r s hr hs hd
    rcases snoc_cases r with rfl | ⟨q, i, rfl⟩
    · simp at hr
    rcases snoc_cases s with rfl | ⟨t, j, rfl⟩
    · simp at hs
    obtain ⟨hq, hi⟩ := dig_snoc.1 hd
    have := ih q t (by simpa using hr) (by simpa using hs) hq
    rw [← List.append_assoc, ← List.append_assoc, code_snoc, code_snoc]
    omega
theorem split_at (u : List Nat) (k : Nat) (h : k < u.length) : u = (u.take k ++ [u.getD k 0]) ++ u.drop (k + 1) := by
  have := List.take_append_drop (k + 1) u
  rw [take_one u 0 k h] at this
  exact this.symm
theorem code_first {u v : List Nat} {k : Nat} (hl : u.length = v.length) (hk : k < u.length) (heq : u.take k = v.take k) (hu : Dig u) (hlt : u.getD k 0 < v.getD k 0) : code u < code v := by
  rw [split_at u k hk, split_at v k (by omega), heq]
  refine code_app2 ?_ (u.length - (k + 1)) _ _ (by simp) (by simp; omega) (fun i hi => hu i (List.drop_subset _ _ hi))
  rw [code_snoc, code_snoc]
  omega

def cmpL (u v : List Nat) : Int := if code u < code v then -1 else if code v < code u then 1 else 0

theorem zs_getD (u : List Nat) (k : Nat) : (zs u).getD k 0 = ((u.getD k 0 : Nat) : Int) := by
  simp only [zs, List.getD_eq_getElem?_getD, List.getElem?_map]
  cases u[k]? <;> rfl
theorem take_eq_of (u v : List Nat) (hl : u.length = v.length) : ∀ k, k ≤ u.length → (∀ j, j < k → u.getD j 0 = v.getD j 0) → u.take k = v.take k := by
  intro k
  induction k with
  | zero => intro _ _; simp
  | succ k ih =>
    intro hk h
    rw [take_one u 0 k (by omega), take_one v 0 k (by omega), ih (by omega) (fun j hj => h j (by omega)), h k (by omega)]

set_option maxHeartbeats 1000000 in
set_option maxRecDepth 100000 in
/-- slices.Compare, of two lists as long. -/
theorem slicesCompare_any (aa ba : Option Addr) (ac bc : Nat) (u v : List Nat) (w : World) (hl : u.length = v.length) (hb : u.length ≤ 1000) (hu : Dig u) (hv : Dig v) (hX : IntsAt w aa (zs u)) (hY : IntsAt w ba (zs v)) :
    Calls Tryz.prog 179 #[.slice aa u.length ac, .slice ba u.length bc] w fun e w' => e = .returned (.int .i64 (cmpL u v)) ∧ w' = w := by
  have HL : Hid (u.length = v.length) := hl
  clear hl
  go_enter Tryz.func179, Tryz.ntmps179
  go_wp2
  go_loop [5, 6, 7, 8, 11] (fun _ _ _ _ i => ∃ k : Nat, k ≤ u.length ∧ i = .int .i64 k ∧ (∀ j, j < k → u.getD j 0 = v.getD j 0)) (fun _ _ _ _ i => u.length - (intOf i).toNat)
  case atStart => exact ⟨0, Nat.zero_le _, rfl, fun j hj => absurd hj (Nat.not_lt_zero j)⟩
  case round =>
    obtain ⟨k, hk, rfl, hall⟩ := hrel
    have HA : Hid (∀ j, j < k → u.getD j 0 = v.getD j 0) := hall
    clear hall
    by_cases hk2 : k < u.length
    · obtain ⟨b, off, rfl, hlt, hc⟩ := hX.get (by rw [zs_len]; omega)
      obtain ⟨b', off', rfl, hlt', hc'⟩ := hY.get (by rw [zs_len, ← HL.out]; omega)
      have hcy := hc k (by rw [zs_len]; exact hk2)
      have hcz := hc' k (by rw [zs_len, ← HL.out]; exact hk2)
      rw [zs_getD] at hcy hcz
      obtain ⟨x, hx⟩ : ∃ x : Nat, x = u.getD k 0 := ⟨_, rfl⟩
      obtain ⟨y, hy⟩ : ∃ y : Nat, y = v.getD k 0 := ⟨_, rfl⟩
      rw [← hx] at hcy
      rw [← hy] at hcz
      have HX : Hid (x = u.getD k 0) := hx
      have HY : Hid (y = v.getD k 0) := hy
      have k1 : (k : Int) < (u.length : Int) := by omega
      clear hx hy hc hc'
      rcases Nat.lt_trichotomy x y with h | h | h
      · have hcm : cmpI x y = -1 := by simp [cmpI]; omega
        go_wp2_with (go_at_call 180; refine (cmpCompare_is _ hcm).mono ?_; rintro e w' ⟨rfl, hw⟩; have hw := hw.symm; subst hw)
        go_ret
        have := code_first HL.out hk2 (take_eq_of u v HL.out k hk HA.out) hu (by rw [← HX.out, ← HY.out]; exact h)
        exact ⟨ret_int (by simp [cmpL, this]), rfl⟩
      · subst h
        have hcm : cmpI x x = 0 := by simp [cmpI]
        go_wp2_with (go_at_call 180; refine (cmpCompare_is _ hcm).mono ?_; rintro e w' ⟨rfl, hw⟩; have hw := hw.symm; subst hw)
        go_round
        case rel => exact ⟨k + 1, by omega, by go_num, all_succ HA.out (by rw [← HX.out, ← HY.out])⟩
        case measure => simp [intOf]; omega
      · have hcm : cmpI x y = 1 := by simp [cmpI]; omega
        go_wp2_with (go_at_call 180; refine (cmpCompare_is _ hcm).mono ?_; rintro e w' ⟨rfl, hw⟩; have hw := hw.symm; subst hw)
        go_ret
        have := code_first HL.out.symm (by rw [← HL.out]; exact hk2) (take_eq_of u v HL.out k hk HA.out).symm hv (by rw [← HX.out, ← HY.out]; exact h)
        exact ⟨ret_int (by unfold cmpL; rw [if_neg (by omega), if_pos this]), rfl⟩
    · have hlt : ¬ (u.length : Int) < (u.length : Int) := by omega
      go_wp2
      go_ret
      have : u = v := by
        have := take_eq_of u v HL.out u.length (Nat.le_refl _) (fun j hj => HA.out j (by omega))
        rw [List.take_length, HL.out, List.take_length] at this
        exact this
      exact ⟨ret_int (by subst this; simp [cmpL]), rfl⟩

/-- A list of inputs in memory, in no block of X. -/
def InAt (w : World) (X : Nat → Prop) (v : Value) (u : List Nat) : Prop :=
  ∃ a c, v = .slice a u.length c ∧ IntsAt w a (zs u) ∧ u.length ≤ c ∧ (a = none → u.length = 0 ∧ c = 0) ∧ (∀ b, a = some b → ¬ X b.block ∧ b.block < w.heap.size) ∧ w.ownsRow 0 3 1 v u.length (ivals u)
theorem InAt.nil (w : World) (X : Nat → Prop) : InAt w X (.slice none 0 0) [] := ⟨none, 0, rfl, .inl rfl, Nat.le_refl _, fun _ => ⟨rfl, rfl⟩, (fun b h => by cases h), World.ownsRow_nil _ _ _ _⟩
theorem InAt.keeps {w w' : World} {X S : Nat → Prop} {v : Value} {u : List Nat} (h : InAt w X v u) (K : Keeps S w w') (hS : ∀ k, S k → X k) : InAt w' X v u := by
  obtain ⟨a, c, hv, hi, hl, hn, hb, ho⟩ := h
  refine ⟨a, c, hv, ?_, hl, hn, (fun b e => ⟨(hb b e).1, Nat.lt_of_lt_of_le (hb b e).2 K.size⟩), own_blocks ho (fun q hq => K.block q (ho.lt q hq).2 (fun hs => ?_))⟩
  rotate_left 1
  · rcases ho.2 with ⟨h', _⟩ | ⟨g, cap, cur, h', _⟩
    · rw [h'] at hq; cases hq
    · rw [h'] at hq
      simp only [Value.ownBlock, Option.some.injEq] at hq
      rw [h'] at hv
      simp only [Value.slice.injEq] at hv
      exact (hb _ hv.1.symm).1 (hS _ (hq ▸ hs))
  rcases hi with h0 | ⟨b, off, rfl, hlt, hc⟩
  · exact .inl h0
  · exact .inr ⟨b, off, rfl, Nat.lt_of_lt_of_le hlt K.size, fun i hi => (K.cell (p := ⟨b, off + i, none⟩) hlt (fun h => (hb ⟨b, off, none⟩ rfl).1 (hS _ h))).trans (hc i hi)⟩
theorem InAt.below {w w' : World} {X : Nat → Prop} {v : Value} {u : List Nat} (h : InAt w X v u) (hb : Below w.heap.size w w') : InAt w' X v u :=
  h.keeps (S := fun _ => False) ⟨hb.os, hb.tape, hb.output, hb.size, fun k hk _ => hb.block k hk⟩ (fun _ h => h.elim)
theorem InAt.mono {w : World} {X Y : Nat → Prop} {v : Value} {u : List Nat} (h : InAt w X v u) (hY : ∀ k, k < w.heap.size → Y k → X k) : InAt w Y v u := by
  obtain ⟨a, c, hv, hi, hl, hn, hb, ho⟩ := h
  exact ⟨a, c, hv, hi, hl, hn, (fun b e => ⟨fun hy => (hb b e).1 (hY _ (hb b e).2 hy), (hb b e).2⟩), ho⟩

theorem clip_any (a : Option Addr) (n c : Nat) (w : World) (hn : n ≤ 1000) (hc : n ≤ c) :
    Calls Tryz.prog 119 #[.slice a n c] w fun e w' => e = .returned (.slice a n n) ∧ w' = w := by
  have h1 : (n : Int) ≤ (c : Int) := by omega
  have h2 : (0 : Int) ≤ (n : Int) := by omega
  go_enter Tryz.func119, Tryz.ntmps119
  go_wp2
  go_ret
  exact ⟨rfl, rfl⟩
theorem ivals_get (l : List Nat) (j : Nat) (h : j < l.length) : (ivals l)[j]? = some (.int .i64 ((l.getD j 0 : Nat) : Int)) := by simp [ivals, h]
theorem grownB {w w' : World} (h : w.grownBy w' none) : Below w.heap.size w w' := ⟨h.os, h.tape, h.output, h.size, fun k hk => h.block k hk (by simp)⟩

set_option maxHeartbeats 400000 in
set_option maxRecDepth 100000 in
/-- with: a new list, one number longer. -/
theorem with_any (X : Nat → Prop) (v : Value) (u : List Nat) (i : Nat) (w : World) (hu : u.length ≤ 500) (hv : InAt w X v u) :
    Calls Tryz.prog 110 #[v, .int .i64 i] w fun e w' => ∃ v', e = .returned v' ∧ (∀ Y : Nat → Prop, (∀ k, Y k → k < w.heap.size) → InAt w' Y v' (u ++ [i])) ∧ Below w.heap.size w w' := by
  obtain ⟨a, c, rfl, hi, hl, hn, hb, _⟩ := hv
  obtain ⟨i0, hi0, hz0, hz1, hz2⟩ := info_parts Tryz.infoInt
  have bel : Below w.heap.size w (w.alloc (.cells #[.int .i64 i] 3)) := (Below.refl _ _).alloc (Nat.le_refl _) _
  have hold : ∀ b, a = some b → ∀ j x, (ivals u)[j]? = some x → (w.alloc (.cells #[.int .i64 i] 3)).cell? (b.add j) = some x := by
    intro b e j x hx
    subst e
    have hj : j < u.length := by
      have := (List.getElem?_eq_some_iff.1 hx).1; rwa [ivals_len] at this
    obtain ⟨b', off, e, hlt, hc⟩ := (hi.below bel).get (by rw [zs_len]; omega)
    obtain rfl := Option.some.inj e
    have := hc j (by rw [zs_len]; exact hj)
    rw [zs_getD] at this
    have e2 : (⟨b', off, none⟩ : Addr).add j = ⟨b', off + j, none⟩ := by unfold Addr.add; split <;> simp_all
    rw [e2, this]
    simp [ivals, hj] at hx
    rw [← hx]
    simp [hj]
  go_enter Tryz.func110, Tryz.ntmps110
  go_wp2_with (first | (go_at_call 119; refine (clip_any a u.length c _ (by omega) hl).mono ?_; rintro e w' ⟨rfl, hw⟩; have hw := hw.symm; subst hw) | (at_builtin; refine wpList_append_grows _ rfl (.tmp 6) (.tmp 8) 32 rfl 3 i0 (.int .i64 0) 1 8 Tryz.underlying32 hi0 hz0 hz1 hz2 rfl (by omega) a u.length u.length (ivals u) rfl (fun e => ⟨(hn e).1, (hn e).1⟩) (by rw [ivals_len]; omega) hold ⟨w.heap.size, 0, none⟩ 1 1 [.int .i64 i] rfl rfl (World.news_of_block (heap_alloc_new w _)) (by simp [Value.oneCell']) (by omega) (by unfold maxLen; omega) (by omega) ?_; intro v' w1 own1 grow1))
  obtain ⟨g, cap, rfl, hge, hlt⟩ := own1.form (by omega)
  have hs : w.heap.size < (w.alloc (.cells #[.int .i64 i] 3)).heap.size := by simp
  have hlen : (u ++ [i]).length = u.length + 1 := by simp
  go_ret
  refine ⟨.slice (some ⟨g, 0, none⟩) (u.length + 1) cap, rfl, fun Y hY => ⟨some ⟨g, 0, none⟩, cap, (by rw [hlen]), .inr ⟨g, 0, rfl, hlt, fun j hj => ?_⟩, ?_, (fun e => by cases e), (fun b e => ?_), ?_⟩, bel.trans ((grownB grow1).mono (by simp))⟩
  · rw [zs_len, hlen] at hj
    rw [Nat.zero_add, own1.cellAt j (by omega), zs_getD]
    have e3 : ivals u ++ [.int .i64 (i : Int)] = ivals (u ++ [i]) := (ivals_snoc u i).symm
    rw [e3]
    exact ivals_get _ j (by rw [hlen]; exact hj)
  · rw [hlen]
    rcases own1.2 with ⟨h', _⟩ | ⟨g', cap', cur, h', _, _, hle, _⟩
    · cases h'
    · simp only [Value.slice.injEq, Option.some.injEq, Addr.mk.injEq, and_true, true_and] at h'
      obtain ⟨rfl, rfl⟩ := h'
      exact hle
  · obtain rfl := Option.some.inj e
    refine ⟨fun hy => ?_, hlt⟩
    have h1 := hY _ hy
    have h2 : w.heap.size < g := Nat.lt_of_lt_of_le hs hge
    dsimp only at h1
    omega
  · rw [hlen, ivals_snoc]
    exact own1.lower (Nat.zero_le _)

end Go.Proofs.YtgpaajdfkekjiaaGreatDoor
