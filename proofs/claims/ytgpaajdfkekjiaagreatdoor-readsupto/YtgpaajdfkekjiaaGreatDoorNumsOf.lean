/-
  What numbersOf of package text answers: the numbers that words spell, if each is a number's own numeral; and what of the library's variables it needs.
-/
import Derived.Test.YtgpaajdfkekjiaaGreatDoorLay
import Derived.Lib.AppendIntMem
import Derived.Test.YtgpaajdfkekjiaaGreatDoorPlainRd
import Derived.Test.YtgpaajdfkekjiaaGreatDoorKeeps
namespace Go.Proofs.YtgpaajdfkekjiaaGreatDoor
open Go.RowKit

/-- The library's variables that reading meets. -/
structure Lib0 (w : World) : Prop where
  mx : ∃ m, w.cell? ⟨2, 0, none⟩ = some (.int .i64 m)
  es : ∃ tp p, w.cell? ⟨4, 0, none⟩ = some (.iface tp p)
  er : ∃ tp p, w.cell? ⟨5, 0, none⟩ = some (.iface tp p)
  tab : Lib.TabIs Tryz.prog w "internal/strconv.uint64pow10" .u64 Lib.pow10Tab
theorem gPow : Tryz.prog.globalNamed "internal/strconv.uint64pow10" = some 3 := by kernel_rfl
def isGlob (k : Nat) : Prop := k = 2 ∨ k = 4 ∨ k = 5 ∨ k = 3
theorem var_lt {P : Program} {w : World} {n : String} {g : Nat} {cs : Array Value} (hg : P.globalNamed n = some g) (h : w.var? P n = some cs) : g < w.heap.size := by
  unfold World.var? at h
  rw [hg] at h
  simp only [Option.bind_some] at h
  rcases Nat.lt_or_ge g w.heap.size with hlt | hge
  · exact hlt
  · rw [Array.getElem?_eq_none hge] at h; cases h
theorem var_block {P : Program} {w w' : World} {n : String} {g : Nat} (hg : P.globalNamed n = some g) (h : w'.heap[g]? = w.heap[g]?) : w'.var? P n = w.var? P n := by
  unfold World.var?
  rw [hg]
  simp only [Option.bind_some, h]
theorem Lib0.lt {w : World} (h : Lib0 w) {k : Nat} (hk : isGlob k) : k < w.heap.size := by
  rcases hk with rfl | rfl | rfl | rfl
  · obtain ⟨m, hm⟩ := h.mx; exact World.block_lt_of_cell? _ _ hm
  · obtain ⟨t, p, hm⟩ := h.es; exact World.block_lt_of_cell? _ _ hm
  · obtain ⟨t, p, hm⟩ := h.er; exact World.block_lt_of_cell? _ _ hm
  · exact var_lt gPow h.tab
theorem Lib0.blocks {w w' : World} (h : Lib0 w) (hk : ∀ k, isGlob k → w'.heap[k]? = w.heap[k]?) : Lib0 w' := by
  refine ⟨?_, ?_, ?_, ?_⟩
  · obtain ⟨m, hm⟩ := h.mx; exact ⟨m, (World.cell?_of_block (w := w) (hk _ (.inl rfl))).trans hm⟩
  · obtain ⟨t, p, hm⟩ := h.es; exact ⟨t, p, (World.cell?_of_block (w := w) (hk _ (.inr (.inl rfl)))).trans hm⟩
  · obtain ⟨t, p, hm⟩ := h.er; exact ⟨t, p, (World.cell?_of_block (w := w) (hk _ (.inr (.inr (.inl rfl))))).trans hm⟩
  · exact (var_block gPow (hk _ (.inr (.inr (.inr rfl))))).trans h.tab
theorem Lib0.below {w w' : World} (h : Lib0 w) (hb : Below w.heap.size w w') : Lib0 w' := h.blocks (fun k hk => hb.block k (h.lt hk))
theorem Lib0.keeps {S : Nat → Prop} {w w' : World} (h : Lib0 w) (K : Keeps S w w') (hS : ∀ k, isGlob k → ¬ S k) : Lib0 w' := h.blocks (fun k hk => K.block k (h.lt hk) (hS k hk))

theorem atoi_one : ∀ n : Fin 10, Lib.atoiAll [UInt8.ofNat (48 + n.val)] = .ok (n.val : Int) := by decide
theorem atoi_two : ∀ a b : Fin 10, Lib.atoiAll [UInt8.ofNat (48 + a.val), UInt8.ofNat (48 + b.val)] = .ok ((10 * a.val + b.val : Nat) : Int) := by decide
theorem atoi_small (n : Nat) (h : n < 100) : Lib.atoiAll (Lib.decDigits n) = .ok (n : Int) := by
  by_cases h1 : n < 10
  · rw [Lib.decDigits_one h1]; exact atoi_one ⟨n, h1⟩
  · rw [Lib.decDigits_two h1 h]
    have := atoi_two ⟨n / 10, by omega⟩ ⟨n % 10, by omega⟩
    simp only at this
    rw [this]
    congr 2
    omega

theorem itoa_all (n : Nat) (h : n < 9223372036854775808) (w : World) (hL : Lib0 w) :
    Calls Tryz.prog 93 #[.int .i64 (n : Int)] w fun e w' => e = .returned (.string ⟨(Lib.decDigits n).toArray⟩) ∧ Below w.heap.size w w' := by
  refine (Any.strconv_Itoa laysI (n : Int) (by omega) (by omega) w hL.tab).mono ?_
  rintro e w' ⟨rfl, k, os, rfl⟩
  refine ⟨by rw [Lib.itoa_nonneg], ?_⟩
  exact Lib.below_grow _ _ (Nat.le_refl _) _ _

theorem itoa_int (v : Int) (h0 : ¬ v < 0) (h : v < 9223372036854775808) (w : World) (hL : Lib0 w) :
    Calls Tryz.prog 93 #[.int .i64 v] w fun e w' => e = .returned (.string ⟨(Lib.decDigits v.toNat).toArray⟩) ∧ Below w.heap.size w w' := by
  obtain ⟨n, rfl⟩ := Int.eq_ofNat_of_zero_le (show 0 ≤ v by omega)
  exact itoa_all n (by omega) w hL
theorem atoi_ok (X : List UInt8) (v : Int) (h : Lib.atoiAll X = .ok v) (hl : X.length ≤ 2000) (w : World) :
    Calls Tryz.prog 116 #[.string ⟨X.toArray⟩] w fun e w' => e = .returned (.tuple #[.int .i64 v, .nilIface]) ∧ Below w.heap.size w w' := by
  refine (Any.strconv_Atoi_ok laysC172 ⟨X.toArray⟩ (by show X.toArray.size ≤ _; simp; omega) v (by simpa using h) w).mono ?_
  rintro e w' ⟨rfl, h1⟩
  refine ⟨rfl, ?_⟩
  rcases h1 with rfl | ⟨t, rfl⟩
  · exact Below.refl _ _
  · exact Lib.bytesWorld_below _ _ _
theorem atoi_bad (X : List UInt8) (h : Lib.atoiAll X = .«syntax» ∨ Lib.atoiAll X = .range) (hl : X.length ≤ 2000) (w : World) (hL : Lib0 w) :
    Calls Tryz.prog 116 #[.string ⟨X.toArray⟩] w fun e w' => ∃ x t p, e = .returned (.tuple #[.int .i64 x, .iface t p]) ∧ Below w.heap.size w w' := by
  have hs : (⟨X.toArray⟩ : ByteArray).size ≤ 281474976710656 := by show X.toArray.size ≤ _; simp; omega
  rcases h with h | h
  · obtain ⟨tp, p, he⟩ := hL.es
    refine (Any.strconv_Atoi_syntax laysC172 ⟨X.toArray⟩ hs (by simpa using h) (.iface tp p) w he (.inr ⟨tp, p, rfl⟩)).mono ?_
    rintro e w' ⟨N, rfl, _, _, b⟩
    exact ⟨_, _, _, rfl, b⟩
  · obtain ⟨tp, p, he⟩ := hL.er
    refine (Any.strconv_Atoi_range laysC172 ⟨X.toArray⟩ hs (by simpa using h) (.iface tp p) w he (.inr ⟨tp, p, rfl⟩)).mono ?_
    rintro e w' ⟨N, rfl, _, _, b⟩
    exact ⟨_, _, _, rfl, b⟩

/-- The words of a line, in memory. -/
def wcells (ws : List (List UInt8)) : List Value := ws.map fun x => .string ⟨x.toArray⟩
theorem wcells_get {ws : List (List UInt8)} {k : Nat} (h : k < ws.length) : (wcells ws)[k]? = some (.string ⟨(ws.getD k []).toArray⟩) := by simp [wcells, h]

/-- No numbers below a hundred are spelt so. -/
def NoNums (ws : List (List UInt8)) : Prop := ∀ ns : List Nat, ws = ns.map Lib.decDigits → ∃ n ∈ ns, 100 ≤ n
theorem noNums_of {ws : List (List UInt8)} {k : Nat} (h : k < ws.length) (hx : ∀ n, n < 100 → ws.getD k [] ≠ Lib.decDigits n) : NoNums ws := by
  intro ns e
  subst e
  have hk : k < ns.length := by simpa using h
  refine ⟨ns[k], List.getElem_mem hk, ?_⟩
  rcases Nat.lt_or_ge ns[k] 100 with hlt | hge
  · exact absurd (by simp [hk]) (hx _ hlt)
  · exact hge

/-- Numbers as they stand while the words are gone through. -/
def upTo (ns : List Nat) (i : Nat) : Value := .int .i64 ((ns.getD i 0 : Nat) : Int)
theorem upTo_step (ns : List Nat) (n i : Nat) : (if i = ns.length then (Value.int .i64 ((n : Nat) : Int)) else upTo ns i) = upTo (ns ++ [n]) i := by
  unfold upTo
  by_cases h : i = ns.length
  · subst h; simp
  · rw [if_neg h]
    simp only [List.getD_eq_getElem?_getD]
    by_cases h2 : i < ns.length
    · rw [List.getElem?_append_left h2]
    · rw [List.getElem?_eq_none (by omega), List.getElem?_eq_none (by simp; omega)]

set_option maxHeartbeats 2000000 in
set_option maxRecDepth 100000 in
theorem numbersOf_any (ws : List (List UInt8)) (wb : Nat) (fz : Nat × Nat) (w : World) (hL : Lib0 w) (hb : w.heap[wb]? = some (.cells (wcells ws).toArray 9 fz)) (hlen : ws.length ≤ 2000) (hw : ∀ x ∈ ws, x.length ≤ 2000) :
    Calls Tryz.prog 97 #[.slice (some ⟨wb, 0, none⟩) ws.length ws.length] w fun e w' => Below w.heap.size w w' ∧
      ((∃ ns g, ws = ns.map Lib.decDigits ∧ (∀ n ∈ ns, n < 9223372036854775808) ∧ e = .returned (.tuple #[.slice (some ⟨g, 0, none⟩) ns.length ns.length, .bool true]) ∧ w.heap.size ≤ g ∧ w'.rowIs g 3 ns.length (upTo ns)) ∨
       (e = .returned (.tuple #[.slice none 0 0, .bool false]) ∧ NoNums ws)) := by
  obtain ⟨i0, hi0, hz0, hz1, hz2⟩ := info_parts Tryz.infoInt
  have hmk := fun w => run_make_row (P := Tryz.prog) 32 3 i0 (.int .i64 0) Tryz.underlying32 hi0 hz0 hz1 rfl .i64 .i64 ws.length (by rw [hz2]; omega) (by omega) w
  simp only [made_toArray] at hmk
  have hblt : wb < w.heap.size := by
    rcases Nat.lt_or_ge wb w.heap.size with hlt | hge
    · exact hlt
    · rw [Array.getElem?_eq_none hge] at hb; cases hb
  go_enter Tryz.func97, Tryz.ntmps97
  go_wp2
  go_loopw [5, 6, 7, 8, 14] (fun _ _ _ _ i wr => ∃ ns : List Nat, ns.length ≤ ws.length ∧ ws.take ns.length = ns.map Lib.decDigits ∧ (∀ n ∈ ns, n < 9223372036854775808) ∧ i = .int .i64 ns.length ∧ wr.rowIs w.heap.size 3 ws.length (upTo ns) ∧ Below w.heap.size w wr)
    (fun _ _ _ _ i _ => ws.length - (intOf i).toNat)
  case atStart =>
    refine ⟨[], Nat.zero_le _, by simp, by simp, rfl, ?_, (Below.refl _ _).alloc (Nat.le_refl _) _⟩
    exact ⟨_, heap_alloc_new _ _, by simp, fun i hi => by simp [upTo, hi]⟩
  case round =>
    obtain ⟨ns, hns, htk, hbd, rfl, hrow, hbel⟩ := hrel
    by_cases hk : ns.length < ws.length
    · obtain ⟨X, hX⟩ : ∃ X, X = ws.getD ns.length [] := ⟨_, rfl⟩
      have hc : wr.cell? ⟨wb, ns.length, none⟩ = some (.string ⟨X.toArray⟩) := by
        rw [hbel.cell (p := ⟨wb, ns.length, none⟩) hblt, cell_of_row w wb _ _ _ _ hb, hX]
        simpa using wcells_get hk
      have hXl : X.length ≤ 2000 := hw X (by rw [hX]; simp [hk])
      have hLr := hL.below hbel
      have HX : Hid (X = ws.getD ns.length []) := hX
      have HR := hrow.cell hk
      have hfz := hrow.frozen ns.length
      have hk3 : (ns.length : Int) < (ws.length : Int) := by omega
      obtain ⟨u, hu⟩ : ∃ u, u = upTo ns ns.length := ⟨_, rfl⟩
      rw [← hu] at HR
      clear hX hmk
      cases hat : Lib.atoiAll X with
      | ok v =>
        have hvb := Lib.atoiAll_bounds hat
        have bad : (v < 0 ∨ Lib.decDigits v.toNat ≠ X) → NoNums ws := fun h => noNums_of hk (fun n hn e => by
          rw [← HX.out] at e
          rw [e, atoi_small n hn] at hat
          injection hat with hat
          subst hat
          rcases h with h | h
          · omega
          · exact h (by rw [e]; rfl))
        by_cases hv : v < 0
        · go_wp2_with fail
          refine (atoi_ok X v hat hXl _).mono ?_
          rintro e w1 ⟨rfl, b1⟩
          go_wp2
          go_ret2
          exact ⟨hbel.trans (b1.mono hbel.size), .inr ⟨rfl, bad (.inl hv)⟩⟩
        · go_wp2_with fail
          refine (atoi_ok X v hat hXl _).mono ?_
          rintro e w1 ⟨rfl, b1⟩
          have hL1 := hLr.below b1
          go_wp2_with fail
          refine (itoa_int v (by omega) (by omega) _ hL1).mono ?_
          rintro e w2 ⟨rfl, b2⟩
          have b12 := b1.trans (b2.mono b1.size)
          have hrow2 := rowIs_below hrow b12
          have HR2 := hrow2.cell hk
          have hfz2 := hrow2.frozen ns.length
          rw [← hu] at HR2
          clear HR hfz hrow
          by_cases he : Lib.decDigits v.toNat = X
          · subst he
            go_wp2
            go_roundw
            case rel =>
              refine ⟨ns ++ [v.toNat], by simp; omega, ?_, ?_, by simp, ?_, (hbel.trans (b12.mono hbel.size)).setCell (Nat.le_refl _) _⟩
              · rw [List.length_append, List.length_singleton, List.take_add_one, htk, List.map_append]
                have := HX.out
                simp only [List.getD_eq_getElem?_getD, List.getElem?_eq_getElem hk, Option.getD_some] at this
                simp [List.getElem?_eq_getElem hk, ← this]
              · intro n hn
                simp only [List.mem_append, List.mem_singleton] at hn
                rcases hn with hn | rfl
                · exact hbd n hn
                · omega
              · refine (hrow2.set ns.length (.int .i64 v)).congr (fun i hi => ?_)
                rw [← upTo_step, show ((v.toNat : Nat) : Int) = v by omega]
            case measure => simp [intOf]; omega
          · go_wp2
            · go_ret2
              exact ⟨hbel.trans (b12.mono hbel.size), .inr ⟨rfl, bad (.inr he)⟩⟩
            · rename_i h
              simp [he] at h
      | _ =>
        go_wp2_with fail
        refine (atoi_bad X (by simp [hat]) hXl _ hLr).mono ?_
        rintro e w1 ⟨x, t, p, rfl, b1⟩
        go_wp2
        go_ret2
        refine ⟨hbel.trans (b1.mono hbel.size), .inr ⟨rfl, noNums_of hk (fun n hn e => ?_)⟩⟩
        rw [← HX.out] at e
        rw [e, atoi_small n hn] at hat
        cases hat
    · obtain rfl : ws = ns.map Lib.decDigits := by
        rw [← htk, List.take_of_length_le (by omega)]
      go_wp2
      go_ret2
      simp only [List.length_map] at hrow
      exact ⟨hbel, .inl ⟨ns, w.heap.size, rfl, hbd, by simp, Nat.le_refl _, hrow⟩⟩

end Go.Proofs.YtgpaajdfkekjiaaGreatDoor
