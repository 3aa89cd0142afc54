/-
  THE STATEMENT Slimmer OF PACKAGE latchkeep, PROVED, AND ITS CARD: called with any circuit, two ints and a list of ints it returns true, and all four read behind the call as they read before. The row lists two tables of Go's math/bits and one of its strconv, tied to the text by the given tie.
-/
import Derived.Test.YtgpaajdfkekjiaaDoorSlimmerW
import Derived.Test.YtgpaajdfkekjiaaDoorOpenC
import Derived.Test.YtgpaajdfkekjiaaDoorCards
import Derived.Test.YtgpaajdfkekjiaaDoorTie
import Derived.LaidMore
import Derived.Stop.Joined
import Derived.Stop.LaidErr
import Derived.Lib.LaidTab
import Derived.Shelf.Vars
import Derived.SevenTiedAt
import Derived.ShutString
import Derived.ChangeOld
namespace Go.Proofs.YtgpaajdfkekjiaaDoor
open Go.ChangeShapes Go.WideShapes Go.ChangeAt Go.RowKit
set_option linter.unusedVariables false

theorem slimmer_own : ownKnob Tryd.prog.godebug = none := by kernel_rfl
theorem slimmer_laidOut : laidOutB Tryd.prog = true := by kernel_rfl

/-- A START FOR THE WITNESS: the heap that the door's own run leaves. -/
noncomputable def doorO (os : Os) : World := World.doorLaid Tryd.prog 400 os

set_option maxRecDepth 100000 in
theorem doorO_met (os : Os) (args : Array Value) : laidMetH Tryd.prog Rows.slimmerRow.laid ((doorO os).forCall (fun _ _ => 0) ⟨#[], args, []⟩).memory :=
  laidMetH_of_parts3 (fuel := 8) (laidMet_of_run' 8 (by kernel_rfl) (by kernel_rfl)) (by kernel_rfl) (by kernel_rfl)

theorem gDB : Tryd.prog.globalNamed "math/bits.deBruijn64tab" = some 1 := by kernel_rfl
set_option maxRecDepth 100000 in
theorem tabDB_of {W : World} (hl : laidMetH Tryd.prog Rows.slimmerRow.laid W) : TabDB W := by
  have h0 : laidMet Tryd.prog Rows.slimmerRow.laid W := hl
  have h1 := h0.tail
  have T : Lib.TabIs Tryd.prog W "math/bits.deBruijn64tab" .u8 [0, 1, 56, 2, 57, 49, 28, 3, 61, 58, 42, 50, 38, 29, 17, 4, 62, 47, 59, 36, 45, 43, 51, 22, 53, 39, 33, 30, 24, 18, 12, 5, 63, 55, 48, 27, 60, 41, 37, 16, 46, 35, 44, 21, 52, 32, 23, 11, 54, 26, 40, 15, 34, 20, 31, 10, 25, 14, 19, 9, 13, 8, 7, 6] := Lib.tabIs_of_head (t := 144) (e := 5) (n := 64) gDB (by kernel_rfl) (by kernel_rfl) (by kernel_rfl) (by kernel_rfl) (by kernel_rfl) h1
  exact ⟨T.cell gDB 0 (by decide), T.cell gDB 1 (by decide), T.cell gDB 3 (by decide), T.cell gDB 7 (by decide)⟩

set_option maxRecDepth 100000 in
/-- A list of ints that was handed in. -/
theorem open_raw {H : Type} {enc : TypeId × Value → H} {W : World} {base : Nat} {v : Value} {d : DataW H} {p : List MemPlace} (hv : Value.okWide Tryd.prog W .any base 24 v)
    (h : DataW.Trod enc Tryd.prog W 0 (fun _ => true) true 24 v d p) : ∃ a xs cap, v = .slice a (List.length xs) cap ∧ IntsAt W a xs ∧ (∀ x ∈ xs, -9223372036854775808 ≤ x ∧ x ≤ 9223372036854775807) ∧ xs.length ≤ maxLen := by
  obtain ⟨a0, len0, cap0, rfl⟩ := okWide_slice Tryd.underlying24 hv
  obtain ⟨fuel, hf⟩ := h
  rcases open_ints Tryd.underlying24 Tryd.underlying3 (by kernel_rfl) hf with ⟨hcs, _⟩ | ⟨x, l, c, z0, hcs, _, hl, hm, hz, _, hcell, hwz⟩
  · simp [Value.cells] at hcs
    obtain ⟨rfl, rfl, rfl⟩ := hcs
    exact ⟨none, [], 0, rfl, .inl rfl, by simp, by simp⟩
  · simp [Value.cells] at hcs
    obtain ⟨rfl, rfl, rfl⟩ := hcs
    have hz : z0.length = cap0 := by simpa using hz
    have hlen : (z0.take len0).length = len0 := by simp; omega
    refine ⟨some x, z0.take len0, cap0, by rw [hlen], ?_, fun y hy => bounds_i64 (hwz y (List.mem_of_mem_take hy)), by rw [hlen]; omega⟩
    by_cases h0 : len0 = 0
    · left; subst h0; simp
    · obtain ⟨b, off, spot⟩ := x
      have hc := hcell 0 (by omega)
      have hspot : spot = none := by simpa [Addr.add] using World.cell?_spot hc
      subst hspot
      refine .inr ⟨b, off, rfl, by simpa [Addr.add] using block_lt_of_cell hc, fun i hi => ?_⟩
      rw [hlen] at hi
      have hci := hcell i (by omega)
      have hadd : (⟨b, off, none⟩ : Addr).add i = ⟨b, off + i, none⟩ := by unfold Addr.add; split <;> simp_all
      rw [hadd] at hci
      simpa [List.getElem?_take, hi] using hci

set_option maxRecDepth 100000 in
/-- THE CONTRACT, for every argument. -/
theorem slimmer_contract (H : Type) (enc : TypeId × Value → H) (W : World) (base : Nat) (args : Array Value) (ds gs : List (DataW H)) (before : List MemPlace)
    (hval0 : ∀ (j : Nat) t v, Tryd.f4.params[j]? = some t → args[j]? = some v → Value.okWide Tryd.prog W .any base t v)
    (hW : DataW.Whole enc Tryd.prog Tryd.f4.params.toList Rows.slimmerSpec.vars false W args.toList ds gs before)
    (hsz0 : (DataW.weightsEach Tryd.prog (Tryd.f4.params.toList ++ (OpenSpec.ofChange Rows.slimmerSpec).bare.plain.varTypes Tryd.prog) (ds ++ gs)).all (· ≤ reachBytes) = true)
    (hdb : TabDB W) :
    Calls Tryd.prog 4 args W fun e W' => ∃ v, e = .returned v ∧ Rows.slimmerSpec.post enc Tryd.prog Tryd.f4 false true false false W args v W' := by
  have hval := hval0
  have hW' := hW
  obtain ⟨p, q, hA0, hV, rfl, hfz, hnd⟩ := hW
  have hA : DataW.TrodAll enc Tryd.prog W 0 (fun _ => true) true Tryd.f4.params.toList args.toList ds p := hA0
  rw [Tryd.params4] at hA hval
  obtain ⟨v0, vs0, d0, ds0, p0, q0, hargs, rfl, rfl, h0, r0⟩ := trodAll_cons hA
  obtain ⟨v1, vs1, d1, ds1, p1, q1, rfl, rfl, rfl, h1, r1⟩ := trodAll_cons r0
  obtain ⟨v2, vs2, d2, ds2, p2, q2, rfl, rfl, rfl, h2, r2⟩ := trodAll_cons r1
  obtain ⟨v3, vs3, d3, ds3, p3, q3, rfl, rfl, rfl, h3, r3⟩ := trodAll_cons r2
  obtain ⟨rfl, rfl, rfl⟩ := trodAll_nil r3
  obtain rfl : args = #[v0, v1, v2, v3] := by cases args; simp_all
  obtain ⟨rfl, rfl⟩ := trodVars_none hV
  have lt0 : ∀ x ∈ p0, x.block < W.heap.size := by obtain ⟨m, hm⟩ := h0; exact DataW.trod_lt m _ _ _ hm
  have lt1 : ∀ x ∈ p1, x.block < W.heap.size := by obtain ⟨m, hm⟩ := h1; exact DataW.trod_lt m _ _ _ hm
  have lt2 : ∀ x ∈ p2, x.block < W.heap.size := by obtain ⟨m, hm⟩ := h2; exact DataW.trod_lt m _ _ _ hm
  have lt3 : ∀ x ∈ p3, x.block < W.heap.size := by obtain ⟨m, hm⟩ := h3; exact DataW.trod_lt m _ _ _ hm
  have hsz : (DataW.weightsEach Tryd.prog [26, 3, 3, 24] [d0, d1, d2, d3]).all (fun x => decide (x ≤ reachBytes)) = true := hsz0
  have hall : ∀ x ∈ DataW.weightsEach Tryd.prog [26, 3, 3, 24] [d0, d1, d2, d3], x ≤ reachBytes := fun x hx => of_decide_eq_true (List.all_eq_true.1 hsz x hx)
  simp only [DataW.weightsEach, List.append_nil, List.mem_append] at hall
  obtain ⟨n0, la, ls, lc, ga, gs', gc, oa, os, oc, C⟩ := open_circuit (hval 0 26 v0 rfl rfl) h0 (fun x hx => hall x (.inl hx))
  obtain ⟨x1, rfl, f1⟩ := open_int (hval 1 3 v1 rfl rfl) h1
  obtain ⟨x2, rfl, f2⟩ := open_int (hval 2 3 v2 rfl rfl) h2
  obtain ⟨ia, raw, ic, rfl, hR, hw, hmr⟩ := open_raw (hval 3 24 v3 rfl rfl) h3
  have hv := C.val
  subst hv
  have hml : os.length ≤ maxLen := by have := C.sO; unfold maxLen; omega
  refine (slimmer_walk n0 x1 x2 la ga oa ia lc gc oc ic ls gs' os raw W hdb hml hmr f1 f2 C.pL C.pG C.pO hR hw C.fL C.fG C.fO).mono fun e W' ⟨he, bel⟩ => ?_
  subst he
  exact ⟨_, rfl, _, _, _, [], _, [], hW', trodAll_mk1 (shut_bool Tryd.underlying4 _),
    trodAll_cons_mk (Below.trod slimmer_laidOut (by kernel_rfl) (of_decide_eq_true (by kernel_rfl)) h0 bel lt0) (trodAll_cons_mk (Below.trod slimmer_laidOut (by kernel_rfl) (of_decide_eq_true (by kernel_rfl)) h1 bel lt1)
      (trodAll_cons_mk (Below.trod slimmer_laidOut (by kernel_rfl) (of_decide_eq_true (by kernel_rfl)) h2 bel lt2) (trodAll_cons_mk (Below.trod slimmer_laidOut (by kernel_rfl) (of_decide_eq_true (by kernel_rfl)) h3 bel lt3) trodAll_mk0))), rfl, bel.frame _, fun h => by cases h⟩

set_option maxRecDepth 100000 in
theorem slimmer_lifted (os : Os) (started : os.Started) (H : Type) (enc : TypeId × Value → H) :
    ReturnsInHanded {} Tryd.checked os 4 .any (fun w args => (Rows.slimmerSpec.pre enc Tryd.prog Tryd.f4 [] false w args ∧ laidMetH Tryd.prog Rows.slimmerRow.laid w) ∧ sizedMet enc Tryd.prog Tryd.f4 (OpenSpec.ofChange Rows.slimmerSpec) false w args)
      (Rows.slimmerSpec.post enc Tryd.prog Tryd.f4 false true false false) := by
  refine returns_laid_shaped (C := Tryd.checked) (X := fun w _ => laidMetH Tryd.prog Rows.slimmerRow.laid w) (fun _ _ _ hh h => h.of_heap hh) slimmer_own started (by kernel_rfl) Tryd.func4
    (ChangeSpec.witness_shaped (enc := enc) (C := Tryd.checked) (os := os) (X := fun w _ => laidMetH Tryd.prog Rows.slimmerRow.laid w) false (doorO os) #[.agg #[.int .i64 0, .slice none 0 0, .slice none 0 0, .slice none 0 0], .int .i64 0, .int .i64 0, .slice none 0 0] 8 rfl (World.shaped_of_RefB (by kernel_rfl) (by kernel_rfl)) (by kernel_rfl) (by kernel_rfl) (by kernel_rfl) (doorO_met os _)) ?_
  intro W base args ds gs before hval0 hW hsz0 hx hs
  exact slimmer_contract H enc W base args ds gs before hval0 hW hsz0 (tabDB_of hx)

theorem slimmer_said : Rows.SlimmerSaid :=
  OpenClaim.holds_of_wide 4 Tryd.f4 rfl rfl rfl rfl rfl rfl rfl ⟨rfl, rfl, rfl, rfl, rfl⟩ rfl rfl rfl rfl rfl (by kernel_rfl) Tryd.func4 (by kernel_rfl)
    (of_decide_eq_true (by kernel_rfl)) (by unfold Func.isWrapper; first | (rw [if_pos (by decide +kernel)]; kernel_rfl) | (rw [if_neg (by decide +kernel)]; exact ⟨rfl, rfl⟩))
    (fun os started H enc _ => slimmer_lifted os started H enc)

/-- THE TIED CARD. -/
theorem slimmer_holds : Rows.SlimmerCardSaid :=
  Claim7.holds_tied_plain_at .later [] _ _ _ _ slimmer_said (fun _ h => by cases h) (by kernel_rfl) (fun _ h => by cases h) slimmer_row_tie rfl ⟨rfl, rfl⟩ (by kernel_rfl) rfl
    (fun f fn hf hfn => by
      obtain rfl : f = 4 := Option.some.inj ((show Tryd.prog.funcNamed "latch/latchkeep.Slimmer" = some 4 by kernel_rfl).symm.trans hf) |>.symm
      obtain rfl : fn = Tryd.f4 := (Option.some.inj (Tryd.func4.symm.trans hfn)).symm
      exact ⟨by kernel_rfl, fun j t ht => by
        rw [Tryd.params4] at ht
        have hm : t ∈ [26, 3, 3, 24] := by simpa using Array.mem_of_getElem? ht
        have hall : ([26, 3, 3, 24].all fun u => !Tryd.prog.wantsStandIn u) = true := by kernel_rfl
        exact (show Tryd.prog.wantsStandIn t = false by simpa using List.all_eq_true.1 hall t hm)⟩)
    (by kernel_rfl)
#print axioms slimmer_holds
end Go.Proofs.YtgpaajdfkekjiaaDoor
