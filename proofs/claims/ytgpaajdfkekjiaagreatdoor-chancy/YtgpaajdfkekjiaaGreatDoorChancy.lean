/-
  THE STATEMENT Chancy OF PACKAGE latchlaw, PROVED, AND ITS CARD: called with any circuit and any int, it returns true, and the circuit reads behind the call as it read before. The row lists package-level variables of Go's library, tied to the text by the given tie; the walk asks nothing of them.
-/
import Derived.Test.YtgpaajdfkekjiaaGreatDoorChancyW
import Derived.Test.YtgpaajdfkekjiaaGreatDoorOpenCirc
import Derived.Test.YtgpaajdfkekjiaaGreatDoorCards
import Derived.Test.YtgpaajdfkekjiaaGreatDoorTie
import Derived.LaidMore
import Derived.Stop.Joined
import Derived.SevenTiedAt
import Derived.ShutString
import Derived.ChangeOld
namespace Go.Proofs.YtgpaajdfkekjiaaGreatDoor
open Go.ChangeShapes Go.WideShapes Go.ChangeAt Go.RowKit
set_option linter.unusedVariables false

theorem chancy_own : ownKnob Tryz.prog.godebug = none := by kernel_rfl
theorem chancy_laidOut : laidOutB Tryz.prog = true := by kernel_rfl
theorem c1 : Tryz.prog.cellsOf 3 = 1 := by kernel_rfl
theorem cLatch : Tryz.prog.cellsOf 54 = 2 := by kernel_rfl
theorem cGate : Tryz.prog.cellsOf 56 = 2 := by kernel_rfl
theorem cCircuit : Tryz.prog.cellsOf 34 = 4 := by kernel_rfl
theorem bInt : Tryz.prog.bytesOf 3 = 8 := by kernel_rfl
theorem bLatch : Tryz.prog.bytesOf 54 = 16 := by kernel_rfl
theorem bGate : Tryz.prog.bytesOf 56 = 16 := by kernel_rfl

/-- A START FOR THE WITNESS: the heap that the door's own run leaves, the pinned table laid. -/
noncomputable def doorW (os : Os) : World :=
  { World.doorLaid Tryz.prog 400 os with heap := (World.doorLaid Tryz.prog 400 os).heap.modify 6 fun
      | .cells _ t fr => .cells (Go.Pinned.utf8FirstZ.map fun (n : Nat) => Value.int .u8 (n : Int)).toArray t fr
      | o => o }

set_option maxRecDepth 100000 in
theorem door_met (os : Os) (args : Array Value) : laidMetH Tryz.prog Rows.chancyRow.laid ((doorW os).forCall (fun _ _ => 0) ⟨#[], args, []⟩).memory :=
  laidMetH_of_parts3 (fuel := 8) (laidMet_of_run' 8 (by kernel_rfl) (by kernel_rfl)) (by kernel_rfl) (by kernel_rfl)


/-- What the sizes say of a list. -/
theorem weight_list {H : Type} {T E b n : Nat} {d : DataW H} (hT : Tryz.prog.underlying T = some (.slice E)) (hE : Tryz.prog.bytesOf E = b)
    (h : ∀ x ∈ DataW.weights Tryz.prog T d, x ≤ reachBytes) (y : (d = .nil ∧ n = 0) ∨ ∃ elems spare, d = .slice elems spare ∧ elems.length = n) : n * b ≤ 140737488351232 := by
  rcases y with ⟨_, rfl⟩ | ⟨el, sp, rfl, rfl⟩
  · omega
  · have := h ((el.length + sp.length) * b) (by rw [DataW.weights, hT]; simp only [hE]; exact List.mem_cons_self ..)
    have h2 : el.length * b ≤ (el.length + sp.length) * b := Nat.mul_le_mul_right _ (Nat.le_add_right _ _)
    have h3 : reachBytes = 140737488351232 := rfl
    omega

set_option maxRecDepth 100000 in
/-- THE CONTRACT, for every argument. -/
theorem chancy_contract (H : Type) (enc : TypeId × Value → H) (W : World) (base : Nat) (args : Array Value) (ds gs : List (DataW H)) (before : List MemPlace)
    (hval0 : ∀ (j : Nat) t v, Tryz.f7.params[j]? = some t → args[j]? = some v → Value.okWide Tryz.prog W .any base t v)
    (hW : DataW.Whole enc Tryz.prog Tryz.f7.params.toList Rows.chancySpec.vars false W args.toList ds gs before)
    (hsz0 : (DataW.weightsEach Tryz.prog (Tryz.f7.params.toList ++ (OpenSpec.ofChange Rows.chancySpec).bare.plain.varTypes Tryz.prog) (ds ++ gs)).all (· ≤ reachBytes) = true) :
    Calls Tryz.prog 7 args W fun e W' => ∃ v, e = .returned v ∧ Rows.chancySpec.post enc Tryz.prog Tryz.f7 false true false false W args v W' := by
  have hval := hval0
  have hW' := hW
  obtain ⟨p, q, hA0, hV, rfl, hfz, hnd⟩ := hW
  have hA : DataW.TrodAll enc Tryz.prog W 0 (fun _ => true) true Tryz.f7.params.toList args.toList ds p := hA0
  rw [Tryz.params7] at hA hval
  obtain ⟨v0, vs0, d0, ds0, p0, q0, hargs, rfl, rfl, h0, r0⟩ := trodAll_cons hA
  obtain ⟨v1, vs1, d1, ds1, p1, q1, rfl, rfl, rfl, h1, r1⟩ := trodAll_cons r0
  obtain ⟨rfl, rfl, rfl⟩ := trodAll_nil r1
  obtain rfl : args = #[v0, v1] := by cases args; simp_all
  obtain ⟨rfl, rfl⟩ := trodVars_none hV
  have k0 := h0
  have k1 := h1
  have lt0 : ∀ x ∈ p0, x.block < W.heap.size := by obtain ⟨m, hm⟩ := k0; exact DataW.trod_lt m _ _ _ hm
  have lt1 : ∀ x ∈ p1, x.block < W.heap.size := by obtain ⟨m, hm⟩ := k1; exact DataW.trod_lt m _ _ _ hm
  obtain ⟨st, rfl⟩ := okWide_int Tryz.underlying3 (hval 1 3 v1 rfl rfl)
  have hsz : (DataW.weightsEach Tryz.prog [34, 3] [d0, d1]).all (fun x => decide (x ≤ reachBytes)) = true := hsz0
  obtain ⟨c0, cl, cg, co, y0, yl, yg, yo, n, rfl, rfl, rfl, t0, tl, tg, tu⟩ := Joins.open_agg4 Tryz.underlying34 (by kernel_rfl) cCircuit (hval 0 34 v0 rfl rfl) h0
  obtain ⟨x, e0, hy0, w0⟩ := DataW.trod_int Tryz.underlying3 t0
  simp only [List.cons.injEq, and_true] at e0
  subst e0
  obtain ⟨la, ls, lc, rfl, hL, fL, yL⟩ := open_pairs Tryz.underlying30 Tryz.underlying54 ⟨rfl, rfl⟩ ⟨rfl, rfl⟩ cLatch c1 tl
  obtain ⟨ga, gs', gc, rfl, hG, fG, yG⟩ := open_pairs Tryz.underlying31 Tryz.underlying56 ⟨rfl, rfl⟩ ⟨rfl, rfl⟩ cGate c1 tg
  obtain ⟨oa, os, oc, rfl, hO, fO, yO⟩ := open_intlist c1 tu
  have hyL : (yl.1 = .nil ∧ ls.length = 0) ∨ ∃ elems spare, yl.1 = .slice elems spare ∧ elems.length = ls.length := by
    rcases yL with ⟨h, rfl⟩ | h
    · exact .inl ⟨h, rfl⟩
    · exact .inr h
  have hyG : (yg.1 = .nil ∧ gs'.length = 0) ∨ ∃ elems spare, yg.1 = .slice elems spare ∧ elems.length = gs'.length := by
    rcases yG with ⟨h, rfl⟩ | h
    · exact .inl ⟨h, rfl⟩
    · exact .inr h
  have hyO : (yo.1 = .nil ∧ os.length = 0) ∨ ∃ elems spare, yo.1 = .slice elems spare ∧ elems.length = os.length := by
    rcases yO with ⟨h, rfl⟩ | h
    · exact .inl ⟨h, rfl⟩
    · exact .inr h
  have hall : ∀ x ∈ DataW.weightsEach Tryz.prog [34, 3] [.agg [y0.1, yl.1, yg.1, yo.1], d1], x ≤ reachBytes := fun x hx => of_decide_eq_true (List.all_eq_true.1 hsz x hx)
  have hfs : DataW.weights Tryz.prog 34 (.agg [y0.1, yl.1, yg.1, yo.1]) = DataW.weights Tryz.prog 3 y0.1 ++ (DataW.weights Tryz.prog 30 yl.1 ++ (DataW.weights Tryz.prog 31 yg.1 ++ (DataW.weights Tryz.prog 32 yo.1 ++ []))) := by
    rw [DataW.weights, Tryz.underlying34]
    rfl
  simp only [DataW.weightsEach, hfs, List.append_nil, List.mem_append] at hall
  have sL := weight_list Tryz.underlying30 bLatch (fun x hx => hall x (.inl (.inr (.inl hx)))) hyL
  have sG := weight_list Tryz.underlying31 bGate (fun x hx => hall x (.inl (.inr (.inr (.inl hx))))) hyG
  have sO := weight_list Tryz.underlying32 bInt (fun x hx => hall x (.inl (.inr (.inr (.inr hx))))) hyO
  refine (chancy_walk x st la ga oa lc gc oc ls gs' os W sL sG sO hL hG hO (fun i hi => (fL i hi).1) fG fO).mono fun e W' ⟨he, bel⟩ => ?_
  subst he
  exact ⟨_, rfl, _, _, _, [], _, [], hW', trodAll_mk1 (shut_bool Tryz.underlying4 _), trodAll_cons_mk (Below.trod chancy_laidOut (by kernel_rfl) (of_decide_eq_true (by kernel_rfl)) k0 bel lt0) (trodAll_cons_mk (Below.trod chancy_laidOut (by kernel_rfl) (of_decide_eq_true (by kernel_rfl)) k1 bel lt1) trodAll_mk0), rfl, bel.frame _, fun h => by cases h⟩

set_option maxRecDepth 100000 in
theorem chancy_lifted (os : Os) (started : os.Started) (H : Type) (enc : TypeId × Value → H) :
    ReturnsInHanded {} Tryz.checked os 7 .any (fun w args => (Rows.chancySpec.pre enc Tryz.prog Tryz.f7 [] false w args ∧ laidMetH Tryz.prog Rows.chancyRow.laid w) ∧ sizedMet enc Tryz.prog Tryz.f7 (OpenSpec.ofChange Rows.chancySpec) false w args)
      (Rows.chancySpec.post enc Tryz.prog Tryz.f7 false true false false) := by
  refine returnsInHanded_of_change_and (C := Tryz.checked) (X := fun w _ => laidMetH Tryz.prog Rows.chancyRow.laid w) (fun _ _ _ hh h => h.of_heap hh) chancy_own started (by kernel_rfl) Tryz.func7
    (ChangeSpec.witness_shaped (enc := enc) (C := Tryz.checked) (os := os) (X := fun w _ => laidMetH Tryz.prog Rows.chancyRow.laid w) false (doorW os) #[.agg #[.int .i64 0, .slice none 0 0, .slice none 0 0, .slice none 0 0], .int .i64 0] 8 rfl (World.shaped_of_RefB (by kernel_rfl) (by kernel_rfl)) (by kernel_rfl) (by kernel_rfl) (by kernel_rfl) (door_met os _)) ?_
  intro W base args ds gs before hval0 hW _ hsz0 _ _
  exact chancy_contract H enc W base args ds gs before hval0 hW hsz0

theorem chancy_said : Rows.ChancySaid :=
  OpenClaim.holds_of_wide 7 Tryz.f7 rfl rfl rfl rfl rfl rfl rfl ⟨rfl, rfl, rfl, rfl, rfl⟩ rfl rfl rfl rfl rfl (by kernel_rfl) Tryz.func7 (by kernel_rfl)
    (of_decide_eq_true (by kernel_rfl)) (by unfold Func.isWrapper; first | (rw [if_pos (by decide +kernel)]; kernel_rfl) | (rw [if_neg (by decide +kernel)]; exact ⟨rfl, rfl⟩))
    (fun os started H enc _ => chancy_lifted os started H enc)

/-- THE TIED CARD. -/
theorem chancy_holds : Rows.ChancyCardSaid :=
  Claim7.holds_tied_plain_at .later [] _ _ _ _ chancy_said (fun _ h => by cases h) (by kernel_rfl) (fun _ h => by cases h) chancy_row_tie rfl ⟨rfl, rfl⟩ (by kernel_rfl) rfl
    (fun f fn hf hfn => by
      obtain rfl : f = 7 := Option.some.inj ((show Tryz.prog.funcNamed "latch/latchlaw.Chancy" = some 7 by kernel_rfl).symm.trans hf) |>.symm
      obtain rfl : fn = Tryz.f7 := (Option.some.inj (Tryz.func7.symm.trans hfn)).symm
      exact ⟨by kernel_rfl, fun j t ht => by
        rw [Tryz.params7] at ht
        have hm : t ∈ [34, 3] := by simpa using Array.mem_of_getElem? ht
        have hall : ([34, 3].all fun u => !Tryz.prog.wantsStandIn u) = true := by kernel_rfl
        exact (show Tryz.prog.wantsStandIn t = false by simpa using List.all_eq_true.1 hall t hm)⟩)
    (by kernel_rfl)
#print axioms chancy_holds
end Go.Proofs.YtgpaajdfkekjiaaGreatDoor
