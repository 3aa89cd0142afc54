/-
  THE STATEMENT Likely OF PACKAGE latchkeep, PROVED: called with any circuit and any two ints, it returns true, and the circuit reads behind the call as it read before. No condition.
-/
import Derived.Test.YtgpaajdfkekjiabLikW
import Derived.Test.YtgpaajdfkekjiabOpenC
import Derived.WalkKit
import Derived.ProofKit
import Derived.OpenShut
import Derived.ShutString
import Derived.ChangeOld
import Derived.Below
namespace Go.Proofs.Ytgpaajdfkekjiab
open Go.ChangeShapes Go.WideShapes Go.ChangeAt Go.RowKit
set_option linter.unusedVariables false

theorem likely_own : ownKnob Try.prog.godebug = none := by kernel_rfl
theorem likely_laidOut : laidOutB Try.prog = true := by kernel_rfl

set_option maxRecDepth 100000 in
theorem likely_lifted (os : Os) (started : os.Started) (H : Type) (enc : TypeId × Value → H) :
    ReturnsInHanded {} Try.checked os 3 .any (Rows.likelySpec.pre6 enc Try.prog Try.f3 Rows.likelyRow.domain false) (Rows.likelySpec.post enc Try.prog Try.f3 false true false false) := by
  refine returnsInHanded_of_change (C := Try.checked) likely_own started (by kernel_rfl) Try.func3
    (ChangeSpec.witness6 (enc := enc) (C := Try.checked) false ⟨#[], #[.agg #[.int .i64 0, .slice none 0 0, .slice none 0 0, .slice none 0 0], .int .i64 0, .int .i64 0], []⟩ 8 (by kernel_rfl) (by kernel_rfl) (by kernel_rfl) (by kernel_rfl)) ?_
  intro W base args ds gs before hval0 hW hcnd _
  have hval : ∀ (j : Nat) t v, Try.f3.params[j]? = some t → args[j]? = some v → Value.okWide Try.prog W .any base t v := hval0
  have hW' := hW
  obtain ⟨p, q, hA0, hV, rfl, hfz, hnd⟩ := hW
  have hA : DataW.TrodAll enc Try.prog W 0 (fun _ => true) true Try.f3.params.toList args.toList ds p := hA0
  rw [Try.params3] at hA hval
  obtain ⟨v0, vs0, d0, ds0, p0, q0, hargs, rfl, rfl, h0, r0⟩ := trodAll_cons hA
  obtain ⟨v1, vs1, d1, ds1, p1, q1, rfl, rfl, rfl, h1, r1⟩ := trodAll_cons r0
  obtain ⟨v2, vs2, d2, ds2, p2, q2, rfl, rfl, rfl, h2, r2⟩ := trodAll_cons r1
  obtain ⟨rfl, rfl, rfl⟩ := trodAll_nil r2
  obtain rfl : args = #[v0, v1, v2] := by cases args; simp_all
  obtain ⟨rfl, rfl⟩ := trodVars_none hV
  have k0 := h0
  have k1 := h1
  have k2 := h2
  have lt0 : ∀ x ∈ p0, x.block < W.heap.size := by obtain ⟨m, hm⟩ := k0; exact DataW.trod_lt m _ _ _ hm
  have lt1 : ∀ x ∈ p1, x.block < W.heap.size := by obtain ⟨m, hm⟩ := k1; exact DataW.trod_lt m _ _ _ hm
  have lt2 : ∀ x ∈ p2, x.block < W.heap.size := by obtain ⟨m, hm⟩ := k2; exact DataW.trod_lt m _ _ _ hm
  obtain ⟨n1, rfl, f1⟩ := open_int (hval 1 3 v1 rfl rfl) h1
  obtain ⟨n2, rfl, f2⟩ := open_int (hval 2 3 v2 rfl rfl) h2
  obtain ⟨c0, cl, cg, co, y0, yl, yg, yo, fu, rfl, rfl, rfl, t0, tl, tg, tu⟩ := Joins.open_agg4 Try.underlying26 (by kernel_rfl) ccCircuit (hval 0 26 v0 rfl rfl) h0
  obtain ⟨x, e0, hy0, w0⟩ := DataW.trod_int Try.underlying3 t0
  simp only [List.cons.injEq, and_true] at e0
  subst e0
  obtain ⟨la, ls, lc, rfl, hL, fL, yL⟩ := open_pairs Try.underlying22 Try.underlying41 ⟨rfl, rfl⟩ ⟨rfl, rfl⟩ ccLatch cc1 tl
  obtain ⟨ga, gs', gc, rfl, hG, fG, yG⟩ := open_pairs Try.underlying23 Try.underlying43 ⟨rfl, rfl⟩ ⟨rfl, rfl⟩ ccGate cc1 tg
  obtain ⟨oa, os', oc, rfl, hO, fO, yO⟩ := open_intlist cc1 tu
  have hml : os'.length ≤ maxLen := by
    rcases Deep.open_slice Try.underlying24 tu with ⟨hcs, _⟩ | ⟨a, len, cap, mm, n, D, Pl, hcs, _, hl, hm, _, _, _⟩
    · simp only [List.cons.injEq, and_true, Value.slice.injEq] at hcs
      omega
    · simp only [List.cons.injEq, and_true, Value.slice.injEq] at hcs
      omega
  clear hA0 hval0
  refine (likely_walk x n1 n2 la ga oa lc gc oc ls gs' os' W hml f1 f2 hL hG hO fL fG fO).mono fun e W' ⟨he, bel⟩ => ?_
  subst he
  exact ⟨_, rfl, _, _, _, [], _, [], hW', trodAll_mk1 (shut_bool Try.underlying4 _), trodAll_cons_mk (Below.trod likely_laidOut (by kernel_rfl) (of_decide_eq_true (by kernel_rfl)) k0 bel lt0) (trodAll_cons_mk (Below.trod likely_laidOut (by kernel_rfl) (of_decide_eq_true (by kernel_rfl)) k1 bel lt1) (trodAll_cons_mk (Below.trod likely_laidOut (by kernel_rfl) (of_decide_eq_true (by kernel_rfl)) k2 bel lt2) trodAll_mk0)), rfl, bel.frame _, fun h => by cases h⟩

theorem likely_over : Rows.likelyRow.holds Try.pinned (OpenSpec.ofChange Rows.likelySpec) :=
  OpenClaim.holds_of_wide 3 Try.f3 rfl rfl rfl rfl rfl rfl rfl ⟨rfl, rfl, rfl, rfl, rfl⟩ rfl rfl rfl rfl rfl (by kernel_rfl) Try.func3 (by kernel_rfl)
    (of_decide_eq_true (by kernel_rfl)) (by unfold Func.isWrapper; first | (rw [if_pos (by decide +kernel)]; kernel_rfl) | (rw [if_neg (by decide +kernel)]; exact ⟨rfl, rfl⟩))
    (fun os started H enc _ => likely_lifted os started H enc)

/-- THE STATEMENT. -/
theorem likely_holds : Rows.LikelySaid := likely_over
#print axioms likely_holds
end Go.Proofs.Ytgpaajdfkekjiab
