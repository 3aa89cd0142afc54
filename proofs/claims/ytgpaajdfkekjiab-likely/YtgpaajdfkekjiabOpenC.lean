/-
  A circuit and a list of ints that are handed in, opened: what their readings say of the cells.
-/
import Derived.Test.YtgpaajdfkekjiabKBox
import Derived.ProofKit
import Derived.OpenShut
import Derived.Deep.Slices
import Derived.Lib.SmallJoins
import Derived.Lib.LaidTab
import Derived.SizedLaws
import Derived.LaidMore
import Derived.ChangeOld
namespace Go.Proofs.Ytgpaajdfkekjiab
open Go.RowKit Go.ChangeShapes Go.WideShapes Go.ChangeAt

theorem addr_add (b off i : Nat) : (⟨b, off, none⟩ : Addr).add i = ⟨b, off + i, none⟩ := by unfold Addr.add; split <;> simp_all

theorem fits_of {x : Int} (h : (Lit.int .i64 x).wf = true) : FitsK x := bounds_i64 h

/-- A list of pairs, opened. -/
theorem open_pairs {H : Type} {enc : TypeId × Value → H} {W : World} {T E m : Nat} {f0 f1 : Field} {v : Value} {y : DataW H × List MemPlace} (hT : Try.prog.underlying T = some (.slice E)) (hE : Try.prog.underlying E = some (.struct #[f0, f1]))
    (h0 : f0.type = 3 ∧ f0.offset = 0) (h1 : f1.type = 3 ∧ f1.offset = 1) (c2 : Try.prog.cellsOf E = 2) (c1 : Try.prog.cellsOf 3 = 1)
    (h : DataW.trod enc Try.prog W 0 (fun _ => true) true m T [v] = some y) :
    ∃ a ps cap, v = .slice a (List.length ps) cap ∧ PairsAt W a ps ∧ (∀ i, i < ps.length → FitsK (ps.getD i (0, 0)).1 ∧ FitsK (ps.getD i (0, 0)).2) ∧
      ((y.1 = .nil ∧ ps = []) ∨ ∃ elems spare, y.1 = .slice elems spare ∧ elems.length = ps.length) := by
  rcases Deep.open_slice hT h with ⟨hcs, rfl⟩ | ⟨a, len, cap, mm, n, D, Pl, hcs, _, hl, hm, hmm, rfl, hel⟩
  · simp only [List.cons.injEq, and_true] at hcs
    exact ⟨none, [], 0, hcs, .inl rfl, fun i hi => absurd hi (Nat.not_lt_zero i), .inl ⟨rfl, rfl⟩⟩
  · simp only [List.cons.injEq, and_true] at hcs
    simp only [if_true] at hmm
    subst hmm
    have hcell : ∀ i, i < len → ∃ x : Int × Int, (W.cell? (a.add (i * 2)) = some (.int .i64 x.1) ∧ W.cell? ((a.add (i * 2)).add 1) = some (.int .i64 x.2)) ∧ FitsK x.1 ∧ FitsK x.2 := by
      intro i hi
      obtain ⟨cs', hc, ht⟩ := hel i (by omega)
      rw [c2] at hc
      obtain ⟨_, hl2, hcc⟩ := World.cells?_some hc
      obtain ⟨y0, y1, n', _, _, t0, t1⟩ := trod_struct2 hE ht
      rw [h0.1, h0.2, c1] at t0
      rw [h1.1, h1.2, c1] at t1
      match cs', hl2 with
      | [u0, u1], _ =>
        obtain ⟨x0, e0, _, w0⟩ := DataW.trod_int Try.underlying3 t0
        obtain ⟨x1, e1, _, w1⟩ := DataW.trod_int Try.underlying3 t1
        simp only [List.drop_zero, List.take_succ_cons, List.take_zero, List.cons.injEq, and_true, List.drop_succ_cons] at e0 e1
        subst e0 e1
        have k0 := hcc 0 (by omega)
        have k1 := hcc 1 (by omega)
        refine ⟨(x0, x1), ⟨?_, ?_⟩, fits_of w0, fits_of w1⟩
        · simpa [Addr.add] using k0
        · simpa using k1
    obtain ⟨f, hf⟩ := Deep.choose_lt hcell
    have hlen : ((List.range len).map f).length = len := by simp
    have hget : ∀ i, i < len → ((List.range len).map f).getD i (0, 0) = f i := fun i hi => by simp [hi]
    refine ⟨some a, (List.range len).map f, _, by rw [hlen]; exact hcs, ?_, ?_, .inr ⟨_, _, rfl, by simp⟩⟩
    · by_cases h00 : len = 0
      · left; subst h00; rfl
      · obtain ⟨b, off, spot⟩ := a
        have hc0 := (hf 0 (by omega)).1.1
        have hspot : spot = none := by simpa [Addr.add] using World.cell?_spot hc0
        subst hspot
        refine .inr ⟨b, off, rfl, by have := block_lt_of_cell hc0; simpa [Addr.add] using this, fun i hi => ?_⟩
        rw [hlen] at hi
        have := (hf i hi).1
        rw [addr_add, addr_add] at this
        rw [hget i hi]
        exact this
    · intro i hi
      rw [hlen] at hi
      rw [hget i hi]
      exact (hf i hi).2

/-- A list of ints, opened. -/
theorem open_intlist {H : Type} {enc : TypeId × Value → H} {W : World} {m : Nat} {v : Value} {y : DataW H × List MemPlace} (c1 : Try.prog.cellsOf 3 = 1)
    (h : DataW.trod enc Try.prog W 0 (fun _ => true) true m 24 [v] = some y) :
    ∃ a xs cap, v = .slice a (List.length xs) cap ∧ IntsAt W a xs ∧ (∀ i, i < xs.length → FitsK (xs.getD i 0)) ∧
      ((y.1 = .nil ∧ xs = []) ∨ ∃ elems spare, y.1 = .slice elems spare ∧ elems.length = xs.length) := by
  rcases Deep.open_slice Try.underlying24 h with ⟨hcs, rfl⟩ | ⟨a, len, cap, mm, n, D, Pl, hcs, _, hl, hm, hmm, rfl, hel⟩
  · simp only [List.cons.injEq, and_true] at hcs
    exact ⟨none, [], 0, hcs, .inl rfl, fun i hi => absurd hi (Nat.not_lt_zero i), .inl ⟨rfl, rfl⟩⟩
  · simp only [List.cons.injEq, and_true] at hcs
    simp only [if_true] at hmm
    subst hmm
    have hcell : ∀ i, i < len → ∃ x : Int, W.cell? (a.add i) = some (.int .i64 x) ∧ FitsK x := by
      intro i hi
      obtain ⟨cs', hc, ht⟩ := hel i (by omega)
      rw [c1, Nat.mul_one] at hc
      obtain ⟨_, hl2, hcc⟩ := World.cells?_some hc
      match cs', hl2 with
      | [u0], _ =>
        obtain ⟨x0, e0, _, w0⟩ := DataW.trod_int Try.underlying3 ht
        simp only [List.cons.injEq, and_true] at e0
        subst e0
        have k0 := hcc 0 (by omega)
        exact ⟨x0, by simpa [Addr.add] using k0, fits_of w0⟩
    obtain ⟨f, hf⟩ := Deep.choose_lt hcell
    have hlen : ((List.range len).map f).length = len := by simp
    have hget : ∀ i, i < len → ((List.range len).map f).getD i 0 = f i := fun i hi => by simp [hi]
    refine ⟨some a, (List.range len).map f, _, by rw [hlen]; exact hcs, ?_, ?_, .inr ⟨_, _, rfl, by simp⟩⟩
    · by_cases h00 : len = 0
      · left; subst h00; rfl
      · obtain ⟨b, off, spot⟩ := a
        have hc0 := (hf 0 (by omega)).1
        have hspot : spot = none := by simpa [Addr.add] using World.cell?_spot hc0
        subst hspot
        refine .inr ⟨b, off, rfl, by have := block_lt_of_cell hc0; simpa [Addr.add] using this, fun i hi => ?_⟩
        rw [hlen] at hi
        have := (hf i hi).1
        rw [addr_add] at this
        rw [hget i hi]
        exact this
    · intro i hi
      rw [hlen] at hi
      rw [hget i hi]
      exact (hf i hi).2

theorem cc1 : Try.prog.cellsOf 3 = 1 := by kernel_rfl
theorem ccLatch : Try.prog.cellsOf 41 = 2 := by kernel_rfl
theorem ccGate : Try.prog.cellsOf 43 = 2 := by kernel_rfl
theorem ccCircuit : Try.prog.cellsOf 26 = 4 := by kernel_rfl
theorem bbInt : Try.prog.bytesOf 3 = 8 := by kernel_rfl
theorem bbLatch : Try.prog.bytesOf 41 = 16 := by kernel_rfl
theorem bbGate : Try.prog.bytesOf 43 = 16 := by kernel_rfl

/-- What the sizes say of a list. -/
theorem weight_row {H : Type} {T E b n : Nat} {d : DataW H} (hT : Try.prog.underlying T = some (.slice E)) (hE : Try.prog.bytesOf E = b)
    (h : ∀ x ∈ DataW.weights Try.prog T d, x ≤ reachBytes) (y : (d = .nil ∧ n = 0) ∨ ∃ elems spare, d = .slice elems spare ∧ elems.length = n) : n * b ≤ 140737488351232 := by
  rcases y with ⟨_, rfl⟩ | ⟨el, sp, rfl, rfl⟩
  · omega
  · have := h ((el.length + sp.length) * b) (by rw [DataW.weights, hT]; simp only [hE]; exact List.mem_cons_self ..)
    have h2 : el.length * b ≤ (el.length + sp.length) * b := Nat.mul_le_mul_right _ (Nat.le_add_right _ _)
    have h3 : reachBytes = 140737488351232 := rfl
    omega

/-- A circuit that is handed in, opened. -/
structure CircIn (W : World) (v : Value) (n : Int) (la : Option Addr) (ls : List (Int × Int)) (lc : Nat) (ga : Option Addr) (gs : List (Int × Int)) (gc : Nat) (oa : Option Addr) (os : List Int) (oc : Nat) : Prop where
  val : v = .agg #[.int .i64 n, .slice la ls.length lc, .slice ga gs.length gc, .slice oa os.length oc]
  pL : PairsAt W la ls
  pG : PairsAt W ga gs
  pO : IntsAt W oa os
  fL : ∀ i, i < ls.length → FitsK (ls.getD i (0, 0)).1 ∧ FitsK (ls.getD i (0, 0)).2
  fG : ∀ i, i < gs.length → FitsK (gs.getD i (0, 0)).1 ∧ FitsK (gs.getD i (0, 0)).2
  fO : ∀ i, i < os.length → FitsK (os.getD i 0)
  sL : ls.length * 16 ≤ 140737488351232
  sG : gs.length * 16 ≤ 140737488351232
  sO : os.length * 8 ≤ 140737488351232
set_option maxRecDepth 100000 in
theorem open_circuit {H : Type} {enc : TypeId × Value → H} {W : World} {base : Nat} {v : Value} {d : DataW H} {p : List MemPlace} (hv : Value.okWide Try.prog W .any base 26 v)
    (h : DataW.Trod enc Try.prog W 0 (fun _ => true) true 26 v d p) (hsz : ∀ x ∈ DataW.weights Try.prog 26 d, x ≤ reachBytes) :
    ∃ n la ls lc ga gs gc oa os oc, CircIn W v n la ls lc ga gs gc oa os oc := by
  obtain ⟨c0, cl, cg, co, y0, yl, yg, yo, n, rfl, rfl, rfl, t0, tl, tg, tu⟩ := Joins.open_agg4 Try.underlying26 (by kernel_rfl) ccCircuit hv h
  obtain ⟨x, e0, hy0, w0⟩ := DataW.trod_int Try.underlying3 t0
  simp only [List.cons.injEq, and_true] at e0
  subst e0
  obtain ⟨la, ls, lc, rfl, hL, fL, yL⟩ := open_pairs Try.underlying22 Try.underlying41 ⟨rfl, rfl⟩ ⟨rfl, rfl⟩ ccLatch cc1 tl
  obtain ⟨ga, gs', gc, rfl, hG, fG, yG⟩ := open_pairs Try.underlying23 Try.underlying43 ⟨rfl, rfl⟩ ⟨rfl, rfl⟩ ccGate cc1 tg
  obtain ⟨oa, os, oc, rfl, hO, fO, yO⟩ := open_intlist cc1 tu
  have hyL : (yl.1 = .nil ∧ ls.length = 0) ∨ ∃ elems spare, yl.1 = .slice elems spare ∧ elems.length = ls.length := by
    rcases yL with ⟨h1, rfl⟩ | h1
    · exact .inl ⟨h1, rfl⟩
    · exact .inr h1
  have hyG : (yg.1 = .nil ∧ gs'.length = 0) ∨ ∃ elems spare, yg.1 = .slice elems spare ∧ elems.length = gs'.length := by
    rcases yG with ⟨h1, rfl⟩ | h1
    · exact .inl ⟨h1, rfl⟩
    · exact .inr h1
  have hyO : (yo.1 = .nil ∧ os.length = 0) ∨ ∃ elems spare, yo.1 = .slice elems spare ∧ elems.length = os.length := by
    rcases yO with ⟨h1, rfl⟩ | h1
    · exact .inl ⟨h1, rfl⟩
    · exact .inr h1
  have hfs : DataW.weights Try.prog 26 (.agg [y0.1, yl.1, yg.1, yo.1]) = DataW.weights Try.prog 3 y0.1 ++ (DataW.weights Try.prog 22 yl.1 ++ (DataW.weights Try.prog 23 yg.1 ++ (DataW.weights Try.prog 24 yo.1 ++ []))) := by
    rw [DataW.weights, Try.underlying26]
    rfl
  simp only [hfs, List.append_nil, List.mem_append] at hsz
  exact ⟨x, la, ls, lc, ga, gs', gc, oa, os, oc, rfl, hL, hG, hO, fL, fG, fO, weight_row Try.underlying22 bbLatch (fun x hx => hsz x (.inr (.inl hx))) hyL,
    weight_row Try.underlying23 bbGate (fun x hx => hsz x (.inr (.inr (.inl hx)))) hyG, weight_row Try.underlying24 bbInt (fun x hx => hsz x (.inr (.inr (.inr hx)))) hyO⟩
set_option maxRecDepth 100000 in
/-- An int, and its bounds. -/
theorem open_int {H : Type} {enc : TypeId × Value → H} {W : World} {base : Nat} {v : Value} {d : DataW H} {p : List MemPlace} (hv : Value.okWide Try.prog W .any base 3 v)
    (h : DataW.Trod enc Try.prog W 0 (fun _ => true) true 3 v d p) : ∃ x, v = .int .i64 x ∧ FitsK x := by
  obtain ⟨x, rfl⟩ := okWide_int Try.underlying3 hv
  obtain ⟨m, hm⟩ := h
  obtain ⟨y, e, _, wf⟩ := DataW.trod_int Try.underlying3 hm
  refine ⟨x, rfl, ?_⟩
  simp [Value.cells] at e
  subst e
  exact fits_of wf

/-- The wrap with the laid variables and the world's shape. -/
theorem returns_laid_shaped {H : Type} {enc : TypeId × Value → H} {a : Assume} {C : Checked} {os : Os} {f : FuncId} {fn : Func} {s : ChangeSpec} {conds : List PathCond} {apart fresh handsOn again : Bool} {X : World → Array Value → Prop}
    (hX : ∀ (w w' : World) (args : Array Value), w.heap = w'.heap → X w args → X w' args)
    (own : ownKnob C.prog.godebug = none) (started : os.Started) (noInit : C.prog.inits.idxOf? f = none) (hfn : C.prog.funcs[f]? = some fn)
    (witness : ∃ (w : World) (tape : Tape) (i : Input), w.os = os ∧ (w.forCall tape i).Shaped C.prog ∧ i.vars = [] ∧ Input.okWide C.prog (w.forCall tape i) .any w.heap.size f i ∧
      ((s.pre enc C.prog fn conds apart (w.forCall tape i).memory i.args ∧ X (w.forCall tape i).memory i.args) ∧ sizedMet enc C.prog fn (OpenSpec.ofChange s) apart (w.forCall tape i).memory i.args) ∧ a.holds C.prog (lone (Frame.enter C.prog f i.args .normal) [] (w.forCall tape i)))
    (contract : ∀ (W : World) (base : Nat) (args : Array Value) (ds gs : List (DataW H)) (before : List MemPlace),
      (∀ (j : Nat) t v, fn.params[j]? = some t → args[j]? = some v → Value.okWide C.prog W .any base t v) →
      DataW.Whole enc C.prog fn.params.toList s.vars apart W args.toList ds gs before →
      (DataW.weightsEach C.prog (fn.params.toList ++ s.plain.varTypes C.prog) (ds ++ gs)).all (· ≤ reachBytes) = true → X W args → W.ShapedOpen C.prog →
      Calls C.prog f args W fun e W' => ∃ v, e = .returned v ∧ s.post enc C.prog fn apart fresh handsOn again W args v W') :
    ReturnsInHanded a C os f .any (fun w args => (s.pre enc C.prog fn conds apart w args ∧ X w args) ∧ sizedMet enc C.prog fn (OpenSpec.ofChange s) apart w args) (s.post enc C.prog fn apart fresh handsOn again) := by
  refine returnsInHanded_of_calls own started noInit witness ?_
  intro w tape i _ hsh _ hok hpre _
  obtain ⟨_, _, _, fn', hfn', _, _, _, _, hval⟩ := hok
  have e : fn' = fn := Option.some.inj (hfn'.symm.trans hfn)
  subst e
  obtain ⟨⟨⟨ds, gs, before, hw, _⟩, hx⟩, hz⟩ := hpre
  have hw' := DataW.Whole.of_heap (w' := w.forCall tape i) (by rfl) hw
  refine (contract (w.forCall tape i) w.heap.size i.args ds gs before hval hw' (hz.weights hw) (hX _ _ _ (by rfl) hx) hsh).mono fun e W' ⟨v, he, hp⟩ => ?_
  subst he
  exact ChangeSpec.post_blind hp

end Go.Proofs.Ytgpaajdfkekjiab
