/-
  THE STATEMENT All OF PACKAGE latchlaw, PROVED, AND ITS CARD: called with any list of calls, it returns true, and the list reads behind the call as it read before. The row lists package-level variables of Go's library (uint64pow10, ErrSyntax, ErrRange and deBruijn64tab are read on the road), tied to the text by the given tie.
-/
import Derived.Test.YtgpaajdfkekjiaaGreatDoorQv
import Derived.Test.YtgpaajdfkekjiaaGreatDoorCards
import Derived.Test.YtgpaajdfkekjiaaGreatDoorTie
import Derived.LaidMore
import Derived.Stop.Joined
import Derived.Stop.LaidErr
import Derived.Shelf.Vars
import Derived.Lib.LaidTab
import Derived.SizedLaws
import Derived.SevenTiedAt
import Derived.ShutString
import Derived.ChangeOld
namespace Go.Proofs.YtgpaajdfkekjiaaGreatDoor
set_option maxHeartbeats 8000000
set_option maxRecDepth 100000
open Go.ChangeShapes Go.WideShapes Go.ChangeAt Go.RowKit
set_option linter.unusedVariables false
theorem aKF:ownKnob Tryz.prog.godebug=none:=by kernel_rfl
theorem aAW:laidOutB Tryz.prog=true:=by kernel_rfl
noncomputable def aLS (os:Os):World :=
 { World.doorLaid Tryz.prog 400 os with heap:=(World.doorLaid Tryz.prog 400 os).heap.modify 6 fun
   | .cells _ t fr=>.cells (Go.Pinned.utf8FirstZ.map fun (n:Nat)=>Value.int .u8 (n:Int)).toArray t fr
   | o=>o }
theorem aHZ (os:Os) (args:Array Value):laidMetH Tryz.prog Rows.allRow.laid ((aLS os).forCall (fun _ _=>0) ⟨#[],args,[]⟩).memory :=
 laidMetH_of_parts3 (fuel:=8) (laidMet_of_run' 8 (by kernel_rfl) (by kernel_rfl)) (by kernel_rfl) (by kernel_rfl)
theorem gSyn:Tryz.prog.globalNamed "strconv.ErrSyntax"=some 4:=by kernel_rfl
theorem gRan:Tryz.prog.globalNamed "strconv.ErrRange"=some 5:=by kernel_rfl
theorem star:("*":String)++ "errors.errorString"= "*errors.errorString":=by decide
theorem aK4 (u:TypeId) (h:Tryz.prog.typeName? 3 u=some "*errors.errorString"):u=231 :=
 typeName_ptr_named (nm:= "errors.errorString") (by rw [star];kernel_rfl) (by kernel_rfl) (by decide) u (by rw [star];exact h)

theorem aKT {W:World}(hl:laidMetH Tryz.prog Rows.allRow.laid W) (hs:W.ShapedOpen Tryz.prog):Lib0 W:=by
 have h0:laidMet Tryz.prog Rows.allRow.laid W:=hl;have h2:=h0.tail.tail;have h4:=h2.tail.tail;have h5:=h4.tail;refine ⟨?_,?_,?_,?_⟩
 ·exact cell_of_shapedOpen_int (zero:=#[.int .i64 0]) (t:=3) hs (of_decide_eq_true (by kernel_rfl)) (by kernel_rfl) (by kernel_rfl) (by kernel_rfl) (by kernel_rfl) (by kernel_rfl)
 ·obtain ⟨a,s,hv,_⟩:=laid_sentinel h5 gSyn (by kernel_rfl) Tryz.underlying127 aK4 Tryz.underlying231 Tryz.underlying233 rfl rfl Tryz.underlying9 (by kernel_rfl) (by kernel_rfl)
  exact ⟨_,_,World.var?_cell gSyn hv 0⟩
 ·obtain ⟨a,s,hv,_⟩:=laid_sentinel h4 gRan (by kernel_rfl) Tryz.underlying127 aK4 Tryz.underlying231 Tryz.underlying233 rfl rfl Tryz.underlying9 (by kernel_rfl) (by kernel_rfl)
  exact ⟨_,_,World.var?_cell gRan hv 0⟩
 ·exact Lib.tabIs_of_head (t:=215) (e:=182) (n:=20) gPow (by kernel_rfl) (by kernel_rfl) (by kernel_rfl) (by kernel_rfl) (by kernel_rfl) h2
theorem gDB:Tryz.prog.globalNamed "math/bits.deBruijn64tab"=some 1:=by kernel_rfl
theorem aJF {W:World}(hl:laidMetH Tryz.prog Rows.allRow.laid W):TabDB W:=by
 have h0:laidMet Tryz.prog Rows.allRow.laid W:=hl;have h1:=h0.tail;have T:Lib.TabIs Tryz.prog W "math/bits.deBruijn64tab" .u8 [0,1,56,2,57,49,28,3,61,58,42,50,38,29,17,4,62,47,59,36,45,43,51,22,53,39,33,30,24,18,12,5,63,55,48,27,60,41,37,16,46,35,44,21,52,32,23,11,54,26,40,15,34,20,31,10,25,14,19,9,13,8,7,6]:=Lib.tabIs_of_head (t:=194) (e:=5) (n:=64) gDB (by kernel_rfl) (by kernel_rfl) (by kernel_rfl) (by kernel_rfl) (by kernel_rfl) h1
 exact ⟨T.cell gDB 0 (by decide),T.cell gDB 1 (by decide),T.cell gDB 3 (by decide),T.cell gDB 7 (by decide)⟩
theorem mB {H:Type}{enc:TypeId×Value→H}{a:Assume}{C:Checked}{os:Os}{f:FuncId}{fn:Func}{s:ChangeSpec}{conds:List PathCond}{apart fresh handsOn again:Bool}{X:World→Array Value→Prop}
  (hX:∀(w w':World) (args:Array Value),w.heap=w'.heap→X w args→X w' args)
  (own:ownKnob C.prog.godebug=none) (started:os.Started) (noInit:C.prog.inits.idxOf? f=none) (hfn:C.prog.funcs[f]?=some fn)
  (witness:∃(w:World) (tape:Tape) (i:Input),w.os=os∧(w.forCall tape i).Shaped C.prog∧i.vars=[]∧Input.okWide C.prog (w.forCall tape i) .any w.heap.size f i ∧
   ((s.pre enc C.prog fn conds apart (w.forCall tape i).memory i.args∧X (w.forCall tape i).memory i.args)∧sizedMet enc C.prog fn (OpenSpec.ofChange s) apart (w.forCall tape i).memory i.args)∧a.holds C.prog (lone (Frame.enter C.prog f i.args .normal) [] (w.forCall tape i)))
  (contract:∀(W:World) (base:Nat) (args:Array Value) (ds gs:List (DataW H)) (before:List MemPlace),
   (∀(j:Nat) t v,fn.params[j]?=some t→args[j]?=some v→Value.okWide C.prog W .any base t v)→
   DataW.Whole enc C.prog fn.params.toList s.vars apart W args.toList ds gs before →
   (DataW.weightsEach C.prog (fn.params.toList++s.plain.varTypes C.prog) (ds++gs)).all (·≤reachBytes)=true→X W args→W.ShapedOpen C.prog →
   Calls C.prog f args W fun e W'=>∃v,e=.returned v∧s.post enc C.prog fn apart fresh handsOn again W args v W') :
  ReturnsInHanded a C os f .any (fun w args=>(s.pre enc C.prog fn conds apart w args∧X w args)∧sizedMet enc C.prog fn (OpenSpec.ofChange s) apart w args) (s.post enc C.prog fn apart fresh handsOn again):=by
 refine returnsInHanded_of_calls own started noInit witness ?_;intro w tape i _ hsh _ hok hpre _;obtain ⟨_,_,_,fn',hfn',_,_,_,_,hval⟩:=hok;have e:fn'=fn:=Option.some.inj (hfn'.symm.trans hfn);subst e;obtain ⟨⟨⟨ds,gs,before,hw,_⟩,hx⟩,hz⟩:=hpre;have hw':=DataW.Whole.of_heap (w':=w.forCall tape i) (by rfl) hw;refine (contract (w.forCall tape i) w.heap.size i.args ds gs before hval hw' (hz.weights hw) (hX _ _ _ (by rfl) hx) hsh).mono fun e W' ⟨v,he,hp⟩=>?_
 subst he
 exact ChangeSpec.post_blind hp

theorem xY (H:Type) (enc:TypeId×Value→H) (W:World) (base:Nat) (args:Array Value) (ds gs:List (DataW H)) (before:List MemPlace)
  (hval0:∀(j:Nat) t v,Tryz.f9.params[j]?=some t→args[j]?=some v→Value.okWide Tryz.prog W .any base t v)
  (hW:DataW.Whole enc Tryz.prog Tryz.f9.params.toList Rows.allSpec.vars false W args.toList ds gs before)
  (hsz0:(DataW.weightsEach Tryz.prog (Tryz.f9.params.toList++Rows.allSpec.plain.varTypes Tryz.prog) (ds++gs)).all (·≤reachBytes)=true) (hLib:Lib0 W) (hdb:TabDB W) :
  Calls Tryz.prog 9 args W fun e W'=>∃v,e=.returned v∧Rows.allSpec.post enc Tryz.prog Tryz.f9 false true false false W args v W':=by
 have hval:=hval0;have hW':=hW;obtain ⟨p,q,hA0,hV,rfl,hfz,hnd⟩:=hW;have hA:DataW.TrodAll enc Tryz.prog W 0 (fun _=>true) true Tryz.f9.params.toList args.toList ds p:=hA0;rw [Tryz.params9] at hA hval;obtain ⟨v0,vs0,d0,ds0,p0,q0,hargs,rfl,rfl,h0,r0⟩:=trodAll_cons hA;obtain ⟨rfl,rfl,rfl⟩:=trodAll_nil r0;obtain rfl:args=#[v0]:=by cases args;simp_all
 obtain ⟨rfl,rfl⟩:=trodVars_none hV;have k0:=h0;have lt0:∀x∈p0,x.block<W.heap.size:=by obtain ⟨m,hm⟩:=k0;exact DataW.trod_lt m _ _ _ hm
 have hsz:(DataW.weightsEach Tryz.prog [50] [d0]).all (fun x=>decide (x≤reachBytes))=true:=hsz0;have hall:∀x∈DataW.weightsEach Tryz.prog [50] [d0],x≤reachBytes:=fun x hx=>of_decide_eq_true (List.all_eq_true.1 hsz x hx)
 simp only [DataW.weightsEach,List.append_nil] at hall;obtain ⟨a0,len0,cap0,rfl⟩:=okWide_slice Tryz.underlying50 (hval 0 50 v0 rfl rfl);obtain ⟨m1,hm1⟩:=h0;have hm2:DataW.trod enc Tryz.prog W 0 (fun _=>true) true m1 50 [.slice a0 len0 cap0]=some (d0,p0):=by simpa [Value.cells] using hm1
 obtain ⟨a,len,cap,C,hv,hlen,hcalls⟩:=aEF hm2 hall;rw [hv] at k0 hW' ⊢;refine (aHK a len cap C W hLib hdb hlen hcalls).mono fun e W' ⟨he,bel⟩=>?_
 subst he
 exact ⟨_,rfl,_,_,_,[],_,[],hW',trodAll_mk1 (shut_bool Tryz.underlying4 _),trodAll_cons_mk (Below.trod aAW (by kernel_rfl) (of_decide_eq_true (by kernel_rfl)) k0 bel lt0) trodAll_mk0,rfl,bel.frame _,fun h=>by cases h⟩
theorem aDH (os:Os) (started:os.Started) (H:Type) (enc:TypeId×Value→H) :
  ReturnsInHanded {} Tryz.checked os 9 .any (fun w args=>(Rows.allSpec.pre enc Tryz.prog Tryz.f9 [] false w args∧laidMetH Tryz.prog Rows.allRow.laid w)∧sizedMet enc Tryz.prog Tryz.f9 (OpenSpec.ofChange Rows.allSpec) false w args)
   (Rows.allSpec.post enc Tryz.prog Tryz.f9 false true false false):=by
 refine mB (C:=Tryz.checked) (X:=fun w _=>laidMetH Tryz.prog Rows.allRow.laid w) (fun _ _ _ hh h=>h.of_heap hh) aKF started (by kernel_rfl) Tryz.func9
  (ChangeSpec.witness_shaped (enc:=enc) (C:=Tryz.checked) (os:=os) (X:=fun w _=>laidMetH Tryz.prog Rows.allRow.laid w) false (aLS os) #[.slice none 0 0] 8 rfl (World.shaped_of_RefB (by kernel_rfl) (by kernel_rfl)) (by kernel_rfl) (by kernel_rfl) (by kernel_rfl) (aHZ os _)) ?_
 intro W base args ds gs before hval0 hW hsz0 hx hs
 exact xY H enc W base args ds gs before hval0 hW hsz0 (aKT hx hs) (aJF hx)
theorem aHJ:Rows.AllSaid :=
 OpenClaim.holds_of_wide 9 Tryz.f9 rfl rfl rfl rfl rfl rfl rfl ⟨rfl,rfl,rfl,rfl,rfl⟩ rfl rfl rfl rfl rfl (by kernel_rfl) Tryz.func9 (by kernel_rfl)
  (of_decide_eq_true (by kernel_rfl)) (by unfold Func.isWrapper;first | (rw [if_pos (by decide +kernel)];kernel_rfl) | (rw [if_neg (by decide +kernel)];exact ⟨rfl,rfl⟩))
  (fun os started H enc _=>aDH os started H enc)
theorem all_holds:Rows.AllCardSaid :=
 Claim7.holds_tied_plain_at .later [] _ _ _ _ aHJ (fun _ h=>by cases h) (by kernel_rfl) (fun _ h=>by cases h) all_row_tie rfl ⟨rfl,rfl⟩ (by kernel_rfl) rfl
  (fun f fn hf hfn=>by
   obtain rfl:f=9:=Option.some.inj ((show Tryz.prog.funcNamed "latch/latchlaw.All"=some 9 by kernel_rfl).symm.trans hf) |>.symm;obtain rfl:fn=Tryz.f9:=(Option.some.inj (Tryz.func9.symm.trans hfn)).symm
   exact ⟨by kernel_rfl,fun j t ht=>by
    rw [Tryz.params9] at ht;have hm:t∈[50]:=(by simpa using Array.mem_of_getElem? ht)
    have hall:([50].all fun u=>!Tryz.prog.wantsStandIn u)=true:=by kernel_rfl
    exact (show Tryz.prog.wantsStandIn t=false by simpa using List.all_eq_true.1 hall t hm)⟩)
  (by kernel_rfl)
#print axioms all_holds
end Go.Proofs.YtgpaajdfkekjiaaGreatDoor
