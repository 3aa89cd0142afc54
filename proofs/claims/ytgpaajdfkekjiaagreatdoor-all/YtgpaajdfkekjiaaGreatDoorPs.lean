/-
  A part of the proof of the statement All: texts of ours, made small by program (blanks, names).
-/
import Derived.Test.YtgpaajdfkekjiaaGreatDoorPr
import Derived.Maps.OwnSet
import Derived.DeepKeys4
import Derived.Deep.RegionHeld3
namespace Go.Proofs.YtgpaajdfkekjiaaGreatDoor
set_option maxHeartbeats 8000000
set_option maxRecDepth 100000
open Go.RowKit Go.Maps
theorem Tryz.laidOutS:laidOutB Tryz.prog=true:=by kernel_rfl
theorem Tryz.rowGateS:(56:TypeId)< Tryz.prog.types.size:=of_decide_eq_true (by kernel_rfl)
theorem Tryz.wideGateS:(match Tryz.prog.underlying 56 with | some (.array _ _) | some (.struct _)=>true | _=>false)=true:=by rw [Tryz.underlying56]
theorem gateLaw:Keyed Tryz.prog 56:=Keyed.of_law (deep_law_laid Tryz.laidOutS (m:=2) (by omega) Tryz.rowGateS (by kernel_rfl) Tryz.wideGateS)
def gval (g:Nat×Nat):Value:=.agg #[.int .i64 g.1,.int .i64 g.2]
theorem aI4 {g h:Nat×Nat}(e:gval g=gval h):g=h:=by
 unfold gval at e
 simp at e
 exact Prod.ext (by omega) (by omega)
theorem Tryz.keyGateS:Tryz.prog.keyType 56=true:=by kernel_rfl
theorem Tryz.cellsGateS:Tryz.prog.cellsOf 56=2:=by kernel_rfl
theorem Tryz.cellsIntS:Tryz.prog.cellsOf 3=1:=by kernel_rfl
theorem aIE {P:Program}{t ti:TypeId}{a b}(hu:P.underlying t=some (.struct #[a,b])) (hk:P.keyType t=true) (hc:P.cellsOf t=2) (hci:P.cellsOf ti=1) (hi:P.underlying ti=some (.int .i64))
  (ha:a.type=ti∧a.offset=0∧(a.name != "_")=true) (hb:b.type=ti∧b.offset=1∧(b.name != "_")=true){n:Nat}(hs:n<P.types.size){x y:Int}(wx:(Lit.int .i64 x).wf=true) (wy:(Lit.int .i64 y).wf=true) :
  ∃l,keyOf P t (.agg #[.int .i64 x,.int .i64 y])=some l:=by
 obtain ⟨m,hm⟩:∃m,P.types.size=m+1:=⟨P.types.size - 1,by omega⟩
 obtain ⟨a1,a2,a3⟩:=ha;obtain ⟨b1,b2,b3⟩:=hb
 simp at a3 b3
 simp [keyOf,hu,hk,Value.formed,hc,hm,Program.keyLits,Value.cells,hci,hi,wx,wy,a1,a2,a3,b1,b2,b3]
theorem aI2 {g:Nat×Nat}(h1:g.1<1000) (h2:g.2<1000):∃l,keyOf Tryz.prog 56 (gval g)=some l :=
 aIE Tryz.underlying56 Tryz.keyGateS Tryz.cellsGateS Tryz.cellsIntS Tryz.underlying3 ⟨rfl,rfl,rfl⟩ ⟨rfl,rfl,rfl⟩ Tryz.rowGateS (WalkArith.wf_i64 (by omega)) (WalkArith.wf_i64 (by omega))
def SigMap (D:DataW Nat) (first:Nat) (kept:List (Nat×Nat)):Prop :=
 ∀(g:Nat×Nat) (l:Lit),keyOf Tryz.prog 56 (gval g)=some l→has D l=decide (g∈kept)∧(g∈kept→D.atKey l (.lit (.int .i64 0))=.lit (.int .i64 ((2*(first+kept.idxOf g):Nat):Int)))
theorem aER (first:Nat):SigMap (.map []) first []:=fun g l _=>⟨by simp [has_eq],fun h=>by simp at h⟩
theorem SigMap.put {D:DataW Nat}{first:Nat}{kept:List (Nat×Nat)}(h:SigMap D first kept) (hD:IsMap D){g:Nat×Nat}{l:Lit}(hk:keyOf Tryz.prog 56 (gval g)=some l) (hg:g ∉ kept) :
  SigMap (D.put l (.lit (.int .i64 ((2*(first+kept.length):Nat):Int)))) first (kept++[g]):=by
 intro g' l' hk'
 by_cases e:g'=g
 ·subst e
  rw [hk] at hk'
  cases hk'
  refine ⟨by rw [has_put_same hD (gateLaw.key hk)];simp,fun _=>?_⟩;rw [atKey_put_same hD (gateLaw.key hk),List.idxOf_append,if_neg hg]
  simp
 ·have hne:l'≠l:=fun e2=>e (by subst e2;exact aI4 (gateLaw.inj hk' hk))
  obtain ⟨h1,h2⟩:=h g' l' hk';refine ⟨by rw [has_put_other hne,h1];simp [e],fun hm=>?_⟩;have hm':g'∈kept:=by
   rcases List.mem_append.1 hm with h | h
   ·exact h
   ·simp at h;exact absurd h e
  rw [atKey_put_other hne,h2 hm',List.idxOf_append,if_pos hm']
theorem aIO (first:Nat) (t:List Nat×List (Nat×Nat)) (g:Nat×Nat) :
  jX first t g=if (ndl (putG t.1 g).1 (putG t.1 g).2).2 then (t.1++[(ndl (putG t.1 g).1 (putG t.1 g).2).1],t.2)
   else if putG t.1 g∈t.2 then (t.1++[2*(first+t.2.idxOf (putG t.1 g))],t.2) else (t.1++[2*(first+t.2.length)],t.2++[putG t.1 g]):=by
 have hle:(putG t.1 g).1≤(putG t.1 g).2:=by unfold putG;dsimp only;omega
 unfold jX ndl;dsimp only
 generalize putG t.1 g=h at hle ⊢
 by_cases h0:h.1=0
 ·simp [h0]
 by_cases h1:h.1=1
 ·simp [h1]
 by_cases h2:h.1=h.2
 ·simp only [if_neg h0,if_neg h1,if_pos h2,if_true]
 have hx:=aHF h.2 1 (by omega)
 by_cases h3:h.1=h.2 ^^^ 1
 ·have h4:h.1 / 2=h.2 / 2:=by omega
  simp only [if_neg h0,if_neg h1,if_neg h2,if_pos h3,if_pos h4,if_true]
 ·have h4:¬h.1 / 2=h.2 / 2:=by omega
  simp only [if_neg h0,if_neg h1,if_neg h2,if_neg h3,if_neg h4]
  simp
end Go.Proofs.YtgpaajdfkekjiaaGreatDoor
namespace Go.Proofs.YtgpaajdfkekjiaaGreatDoor
set_option maxHeartbeats 8000000
set_option maxRecDepth 100000
section
variable {P:Program}{ops:Array Oper}{Q:Exit→Act→World→Prop}{md:Region.Mode}{S:World→Prop}{k:Nat}
def pT (P:Program) (md:Region.Mode) (ops:Array Oper) (Q:Exit→Act→World→Prop) (S:World→Prop) (k:Nat):Nat→Array Bool→Act→World→Prop
 | 0,listed,a,w=>Region.ready md ops listed=[]∧Q .normal a w
 | fuel+1,listed,a,w =>
  (Region.ready md ops listed=[]→Q .normal a w)∧
  ∀i∈Region.ready md ops listed,wpOp P ops Q i (fun a' w'=>(i=k∨listed.getD k false=true∨S w')∧pT P md ops Q S k fuel (listed.setIfInBounds i true) a' w') a w
theorem vL:∀(fuel:Nat) (listed:Array Bool) (a:Act) (w:World),pT P md ops Q S k fuel listed a w→wpAny P md ops Q fuel listed a w
 | 0,_,_,_,h=>h
 | fuel+1,_,_,_,h=>⟨h.1,fun i hi=>wpOp_mono (fun a' w' h'=>vL fuel _ a' w' h'.2) (h.2 i hi)⟩
theorem aAQ:∀(fuel:Nat) (listed:Array Bool) (a:Act) (w:World),listed.getD k false=true→wpAny P md ops Q fuel listed a w→pT P md ops Q S k fuel listed a w
 | 0,_,_,_,_,h=>h
 | fuel+1,_,_,_,hk,h=>⟨h.1,fun i hi=>wpOp_mono (fun a' w' h'=>⟨.inr (.inl hk),aAQ fuel _ a' w' (getD_set_true hk) h'⟩) (h.2 i hi)⟩
theorem aAP {i:Nat}{oi:Oper}{v:Value}(hi:ops[i]?=some oi) (hsel:∀(j:Nat) (o:Oper) cs b,ops[j]?=some o→o.op≠.select cs b)
  (hwait:∃ok,ops[k]?=some ok∧∃e∈ok.after,Region.binds md e=true∧e.on=i)
  (hQ:∀c a w,Q (.panic c) (a.put oi.dst v) w→Q (.panic c) a w) :
  ∀(fuel:Nat) (listed:Array Bool) (a:Act) (w:World),
   (∀j oj,ops[j]?=some oj→j≠i→listed.getD j true=false→(∀e∈oj.after,Region.binds md e=true→e.on≠i)→oi.apart ops oj=true)→
   i∈Region.ready md ops listed→k≠i→listed.getD k false=false→YieldsIf P ops S oi v a→S w →
   pT P md ops Q S k fuel (listed.setIfInBounds i true) (a.put oi.dst v) w→pT P md ops Q S k (fuel+1) listed a w:=by
 have notk:∀(listed:Array Bool),i∈Region.ready md ops listed→∀j,j∈Region.ready md ops listed→j≠k:=by
  intro listed hr j hj e;subst e;obtain ⟨ok,hok,e,he,hb,hon⟩:=hwait;obtain ⟨_,ok',hok',hall⟩:=mem_ready.1 hj;rw [hok] at hok';obtain rfl:=Option.some.inj hok';have h1:=hall e he hb;have h0:=(mem_ready.1 hr).1;rw [hon] at h1
  rcases Nat.lt_or_ge i listed.size with h' | h'
  ·simp [h'] at h0 h1;rw [h0] at h1;cases h1
  ·simp [Array.getElem?_eq_none h'] at h1
 intro fuel
 induction fuel with
 | zero =>
  intro listed a w _ hr _ _ hy hS H;refine ⟨fun h=>(by rw [h] at hr;cases hr),fun j hj=>?_⟩
  by_cases hji:j=i
  ·subst hji;exact hy.wpOp hi hS ⟨.inr (.inr hS),H⟩
  ·have:=ready_mono hj hji
   rw [H.1] at this
   cases this
 | succ fuel ih =>
  intro listed a w hfree hr hki hkl hy hS H;refine ⟨fun h=>(by rw [h] at hr;cases hr),fun j hj=>?_⟩
  by_cases hji:j=i
  ·subst hji;exact hy.wpOp hi hS ⟨.inr (.inr hS),H⟩
  ·have hjk:=notk listed hr j hj
   have h1:=H.2 j (ready_mono hj hji);obtain ⟨hjun,oj,hoj,hall⟩:=mem_ready.1 hj;have hnot:∀e∈oj.after,Region.binds md e=true→e.on≠i:=fun e he hb heq=>by
    have h1:=hall e he hb;have h0:=(mem_ready.1 hr).1;rw [heq] at h1
    rcases Nat.lt_or_ge i listed.size with h' | h'
    ·simp [h'] at h0 h1;rw [h0] at h1;cases h1
    ·simp [Array.getElem?_eq_none h'] at h1
   have h2:=wpOp_putIf hoj (hfree j oj hoj hji hjun hnot) (fun cs b=>hsel i oi cs b hi) (fun cs b=>hsel j oj cs b hoj) hQ hy h1;have hfree':∀k ok,ops[k]?=some ok→k≠i→(listed.setIfInBounds j true).getD k true=false →
     (∀e∈ok.after,Region.binds md e=true→e.on≠i)→oi.apart ops ok=true:=fun k ok hk hki hun hno=>by
    refine hfree k ok hk hki ?_ hno
    by_cases hjk:j=k
    ·subst hjk;exact hjun
    ·rw [getD_set_ne true hjk] at hun;exact hun
   have hkl2:(listed.setIfInBounds i true).getD k false=false:=(by rw [getD_set_ne false (Ne.symm hki)];exact hkl)
   have hkl3:(listed.setIfInBounds j true).getD k false=false:=(by rw [getD_set_ne false hjk];exact hkl)
   refine wpOp_mono (fun a' w' h3=>?_) h2;have hS':S w':=by
    rcases h3.2.1 with h | h | h
    ·exact absurd h hjk
    ·rw [hkl2] at h;cases h
    ·exact h
   refine ⟨.inr (.inr hS'),ih (listed.setIfInBounds j true) a' w' hfree' (ready_mono hr (Ne.symm hji)) hki hkl3 h3.1 hS' ?_⟩;rw [Array.setIfInBounds_comm _ _ hji]
   exact h3.2.2
def aCE (md:Region.Mode) (ops:Array Oper) (k i:Nat):Bool:=match ops[k]? with | some o=>o.after.any fun e=>Region.binds md e&&e.on==i | none=>false
theorem aCF {i:Nat}(h:aCE md ops k i=true):∃ok,ops[k]?=some ok∧∃e∈ok.after,Region.binds md e=true∧e.on=i:=by
 unfold aCE at h
 cases ho:ops[k]? with
 | none=>simp [ho] at h
 | some o =>
  simp only [ho] at h;obtain ⟨e,he,h3⟩:=Array.any_eq_true'.1 h;simp only [Bool.and_eq_true,beq_iff_eq] at h3
  exact ⟨o,rfl,e,he,h3⟩
theorem mF {i:Nat}{oi:Oper}{v:Value}{fuel:Nat}{listed:Array Bool}{a:Act}{w:World}(hi:ops[i]?=some oi)
  (hs:Region.noSelect ops=true) (hf:Region.free md ops listed i=true) (hr:(Region.ready md ops listed).contains i=true) (hw:aCE md ops k i=true) (hki:(k != i)=true) (hkl:listed.getD k false=false)
  (hQ:∀c a w,Q (.panic c) (a.put oi.dst v) w→Q (.panic c) a w) (hy:YieldsIf P ops S oi v a) (hS:S w)
  (h:pT P md ops Q S k fuel (listed.setIfInBounds i true) (a.put oi.dst v) w):pT P md ops Q S k (fuel+1) listed a w :=
 aAP hi (Region.noSelect_spec hs) (aCF hw) hQ fuel listed a w (Region.free_spec hi hf) (by simpa using hr) (by simpa using hki) hkl hy hS h
theorem aCI {fuel:Nat}{listed:Array Bool}{a:Act}{w:World}{o:Oper}(hr:Region.ready md ops listed=[k]) (ho:ops[k]?=some o)
  (h:∀K':Act→World→Prop,(∀a w,wpAny P md ops Q fuel (listed.setIfInBounds k true) a w→K' a w)→if Region.wanted o (yielded ops a.tmps)=true then Oper.wp P o a w K' Q else K' (a.put o.dst undef) w):pT P md ops Q S k (fuel+1) listed a w:=by
 refine ⟨fun h0=>(by rw [hr] at h0;cases h0),fun i hi=>?_⟩;rw [hr] at hi;obtain rfl:i=k:=by simpa using hi
 have hlt:i<listed.size:=by
  have:=(mem_ready.1 (show i∈Region.ready md ops listed by rw [hr];simp)).1
  rcases Nat.lt_or_ge i listed.size with h' | h'
  ·exact h'
  ·simp [Array.getElem?_eq_none h'] at this
 have hset:(listed.setIfInBounds i true).getD i false=true:=by simp [hlt]
 exact wpOp_step ho (fun K' hK=>h K' (fun a w hw=>hK a w ⟨.inl rfl,aAQ _ _ _ _ hset hw⟩))
theorem aEX {i:Nat}{fuel:Nat}{listed:Array Bool}{a:Act}{w:World}{o:Oper}(hr:Region.ready md ops listed=[i]) (ho:ops[i]?=some o)
  (h:∀K':Act→World→Prop,(∀a w,wpAny P md ops Q fuel (listed.setIfInBounds i true) a w→K' a w)→if Region.wanted o (yielded ops a.tmps)=true then Oper.wp P o a w K' Q else K' (a.put o.dst undef) w):wpAny P md ops Q (fuel+1) listed a w :=
 wpAny_all hr (by simp) (fun j hj=>by
   obtain rfl:j=i:=by simpa using hj
   exact wpOp_step ho h)
end
end Go.Proofs.YtgpaajdfkekjiaaGreatDoor
