/-
  A part of the proof of the statement All: texts of ours, made small by program (blanks, names).
-/
import Derived.Deep.RegionHeld3
namespace Go.Proofs.YtgpaajdfkekjiaaGreatDoor
set_option maxHeartbeats 8000000
set_option maxRecDepth 100000
section
variable {P:Program}{ops:Array Oper}{Q:Exit→Act→World→Prop}
def aFP (P:Program) (ops:Array Oper) (Q:Exit→Act→World→Prop):Exit→Act→World→Prop
 | .normal,a,w=>wpOp P ops Q (ops.size - 1) (fun a w=>Q .normal a w) a w
 | e,a,w=>Q e a w
def aHP (o:Oper) (i:Nat):Bool:=o.after.all fun e=>!Region.binds .any e||decide (e.on<i)
def aFJ (o:Oper) (n:Nat):Bool:=match o.guard with | some (g,_)=>decide (g<n) | none=>true
def aK9 (o:Oper) (i:Nat):Bool:=o.after.any fun e=>Region.binds .any e&&e.on==i
def aFO (ops:Array Oper):Bool :=
 decide (0<ops.size)&&(List.range (ops.size - 1)).all (fun i=>match ops[i]? with | some o=>aHP o i&&aFJ o (ops.size - 1) | none=>false) &&
 (match ops[ops.size - 1]? with | some o=>aHP o (ops.size - 1)&&(List.range (ops.size - 1)).all (aK9 o) | none=>false)
structure mJ (ops:Array Oper) (n:Nat):Prop where
 size:ops.size=n+1
 back:∀i o,i<n→ops[i]?=some o→∀e∈o.after,Region.binds .any e=true→e.on<i
 guard:∀i o g b,i<n→ops[i]?=some o→o.guard=some (g,b)→g<n
 last:∃o,ops[n]?=some o∧(∀e∈o.after,Region.binds .any e=true→e.on<n)∧∀i,i<n→∃e∈o.after,Region.binds .any e=true∧e.on=i
theorem yD {o:Oper}{i:Nat}(h:aHP o i=true):∀e∈o.after,Region.binds .any e=true→e.on<i:=fun e he hb=>by
 have:=Array.all_eq_true_iff_forall_mem.1 h e he
 simpa [hb] using this
theorem aDY (h:aFO ops=true):mJ ops (ops.size - 1):=by
 simp only [aFO,Bool.and_eq_true,decide_eq_true_eq] at h;obtain ⟨⟨h0,h1⟩,h2⟩:=h;have hat:∀i,i<ops.size - 1→∃o,ops[i]?=some o∧aHP o i=true∧aFJ o (ops.size - 1)=true:=fun i hi=>by
  have:=List.all_eq_true.1 h1 i (List.mem_range.2 hi)
  cases ho:ops[i]? with
  | none=>simp [ho] at this
  | some o=>simp only [ho,Bool.and_eq_true] at this;exact ⟨o,rfl,this⟩
 refine ⟨by omega,fun i o hi ho=>?_,fun i o g b hi ho hg=>?_,?_⟩
 ·obtain ⟨o',ho',hb,_⟩:=hat i hi
  rw [ho] at ho';obtain rfl:=Option.some.inj ho'
  exact yD hb
 ·obtain ⟨o',ho',_,hb⟩:=hat i hi
  rw [ho] at ho';obtain rfl:=Option.some.inj ho'
  simpa [aFJ,hg] using hb
 ·cases ho:ops[ops.size - 1]? with
  | none=>simp [ho] at h2
  | some o =>
   simp only [ho,Bool.and_eq_true] at h2;refine ⟨o,rfl,yD h2.1,fun i hi=>?_⟩;have:=List.all_eq_true.1 h2.2 i (List.mem_range.2 hi);unfold aK9 at this;obtain ⟨e,he,h3⟩:=Array.any_eq_true'.1 this;simp only [Bool.and_eq_true,beq_iff_eq] at h3
   exact ⟨e,he,h3⟩
theorem vX {listed:Array Bool}{n:Nat}(hs:listed.size=n+1) (hn:listed.getD n true=false) (k:Nat):listed.pop.getD k false=listed.getD k false:=by
 simp only [Array.getD_eq_getD_getElem?,Array.getElem?_pop] at hn ⊢
 split
 ·rfl
 ·rename_i hk
  have:n≤k:=by omega
  rcases Nat.lt_or_ge n k with h | h
  ·rw [Array.getElem?_eq_none (by omega)]
  ·obtain rfl:k=n:=by omega
   rw [Array.getElem?_eq_getElem (by omega)] at hn ⊢
   simpa using hn.symm
theorem oF {listed:Array Bool}{k:Nat}(hk:k<listed.size):listed.getD k true=listed.getD k false:=by
 simp [Array.getD_eq_getD_getElem?,hk]
variable {n:Nat}{listed:Array Bool}
theorem aA4 (L:mJ ops n) (hs:listed.size=n+1) (hn:listed.getD n true=false){i:Nat}(hi:i<n):i∈Region.ready .any ops listed↔i∈Region.ready .any ops.pop listed.pop:=by
 have hL:=L.size;rw [mem_ready,mem_ready];have e1:ops.pop[i]?=ops[i]?:=by rw [Array.getElem?_pop,if_pos (by omega)]
 have e2:listed.pop.getD i true=listed.getD i true:=by rw [oF (by simp;omega),oF (by omega),vX hs hn]
 rw [e1,e2];simp only [vX hs hn]
theorem aFT (L:mJ ops n){i:Nat}(h:i∈Region.ready .any ops.pop listed.pop):i<n:=by
 have hL:=L.size;obtain ⟨_,o,ho,_⟩:=mem_ready.1 h;rw [Array.getElem?_pop] at ho
 split at ho
 ·omega
 ·cases ho
theorem qU (L:mJ ops n) (h:n∈Region.ready .any ops listed):∀i,i<n→listed.getD i false=true:=fun i hi=>by
 obtain ⟨o,ho,_,hw⟩:=L.last;obtain ⟨_,o',ho',ha⟩:=mem_ready.1 h;rw [ho] at ho';obtain rfl:=Option.some.inj ho';obtain ⟨e,he,hb,rfl⟩:=hw i hi
 exact ha e he hb
theorem aBM (L:mJ ops n) (hs:listed.size=n+1) (hn:listed.getD n true=false) (h:∀i,i<n→listed.getD i false=true):Region.ready .any ops.pop listed.pop=[]:=by
 apply List.eq_nil_iff_forall_not_mem.2
 intro j hj;have hjn:=aFT L hj;obtain ⟨h1,_⟩:=mem_ready.1 hj;rw [oF (by simp;omega),vX hs hn,h j hjn] at h1
 cases h1
theorem rF (L:mJ ops n) (hs:listed.size=n+1) (h:∀i,i<n→listed.getD i false=true):Region.ready .any ops (listed.setIfInBounds n true)=[]:=by
 have hL:=L.size
 apply List.eq_nil_iff_forall_not_mem.2
 intro j hj;obtain ⟨h1,o,ho,_⟩:=mem_ready.1 hj;have hjl:j<ops.size:=(Array.getElem?_eq_some_iff.1 ho).1
 by_cases hjn:n=j
 ·subst hjn
  simp [Array.getD_eq_getD_getElem?,hs] at h1
 ·have:=h j (by omega)
  rw [oF (by simp;omega)] at h1;rw [getD_set_ne false hjn,this] at h1
  cases h1
theorem vB (L:mJ ops n) (hs:listed.size=n+1) (hn:listed.getD n true=false):Region.ready .any ops listed≠[]:=by
 have hL:=L.size;have key:∀k,k≤n→(∀i,i<k→listed.getD i false=true)∨∃i,i∈Region.ready .any ops listed:=by
  intro k
  induction k with
  | zero=>intro _;exact .inl (fun i hi=>absurd hi (Nat.not_lt_zero i))
  | succ k ih =>
   intro hk
   rcases ih (by omega) with h | h
   ·cases hl:listed.getD k false with
    | true =>
     left
     intro i hi
     rcases Nat.lt_or_ge i k with h' | h'
     ·exact h i h'
     ·obtain rfl:i=k:=by omega
      exact hl
    | false =>
     right
     have hk2:k<ops.size:=(by omega)
     refine ⟨k,mem_ready.2 ⟨by rw [oF (by omega)];exact hl,ops[k],Array.getElem?_eq_getElem hk2,fun e he hb=>?_⟩⟩
     exact h _ (L.back k _ (by omega) (Array.getElem?_eq_getElem hk2) e he hb)
   ·exact .inr h
 intro hnil
 rcases key n (Nat.le_refl _) with h | ⟨i,hi⟩
 ·obtain ⟨o,ho,hb,_⟩:=L.last
  have:n∈Region.ready .any ops listed:=mem_ready.2 ⟨hn,o,ho,fun e he he2=>h _ (hb e he he2)⟩;rw [hnil] at this
  cases this
 ·rw [hnil] at hi
  cases hi
theorem aGA {o:Oper}{K K':Act→World→Prop}{a:Act}{w:World}(hK:∀a w,K a w→K' a w) (h:o.wp P a w K (aFP P ops Q)):o.wp P a w K' Q:=by
 unfold Oper.wp at *
 generalize (execOp a.eval o).run P w=r at *
 cases r with
 | ok x w' =>
  cases x with
  | value v=>exact hK _ _ h
  | skip=>exact hK _ _ h
  | defer d=>exact hK _ _ h
  | enter f args =>
   refine Calls.mono h fun e w'' he=>?_
   cases e with
   | returned v=>exact hK _ _ he
   | panicked c=>exact he
   | outgrown=>obtain ⟨a',w3,h3⟩:=he;exact ⟨a',w3,h3⟩
  | row r args=>exact Rows.mono h fun v w'' he=>hK _ _ he
  | _=>exact h.elim
 | halt x w' =>
  cases x with
  | panic v=>exact h
  | _=>exact h.elim
theorem aHD (L:mJ ops n){i:Nat}(hi:i<n){K K':Act→World→Prop}{a:Act}{w:World}(hK:∀a w,K a w→K' a w) (h:wpOp P ops.pop (aFP P ops Q) i K a w):wpOp P ops Q i K' a w:=by
 have hL:=L.size;have e1:ops.pop[i]?=ops[i]?:=by rw [Array.getElem?_pop,if_pos (by omega)]
 unfold wpOp at *;rw [e1] at h
 cases ho:ops[i]? with
 | none=>rw [ho] at h;exact hK _ _ h
 | some o =>
  rw [ho] at h;have e2:Region.wanted o (yielded ops.pop a.tmps)=Region.wanted o (yielded ops a.tmps):=by
   unfold Region.wanted
   cases hg:o.guard with
   | none=>rfl
   | some x =>
    obtain ⟨g,b⟩:=x;have hgn:=L.guard i o g b hi ho hg;have e3:ops.pop[g]?=ops[g]?:=(by rw [Array.getElem?_pop,if_pos (by omega)])
    simp only [yielded,e3]
  simp only [e2] at h ⊢
  split
  ·rename_i hw
   simp only [hw,if_true] at h
   rcases h with h | ⟨h,a',w',h'⟩
   ·exact .inl (aGA hK h)
   ·exact .inr ⟨h,a',w',h'⟩
  ·rename_i hw
   simp only [hw] at h
   exact hK _ _ h
theorem aL4 (i:Nat) (hs:listed.size=n+1) (hi:i<n):listed.pop.setIfInBounds i true=(listed.setIfInBounds i true).pop:=by
 apply Array.ext_getElem?
 intro k;simp only [Array.getElem?_setIfInBounds,Array.getElem?_pop,Array.size_pop,Array.size_setIfInBounds]
 by_cases hik:i=k
 ·subst hik;simp [hs,hi];omega
 ·simp [hik]
theorem aEY (L:mJ ops n):∀(fuel:Nat) (listed:Array Bool) (a:Act) (w:World),listed.size=n+1→listed.getD n true=false →
  wpAny P .any ops.pop (aFP P ops Q) fuel listed.pop a w→wpAny P .any ops Q (fuel+1) listed a w:=by
 have hsz:ops.size - 1=n:=by rw [L.size];omega
 intro fuel
 induction fuel with
 | zero =>
  intro listed a w hs hn h;refine ⟨fun h0=>absurd h0 (vB L hs hn),fun i hi=>?_⟩
  by_cases hin:i=n
  ·subst hin
   have hall:=qU L hi;have h2:wpOp P ops Q (ops.size - 1) (fun a w=>Q .normal a w) a w:=h.2;rw [hsz] at h2
   exact wpOp_mono (fun a' w' hq=>⟨rF L hs hall,hq⟩) h2
  ·have hlt:i<n:=by
    obtain ⟨_,o,ho,_⟩:=mem_ready.1 hi;have:=(Array.getElem?_eq_some_iff.1 ho).1;have:=L.size
    omega
   have:=(aA4 L hs hn hlt).1 hi;rw [h.1] at this
   cases this
 | succ fuel ih =>
  intro listed a w hs hn h;refine ⟨fun h0=>absurd h0 (vB L hs hn),fun i hi=>?_⟩
  by_cases hin:i=n
  ·subst hin
   have hall:=qU L hi;have h2:wpOp P ops Q (ops.size - 1) (fun a w=>Q .normal a w) a w:=h.1 (aBM L hs hn hall);rw [hsz] at h2
   exact wpOp_mono (fun a' w' hq=>wpAny_done (rF L hs hall) hq _) h2
  ·have hlt:i<n:=by
    obtain ⟨_,o,ho,_⟩:=mem_ready.1 hi;have:=(Array.getElem?_eq_some_iff.1 ho).1;have:=L.size
    omega
   have h2:=h.2 i ((aA4 L hs hn hlt).1 hi);refine aHD L hlt (fun a' w' h3=>?_) h2;rw [aL4 i hs hlt] at h3;refine ih _ a' w' (by simpa using hs) ?_ h3;rw [getD_set_ne true hin]
   exact hn
theorem bO {id:Nat}{a:Act}{w:World}(hm:P.follows .mixedOrders=true) (hok:aFO ops=true)
  (h:wpAny P .any ops.pop (aFP P ops Q) ops.pop.size (Array.replicate ops.pop.size false) a w.drew):(Code.region id ops true).wp P Q a w:=by
 have L:=aDY hok;have h0:=L.size;refine wp_region_any hm ?_;have e:ops.size=ops.pop.size+1:=by simp;omega
 have e2:Array.replicate ops.pop.size false=(Array.replicate ops.size false).pop:=by simp
 rw [e2] at h;have:=aEY (P:=P) (Q:=Q) L ops.pop.size (Array.replicate ops.size false) a w.drew (by simp;omega) (by rw [oF (by simp;omega)];simp only [Array.getD_eq_getD_getElem?,Array.getElem?_replicate];split<;>rfl) h;rw [←e] at this
 exact this
theorem dR {o:Oper}{a:Act}{w:World}(ho:ops[ops.size - 1]?=some o)
  (h:∀K':Act→World→Prop,(∀a w,Q .normal a w→K' a w)→if Region.wanted o (yielded ops a.tmps)=true then Oper.wp P o a w K' Q else K' (a.put o.dst undef) w):aFP P ops Q .normal a w:=wpOp_step ho h
end
end Go.Proofs.YtgpaajdfkekjiaaGreatDoor
