/-
  A part of the proof of the statement All: texts of ours, made small by program (blanks, names).
-/
import Derived.Test.YtgpaajdfkekjiaaGreatDoorPa
import Derived.Test.YtgpaajdfkekjiaaGreatDoorPi
import Derived.Test.YtgpaajdfkekjiaaGreatDoorPb
import Derived.Test.YtgpaajdfkekjiaaGreatDoorPj
import Derived.BigQuiet
import Derived.Deep.DeepCutAuto
import Derived.Test.YtgpaajdfkekjiaaGreatDoorPo
import Derived.Deep.RegionWith
import Derived.Handy
namespace Go.Proofs.YtgpaajdfkekjiaaGreatDoor
set_option maxHeartbeats 8000000
set_option maxRecDepth 100000
def idn (first:Nat):List Nat:=(List.range first).map (2*·)
def putS (l:List Nat) (s:Nat):Nat:=l.getD (s / 2) 0 ^^^ (s % 2)
def putG (l:List Nat) (g:Nat×Nat):Nat×Nat:=(min (putS l g.1) (putS l g.2),max (putS l g.1) (putS l g.2))
theorem aHF (a b:Nat) (hb:b≤1):(a ^^^ b) / 2=a / 2∧(a ^^^ b) % 2=(a+b) % 2:=by
 have h:b=0∨b=1:=by omega
 rcases h with rfl | rfl
 ·simp
 ·constructor
  ·have:=Nat.xor_div_two (a:=a) (b:=1);simpa using this
  ·have h:=Nat.xor_mod_two_pow (a:=a) (b:=1) (n:=1)
   simp only [Nat.pow_one] at h;rw [h];have h2:a % 2=0∨a % 2=1:=by omega
   rcases h2 with h2 | h2<;>rw [h2]
   ·show 1=_
    omega
   ·show 0=_
    omega
theorem iP (l:List Nat) (s:Nat):putS l s / 2=l.getD (s / 2) 0 / 2:=(aHF _ _ (by omega)).1
def jX (first:Nat) (t:List Nat×List (Nat×Nat)) (g:Nat×Nat):List Nat×List (Nat×Nat) :=
 let h:=putG t.1 g
 if h.1=0 then (t.1++[0],t.2)
 else if h.1=1 then (t.1++[h.2],t.2)
 else if h.1=h.2 then (t.1++[h.1],t.2)
 else if h.1 / 2=h.2 / 2 then (t.1++[0],t.2)
 else if h∈t.2 then (t.1++[2*(first+t.2.idxOf h)],t.2)
 else (t.1++[2*(first+t.2.length)],t.2++[h])
def sl1 (first:Nat) (gs:List (Nat×Nat)):Nat→List Nat×List (Nat×Nat)
 | 0=>(idn first,[])
 | k+1=>jX first (sl1 first gs k) (gs.getD k (0,0))
def need (first:Nat) (roots:List Nat) (kept:List (Nat×Nat)):Nat→Nat→Bool
 | 0,v=>decide (∃s∈roots,s / 2=v)
 | j+1,v=>need first roots kept j v||(need first roots kept j (first+(kept.length - 1 - j))&&(decide ((kept.getD (kept.length - 1 - j) (0,0)).1 / 2=v)||decide ((kept.getD (kept.length - 1 - j) (0,0)).2 / 2=v)))
def sl2 (first:Nat) (use:Nat→Bool) (kept:List (Nat×Nat)):Nat→List Nat×List (Nat×Nat)
 | 0=>(idn first,[])
 | k+1 =>
  let t:=sl2 first use kept k
  if use (first+k) then
   (t.1++[2*(first+t.2.length)],t.2++[(putS (t.1++[2*(first+t.2.length)]) (kept.getD k (0,0)).1,putS (t.1++[2*(first+t.2.length)]) (kept.getD k (0,0)).2)])
  else (t.1++[0],t.2)
theorem jN (first:Nat):(idn first).length=first:=by simp [idn]
theorem aBC {first v:Nat}(h:v<first):(idn first).getD v 0=2*v:=by simp [idn,h]
theorem aES (first:Nat) (t:List Nat×List (Nat×Nat)) (g:Nat×Nat):(jX first t g).1.length=t.1.length+1:=by
 unfold jX;dsimp only
 repeat' split
 all_goals simp
theorem jV (first:Nat) (gs:List (Nat×Nat)) (k:Nat):(sl1 first gs k).1.length=first+k:=by
 induction k with
 | zero=>simp [sl1,jN]
 | succ k ih=>rw [sl1,aES,ih];omega
theorem jF (first:Nat) (use:Nat→Bool) (kept:List (Nat×Nat)) (k:Nat):(sl2 first use kept k).1.length=first+k:=by
 induction k with
 | zero=>simp [sl2,jN]
 | succ k ih =>
  rw [sl2]
  split<;>simp [ih]<;> omega
def aF2 (first:Nat) (gs:List (Nat×Nat)):Prop:=∀k,k<gs.length→(gs.getD k (0,0)).1 / 2<first+k∧(gs.getD k (0,0)).2 / 2<first+k
structure Sl1Inv (first:Nat) (t:List Nat×List (Nat×Nat)):Prop where
 names:∀v,v<t.1.length→t.1.getD v 0 / 2<first+t.2.length
 ahead:∀k,k<t.2.length→(t.2.getD k (0,0)).1 / 2<(t.2.getD k (0,0)).2 / 2∧(t.2.getD k (0,0)).2 / 2<first+k∧2≤(t.2.getD k (0,0)).1
 nodup:t.2.Nodup
 small:∀v,v<first→t.1.getD v 0=2*v
 long:first≤t.1.length
theorem bS {α:Type}{l:List α}{x d:α}{j:Nat}(h:j<l.length):(l++[x]).getD j d=l.getD j d:=by
 simp only [List.getD_eq_getElem?_getD];rw [List.getElem?_append_left h]
theorem fT {α:Type}(l:List α) (x d:α):(l++[x]).getD l.length d=x:=by simp [List.getD_eq_getElem?_getD]
theorem Sl1Inv.step {first:Nat}{t:List Nat×List (Nat×Nat)}(h:Sl1Inv first t){g:Nat×Nat}(h1:g.1 / 2<t.1.length) (h2:g.2 / 2<t.1.length):Sl1Inv first (jX first t g):=by
 have a1:putS t.1 g.1 / 2<first+t.2.length:=by rw [iP];exact h.names _ h1
 have a2:putS t.1 g.2 / 2<first+t.2.length:=by rw [iP];exact h.names _ h2
 have b1:(putG t.1 g).1 / 2<first+t.2.length:=by unfold putG;dsimp only;omega
 have b2:(putG t.1 g).2 / 2<first+t.2.length:=by unfold putG;dsimp only;omega
 have b3:(putG t.1 g).1≤(putG t.1 g).2:=by unfold putG;dsimp only;omega
 have old:∀x,x / 2<first+t.2.length→Sl1Inv first (t.1++[x],t.2):=fun x hx=>by
  refine ⟨fun v hv=>?_,h.ahead,h.nodup,fun v hv=>?_,by have:=h.long;simp;omega⟩
  ·simp only [List.length_append,List.length_singleton] at hv
   by_cases e:v=t.1.length
   ·subst e;dsimp only;rw [fT];exact hx
   ·dsimp only;rw [bS (by omega)];exact h.names v (by omega)
  ·dsimp only
   rw [bS (by have:=h.long;omega)];exact h.small v hv
 unfold jX;dsimp only
 split
 ·exact old 0 (by omega)
 split
 ·exact old _ b2
 split
 ·exact old _ b1
 split
 ·exact old 0 (by omega)
 split
 ·rename_i hm
  exact old _ (by have:=List.idxOf_lt_length_iff.2 hm;omega)
 ·rename_i c0 c1 c2 c3 hm
  refine ⟨fun v hv=>?_,fun k hk=>?_,?_,fun v hv=>?_,by have:=h.long;simp;omega⟩
  ·simp only [List.length_append,List.length_singleton] at hv ⊢
   by_cases e:v=t.1.length
   ·subst e;rw [fT];omega
   ·rw [bS (by omega)];have:=h.names v (by omega);omega
  ·simp only [List.length_append,List.length_singleton] at hk ⊢
   by_cases e:k=t.2.length
   ·subst e;rw [fT];omega
   ·rw [bS (by omega)];exact h.ahead k (by omega)
  ·refine List.nodup_append.2 ⟨h.nodup,by simp,fun a ha b hb e=>?_⟩
   simp at hb
   subst hb;subst e
   exact hm ha
  ·dsimp only
   rw [bS (by have:=h.long;omega)];exact h.small v hv
theorem aC3 {first:Nat}{gs:List (Nat×Nat)}(hf:0<first) (hg:aF2 first gs):∀k,k≤gs.length→Sl1Inv first (sl1 first gs k)
 | 0,_=>⟨fun v hv=>by simp only [sl1,jN] at hv;simp only [sl1];rw [aBC hv];simp;omega,fun k hk=>by simp [sl1] at hk,by simp [sl1],fun v hv=>aBC hv,by simp [sl1,jN]⟩
 | k+1,hk=>by
  rw [sl1];have:=hg k (by omega)
  exact (aC3 hf hg k (by omega)).step (by rw [jV];exact this.1) (by rw [jV];exact this.2)
theorem jE (first:Nat) (gs:List (Nat×Nat)) (k:Nat):(sl1 first gs k).2.length≤k:=by
 induction k with
 | zero=>simp [sl1]
 | succ k ih =>
  rw [sl1];unfold jX;dsimp only
  repeat' split
  all_goals (try simp only [List.length_append,List.length_singleton]);omega
end Go.Proofs.YtgpaajdfkekjiaaGreatDoor
namespace Go.Proofs.YtgpaajdfkekjiaaGreatDoor
set_option maxHeartbeats 8000000
set_option maxRecDepth 100000
def mI (first:Nat) (kept:List (Nat×Nat)):Prop:=∀k,k<kept.length→(kept.getD k (0,0)).1 / 2<(kept.getD k (0,0)).2 / 2∧(kept.getD k (0,0)).2 / 2<first+k∧2≤(kept.getD k (0,0)).1
section
variable {first:Nat}{roots:List Nat}{kept:List (Nat×Nat)}
theorem zL {j:Nat}{v:Nat}(h:need first roots kept j v=true):∀j',j≤j'→need first roots kept j' v=true:=by
 intro j'
 induction j' with
 | zero =>
   intro hj;have:j=0:=by omega
   subst this;exact h
 | succ j' ih =>
  intro hj
  by_cases e:j=j'+1
  ·subst e;exact h
  ·rw [need,ih (by omega)];rfl
theorem aE9 (hk:mI first kept){i:Nat}(hi:i<kept.length):∀j,kept.length - 1 - i≤j→j≤kept.length→need first roots kept j (first+i)=need first roots kept (kept.length - 1 - i) (first+i):=by
 intro j
 induction j with
 | zero =>
   intro h1 _;have:kept.length - 1 - i=0:=by omega
   rw [this]
 | succ j ih =>
  intro h1 h2
  by_cases e:kept.length - 1 - i=j+1
  ·rw [e]
  ·rw [need,ih (by omega) (by omega)]
   have:=hk (kept.length - 1 - j) (by omega);rw [decide_eq_false (by omega),decide_eq_false (by omega)]
   simp
theorem aBJ (hk:mI first kept){i:Nat}(hi:i<kept.length) (h:need first roots kept kept.length (first+i)=true) :
  need first roots kept kept.length ((kept.getD i (0,0)).1 / 2)=true∧need first roots kept kept.length ((kept.getD i (0,0)).2 / 2)=true:=by
 rw [aE9 hk hi _ (by omega) (Nat.le_refl _)] at h;have e:kept.length - 1 - (kept.length - 1 - i)=i:=by omega
 constructor
 ·refine zL (j:=kept.length - 1 - i+1) ?_ _ (by omega)
  rw [need,e,h]
  simp
 ·refine zL (j:=kept.length - 1 - i+1) ?_ _ (by omega)
  rw [need,e,h]
  simp
variable {use:Nat→Bool}
theorem xF (k:Nat):∀k',k≤k'→(sl2 first use kept k).2.length≤(sl2 first use kept k').2.length:=by
 intro k'
 induction k' with
 | zero =>
   intro h;have:k=0:=by omega
   subst this;exact Nat.le_refl _
 | succ k' ih =>
  intro h
  by_cases e:k=k'+1
  ·subst e;exact Nat.le_refl _
  ·refine Nat.le_trans (ih (by omega)) ?_
   rw [sl2]
   split
   ·simp
   ·exact Nat.le_refl _
theorem jG (k:Nat):(sl2 first use kept k).2.length≤k:=by
 induction k with
 | zero=>simp [sl2]
 | succ k ih =>
  rw [sl2]
  split
  ·simp;omega
  ·dsimp only;omega
theorem jW {v:Nat}(hv:v<first):∀k,(sl2 first use kept k).1.getD v 0=2*v
 | 0=>by rw [sl2];exact aBC hv
 | k+1=>by
  rw [sl2]
  split
  ·dsimp only;rw [bS (by rw [jF];omega)];exact jW hv k
  ·dsimp only;rw [bS (by rw [jF];omega)];exact jW hv k
theorem aD7 {i:Nat}:∀k,i<k→(sl2 first use kept k).1.getD (first+i) 0=if use (first+i) then 2*(first+(sl2 first use kept i).2.length) else 0:=by
 intro k
 induction k with
 | zero=>intro h;omega
 | succ k ih =>
  intro h
  by_cases e:i=k
  ·subst e
   rw [sl2];have hl:=jF first use kept i
   split
   ·dsimp only
    rw [←hl,fT]
   ·dsimp only
    rw [←hl,fT]
  ·rw [←ih (by omega),sl2]
   have hl:=jF first use kept k
   split
   ·dsimp only;rw [bS (by omega)]
   ·dsimp only;rw [bS (by omega)]
theorem aJB {i j:Nat}(hij:i<j) (hu:use (first+i)=true):(sl2 first use kept i).2.length<(sl2 first use kept j).2.length:=by
 refine Nat.lt_of_lt_of_le ?_ (xF (i+1) j hij);rw [sl2,if_pos hu]
 simp
theorem aM5 {v w k:Nat}(hvw:v<w) (hw:w<first+k) (hv:v<first∨use v=true) (hw2:w<first∨use w=true):(sl2 first use kept k).1.getD v 0+2≤(sl2 first use kept k).1.getD w 0:=by
 by_cases h1:w<first
 ·rw [jW (by omega),jW h1];omega
 ·obtain ⟨j,rfl⟩:∃j,w=first+j:=⟨w - first,by omega⟩
  have u2:use (first+j)=true:=hw2.resolve_left h1;rw [aD7 k (by omega),if_pos u2]
  by_cases h2:v<first
  ·rw [jW h2];omega
  ·obtain ⟨i,rfl⟩:∃i,v=first+i:=⟨v - first,by omega⟩
   have u1:use (first+i)=true:=hv.resolve_left h2;rw [aD7 k (by omega),if_pos u1];have:=aJB (kept:=kept) (show i<j by omega) u1
   omega
theorem aGV (hk:mI first kept) (hc:∀i,i<kept.length→use (first+i)=true→(use ((kept.getD i (0,0)).1 / 2)=true∧use ((kept.getD i (0,0)).2 / 2)=true)){i:Nat}(hi:i<kept.length) (hu:use (first+i)=true) :
  putS ((sl2 first use kept i).1++[2*(first+(sl2 first use kept i).2.length)]) (kept.getD i (0,0)).1<putS ((sl2 first use kept i).1++[2*(first+(sl2 first use kept i).2.length)]) (kept.getD i (0,0)).2:=by
 obtain ⟨h1,h2,_⟩:=hk i hi;obtain ⟨c1,c2⟩:=hc i hi hu;have hl:=jF first use kept i
 have:=aM5 (kept:=kept) (use:=use) (k:=i) h1 h2 (.inr c1) (.inr c2);have e1:=iP ((sl2 first use kept i).1++[2*(first+(sl2 first use kept i).2.length)]) (kept.getD i (0,0)).1;have e2:=iP ((sl2 first use kept i).1++[2*(first+(sl2 first use kept i).2.length)]) (kept.getD i (0,0)).2;rw [bS (by omega)] at e1 e2
 omega
end
end Go.Proofs.YtgpaajdfkekjiaaGreatDoor
namespace Go.Proofs.YtgpaajdfkekjiaaGreatDoor
set_option maxHeartbeats 8000000
set_option maxRecDepth 100000
def z2 (ps:List (Nat×Nat)):List (Int×Int):=ps.map fun (p:Nat×Nat)=>((p.1:Int),(p.2:Int))
theorem fZ (ps:List (Nat×Nat)):(z2 ps).length=ps.length:=by simp [z2]
theorem aAS (ps:List (Nat×Nat)) (k:Nat):(z2 ps).getD k (0,0)=(((ps.getD k (0,0)).1:Int),((ps.getD k (0,0)).2:Int)):=by
 simp only [z2,List.getD_eq_getElem?_getD,List.getElem?_map]
 cases ps[k]?<;>rfl
section
variable {first:Nat}{gs:List (Nat×Nat)}
end
end Go.Proofs.YtgpaajdfkekjiaaGreatDoor
namespace Go.Proofs.YtgpaajdfkekjiaaGreatDoor
set_option maxHeartbeats 8000000
set_option maxRecDepth 100000
section
variable {first:Nat}{kept:List (Nat×Nat)}{use:Nat→Bool}
end
theorem vZ (m:Nat):idn m++[2*m]=idn (m+1):=by simp [idn,List.range_succ]
theorem sY {α:Type}(l:List α) (d:α) (k:Nat) (hk:k<l.length):l.take (k+1)=l.take k++[l.getD k d]:=by
 rw [List.take_succ_eq_append_getElem hk];simp [hk]
end Go.Proofs.YtgpaajdfkekjiaaGreatDoor
namespace Go.Proofs.YtgpaajdfkekjiaaGreatDoor
set_option maxHeartbeats 8000000
set_option maxRecDepth 100000
def natP (ps:List (Int×Int)):List (Nat×Nat):=ps.map fun p=>(p.1.toNat,p.2.toNat)
theorem qP (ps:List (Int×Int)):(natP ps).length=ps.length:=by simp [natP]
theorem qN (ps:List (Int×Int)) (k:Nat):(natP ps).getD k (0,0)=((ps.getD k (0,0)).1.toNat,(ps.getD k (0,0)).2.toNat):=by
 simp only [natP,List.getD_eq_getElem?_getD,List.getElem?_map]
 cases ps[k]?<;>rfl
theorem aKU (ps:List (Nat×Nat)):natP (z2 ps)=ps:=by
 simp only [natP,z2,List.map_map];rw [List.map_congr_left (g:=id)]
 ·simp
 ·intro p _;rfl
def slN1 (n:Nat) (ls gs:List (Int×Int)):List Nat:=(sl1 (n+ls.length+1) (natP gs) gs.length).1
def fJ (n:Nat) (ls gs:List (Int×Int)):List (Nat×Nat):=(sl1 (n+ls.length+1) (natP gs) gs.length).2
def sP (n:Nat) (ls gs:List (Int×Int)) (os:List Int):List Nat:=ls.map (fun p=>putS (slN1 n ls gs) p.1.toNat)++ os.map fun s=>putS (slN1 n ls gs) s.toNat
def aET (n:Nat) (ls gs:List (Int×Int)) (os:List Int):Nat→Bool:=need (n+ls.length+1) (sP n ls gs os) (fJ n ls gs) (fJ n ls gs).length
def slN2 (n:Nat) (ls gs:List (Int×Int)) (os:List Int):List Nat:=(sl2 (n+ls.length+1) (aET n ls gs os) (fJ n ls gs) (fJ n ls gs).length).1
def uZ (n:Nat) (ls gs:List (Int×Int)) (os:List Int):List (Nat×Nat):=(sl2 (n+ls.length+1) (aET n ls gs os) (fJ n ls gs) (fJ n ls gs).length).2
def slL (n:Nat) (ls gs:List (Int×Int)) (os:List Int):List (Int×Int):=ls.map fun p=>((putS (slN2 n ls gs os) (putS (slN1 n ls gs) p.1.toNat):Int),p.2)
def slG (n:Nat) (ls gs:List (Int×Int)) (os:List Int):List (Int×Int):=z2 (uZ n ls gs os)
def slO (n:Nat) (ls gs:List (Int×Int)) (os:List Int):List Int:=os.map fun s=>(putS (slN2 n ls gs os) (putS (slN1 n ls gs) s.toNat):Int)
structure RightN (n:Nat) (ls gs:List (Int×Int)) (os:List Int):Prop where
 n4:n≤4
 l4:ls.length≤4
 o4:os.length≤4
 g30:gs.length≤30
 lat:∀i,i<ls.length→0≤(ls.getD i (0,0)).1∧(ls.getD i (0,0)).1.toNat / 2<n+ls.length+1+gs.length∧0≤(ls.getD i (0,0)).2∧(ls.getD i (0,0)).2≤1
 gat:∀i,i<gs.length→0≤(gs.getD i (0,0)).1∧0≤(gs.getD i (0,0)).2∧(gs.getD i (0,0)).1.toNat / 2<n+ls.length+1+i∧(gs.getD i (0,0)).2.toNat / 2<n+ls.length+1+i
 out:∀i,i<os.length→0≤os.getD i 0∧(os.getD i 0).toNat / 2<n+ls.length+1+gs.length
theorem rightN_iff {n:Nat}{ls gs:List (Int×Int)}{os:List Int}:aG n ls gs os=true↔RightN n ls gs os:=by
 simp only [aG,eJ,gD,mT,wT,cJ,dG,Bool.and_eq_true,decide_eq_true_eq,inB]
 constructor
 ·rintro ⟨⟨⟨⟨⟨⟨h1,h2⟩,h3⟩,h4⟩,hl⟩,hg⟩,ho⟩
  exact ⟨by omega,by omega,by omega,by omega,fun i hi=>by have:=hl i hi;omega,fun i hi=>by have:=hg i hi;omega,fun i hi=>by have:=ho i hi;omega⟩
 ·rintro ⟨h1,h2,h3,h4,hl,hg,ho⟩
  exact ⟨⟨⟨⟨⟨⟨by omega,by omega⟩,by omega⟩,by omega⟩,fun i hi=>by have:=hl i hi;omega⟩,fun i hi=>by have:=hg i hi;omega⟩,fun i hi=>by have:=ho i hi;omega⟩
section
variable {n:Nat}{ls gs:List (Int×Int)}{os:List Int}
theorem RightN.gatesOk (h:RightN n ls gs os):aF2 (n+ls.length+1) (natP gs):=fun k hk=>by
 rw [qP] at hk;rw [qN];have:=h.gat k hk
 exact ⟨this.2.2.1,this.2.2.2⟩
theorem RightN.inv (h:RightN n ls gs os):Sl1Inv (n+ls.length+1) (sl1 (n+ls.length+1) (natP gs) gs.length):=aC3 (by omega) h.gatesOk _ (by rw [qP];exact Nat.le_refl _)
theorem RightN.keptOk (h:RightN n ls gs os):mI (n+ls.length+1) (fJ n ls gs):=h.inv.ahead
theorem aGW:(uZ n ls gs os).length≤(fJ n ls gs).length:=jG _
theorem sN:(fJ n ls gs).length≤gs.length:=jE _ _ _
theorem aLF:(slL n ls gs os).length=ls.length:=by simp [slL]
theorem aLG:(slO n ls gs os).length=os.length:=by simp [slO]
theorem aLE:(slG n ls gs os).length=(uZ n ls gs os).length:=fZ _
theorem wU (h:RightN n ls gs os){s:Nat}(hs:s / 2<n+ls.length+1+gs.length):putS (slN1 n ls gs) s / 2<n+ls.length+1+(fJ n ls gs).length:=by
 rw [iP]
 exact h.inv.names _ (by rw [jV];exact hs)
end
end Go.Proofs.YtgpaajdfkekjiaaGreatDoor
namespace Go.Proofs.YtgpaajdfkekjiaaGreatDoor
set_option maxHeartbeats 8000000
set_option maxRecDepth 100000
open Go.RowKit
def ndl (a b:Nat):Nat×Bool:=if a=0 then (0,true) else if a=1 then (b,true) else if a=b then (a,true) else if a=b ^^^ 1 then (0,true) else (0,false)
theorem zM (a b:Nat) (w:World) (hb:b<9223372036854775808) :
  Calls Tryz.prog 102 #[.agg #[.int .i64 a,.int .i64 b]] w fun e w'=>e=.returned (.tuple #[.int .i64 (ndl a b).1,.bool (ndl a b).2])∧Below w.heap.size w w':=by
 have hxor:bits .xor .i64 (b:Int) 1=((b ^^^ 1:Nat):Int):=by have:=eP b 1 hb (by omega);simpa using this
 obtain ⟨y,hy⟩:∃y,y=b ^^^ 1:=⟨_,rfl⟩
 unfold ndl;rw [←hy] at hxor ⊢;clear hy;have bel:Below w.heap.size w (w.alloc (.cells #[.int .i64 a,.int .i64 b] 56)):=(Below.refl _ _).alloc (Nat.le_refl _) _
 by_cases h0:a=0
 ·subst h0
  go_enter Tryz.func102,Tryz.ntmps102
  go_wp2
  go_ret2
  exact ⟨rfl,bel⟩
 ·have k0:((a:Int)==0)=false:=by simp;omega
  by_cases h1:a=1
  ·subst h1
   go_enter Tryz.func102,Tryz.ntmps102
   go_wp2
   go_ret2
   exact ⟨rfl,bel⟩
  ·have k1:((a:Int)==1)=false:=by simp;omega
   by_cases h2:a=b
   ·subst h2
    rw [if_neg h0,if_neg h1,if_pos rfl];clear h0 h1
    go_enter Tryz.func102,Tryz.ntmps102
    go_wp2
    go_ret2
    exact ⟨rfl,bel⟩
   ·have k2:((a:Int)==(b:Int))=false:=by simp;omega
    by_cases h3:a=y
    ·rw [if_neg h0,if_neg h1,if_neg h2,if_pos h3]
     have k3:((a:Int)==(y:Int))=true:=(by simp;omega)
     clear h0 h1 h2 h3
     go_enter Tryz.func102,Tryz.ntmps102
     go_wp2
     go_ret2
     exact ⟨rfl,bel⟩
    ·rw [if_neg h0,if_neg h1,if_neg h2,if_neg h3]
     have k3:((a:Int)==(y:Int))=false:=(by simp;omega)
     clear h0 h1 h2 h3
     go_enter Tryz.func102,Tryz.ntmps102
     go_wp2
     go_ret2
     exact ⟨rfl,bel⟩
theorem aD1 (S:Nat) (b off len cap:Nat) (l:List Nat) (w:World) (hl:S / 2<len) (hlen:len≤1000) (hv:len=l.length) (h01:∀x∈l,x<1000)
  (hc:∀j,j<len→w.cell? ⟨b,off+j,none⟩=some (.int .i64 ((l.getD j 0:Nat):Int))) :
  Calls Tryz.prog 118 #[.slice (some ⟨b,off,none⟩) len cap,.int .i64 S] w fun e w'=>e=.returned (.int .i64 (putS l S:Nat))∧w'=w:=by
 have hcell:=hc (S / 2) hl;have hx:l.getD (S / 2) 0<1000:=by
  have hlt:S / 2<l.length:=by omega
  rw [List.getD_eq_getElem?_getD,List.getElem?_eq_getElem hlt]
  exact h01 _ (List.getElem_mem hlt)
 unfold putS;obtain ⟨x,hX⟩:∃x,x=l.getD (S / 2) 0:=⟨_,rfl⟩
 rw [←hX] at hcell hx ⊢;clear hX hc h01 hv;have H1:Hid (bits .and .i64 (S:Int) 1=((S % 2:Nat):Int)):=vY S (by omega);have H2:Hid (bits .xor .i64 (x:Int) ((S % 2:Nat):Int)=((x ^^^ (S % 2):Nat):Int)):=eP x (S % 2) (by omega) (by omega)
 go_enter Tryz.func118,Tryz.ntmps118
 go_wp2
 go_ret
 refine ⟨eZ ?_,rfl⟩;rw [H1.out,H2.out]
theorem iC {w:World}{b:Nat}{tmps:Array Value}{v0 v1:Value}(h:w.heap[b]?=some (.cells #[v0,v1] 56 (0,0))) (h4:tmps[4]?.getD undef=.pointer (some ⟨b,0,none⟩)) :
  (results Tryz.f100 tmps).run Tryz.prog w=.ok (.agg #[v0,v1]) w:=by
 have c0:w.cell? ⟨b,0,none⟩=some v0:=by rw [cell_of_row _ _ _ _ _ _ h];rfl
 have c1:w.cell? ⟨b,1,none⟩=some v1:=by rw [cell_of_row _ _ _ _ _ _ h];rfl
 simp [results,Tryz.results100,go_sem,h4,c0,c1]

theorem uK (a c:Nat) (b off len cap:Nat) (l:List Nat) (w:World) (ha:a / 2<len) (hcl:c / 2<len) (hlen:len≤1000) (hv:len=l.length) (h01:∀x∈l,x<1000) (hb:b<w.heap.size)
  (hc:∀j,j<len→w.cell? ⟨b,off+j,none⟩=some (.int .i64 ((l.getD j 0:Nat):Int))) :
  Calls Tryz.prog 100 #[.slice (some ⟨b,off,none⟩) len cap,.agg #[.int .i64 a,.int .i64 c]] w fun e w'=>e=.returned (.agg #[.int .i64 ((putG l (a,c)).1:Nat),.int .i64 ((putG l (a,c)).2:Nat)])∧Below w.heap.size w w':=by
 obtain ⟨W2,hW2⟩:∃W2,W2=(w.alloc (.cells #[.int .i64 a,.int .i64 c] 56)).alloc (.cells #[.int .i64 0,.int .i64 0] 56):=⟨_,rfl⟩
 have B2:Below w.heap.size w W2:=by rw [hW2];exact ((Below.refl _ _).alloc (Nat.le_refl _) _).alloc (by simp) _
 have xA:W2.heap[w.heap.size]?=some (.cells #[.int .i64 a,.int .i64 c] 56 (0,0)):=by rw [hW2];exact aA (aB _ _ _ rfl)
 have xR:W2.heap[w.heap.size+1]?=some (.cells #[.int .i64 0,.int .i64 0] 56 (0,0)):=by rw [hW2];exact aB _ _ _ (by simp)
 have hc2:∀j,j<len→W2.cell? ⟨b,off+j,none⟩=some (.int .i64 ((l.getD j 0:Nat):Int)):=fun j hj=>(B2.cell (p:=⟨b,_,none⟩) hb).trans (hc j hj)
 have A0:W2.cell? ⟨w.heap.size,0,none⟩=some (.int .i64 a):=by rw [cell_of_row _ _ _ _ _ _ xA];rfl
 have A1:W2.cell? ⟨w.heap.size,1,none⟩=some (.int .i64 c):=by rw [cell_of_row _ _ _ _ _ _ xA];rfl
 have R0:W2.cell? ⟨w.heap.size+1,0,none⟩=some (.int .i64 0):=by rw [cell_of_row _ _ _ _ _ _ xR];rfl
 have R1:W2.cell? ⟨w.heap.size+1,1,none⟩=some (.int .i64 0):=by rw [cell_of_row _ _ _ _ _ _ xR];rfl
 have G0:W2.frozen? ⟨w.heap.size+1,0,none⟩=false:=frozen_of_row _ _ _ _ _ xR;have G1:W2.frozen? ⟨w.heap.size+1,1,none⟩=false:=frozen_of_row _ _ _ _ _ xR;have HC2:Hid (∀j,j<len→W2.cell? ⟨b,off+j,none⟩=some (.int .i64 ((l.getD j 0:Nat):Int))):=hc2;unfold putG;obtain ⟨x,hx⟩:∃x,x=putS l a:=⟨_,rfl⟩
 obtain ⟨y,hy⟩:∃y,y=putS l c:=⟨_,rfl⟩
 have oX:∀k:Nat,Calls Tryz.prog 118 #[.slice (some ⟨b,off,none⟩) len cap,.int .i64 a] (W2.drewN k) fun e w'=>e=.returned (.int .i64 x)∧w'=W2.drewN k:=fun k=>by
  rw [hx]
  exact aD1 a b off len cap l _ ha hlen hv h01 (fun j hj=>((below_drewN (Below.refl W2.heap.size W2) k).cell (p:=⟨b,_,none⟩) (Nat.lt_of_lt_of_le hb B2.size)).trans (hc2 j hj))
 have oY:∀k:Nat,Calls Tryz.prog 118 #[.slice (some ⟨b,off,none⟩) len cap,.int .i64 c] (W2.drewN k) fun e w'=>e=.returned (.int .i64 y)∧w'=W2.drewN k:=fun k=>by
  rw [hy]
  exact aD1 c b off len cap l _ hcl hlen hv h01 (fun j hj=>((below_drewN (Below.refl W2.heap.size W2) k).cell (p:=⟨b,_,none⟩) (Nat.lt_of_lt_of_le hb B2.size)).trans (hc2 j hj))
 show Calls _ _ _ _ (fun e w'=>e=.returned (.agg #[.int .i64 ((min (putS l a) (putS l c):Nat):Int),.int .i64 ((max (putS l a) (putS l c):Nat):Int)])∧Below w.heap.size w w')
 rw [←hx,←hy];clear hx hy hc hc2 HC2 hv h01 hlen ha hcl
 go_enter Tryz.func100,Tryz.ntmps100
 go_upto_region 1 with fail
 rw [←hW2];clear hW2
 go_quiet (first | (go_at_call 118;(with_reducible refine Calls.quiet_of_same (oX _))) | (go_at_call 118;(with_reducible refine Calls.quiet_of_same (oY _))))
 have hR2:w.heap.size+1<W2.heap.size:=(Array.getElem?_eq_some_iff.1 xR).1
 rcases Nat.lt_trichotomy x y with h | h | h
 ·have h2:¬y<x:=by omega
  go_wp2;refine bodyPost_ret (iC (b:=w.heap.size+1) (aM (aM (((below_drewN (Below.refl W2.heap.size W2) nq).block _ hR2).trans xR) 0 _) 1 _) (by rfl)) rfl ⟨(by rw [Nat.min_eq_left (Nat.le_of_lt h),Nat.max_eq_right (Nat.le_of_lt h)]),?_⟩
  exact ((below_drewN B2 nq).setCell (p:=⟨w.heap.size+1,0,none⟩) (by simp) _).setCell (p:=⟨w.heap.size+1,1,none⟩) (by simp) _
 ·subst h
  go_wp2;refine bodyPost_ret (iC (b:=w.heap.size+1) (aM (aM (((below_drewN (Below.refl W2.heap.size W2) nq).block _ hR2).trans xR) 0 _) 1 _) (by rfl)) rfl ⟨(by rw [Nat.min_self,Nat.max_self]),?_⟩
  exact ((below_drewN B2 nq).setCell (p:=⟨w.heap.size+1,0,none⟩) (by simp) _).setCell (p:=⟨w.heap.size+1,1,none⟩) (by simp) _
 ·have h2:¬x<y:=by omega
  go_wp2;refine bodyPost_ret (iC (b:=w.heap.size+1) (aM (aM (((below_drewN (Below.refl W2.heap.size W2) nq).block _ hR2).trans xR) 0 _) 1 _) (by rfl)) rfl ⟨(by rw [Nat.min_eq_right (Nat.le_of_lt h),Nat.max_eq_left (Nat.le_of_lt h)]),?_⟩
  exact ((below_drewN B2 nq).setCell (p:=⟨w.heap.size+1,0,none⟩) (by simp) _).setCell (p:=⟨w.heap.size+1,1,none⟩) (by simp) _
theorem aE {p:Prop}(h:p):Hid p:=h
theorem zJ (n ln F:Nat) (la:Option Addr) (lc:Nat) (v2 v3:Value) (w:World) (h1:n≤4) (h2:ln≤4) (hF:F=1+n+ln) :
  Calls Tryz.prog 98 #[.agg #[.int .i64 n,.slice la ln lc,v2,v3]] w fun e w'=>∃v,e=.returned v∧w'.ownsRow w.heap.size 3 1 v F (aP (idn F))∧Below w.heap.size w w':=by
 obtain ⟨i0,hi,hz0,hz1,hz2⟩:=info_parts Tryz.infoInt;have hFI:(1:Int)+(n:Int)+(ln:Int)=(F:Int):=by omega
 have hF9:F≤9:=by omega
 have HF:=aE hF;clear hF
 go_enter Tryz.func98,Tryz.ntmps98
 go_wp2
 go_loopw [3,4,12] (fun v _ i wr=>∃k:Nat,k≤F∧i=.int .i64 k∧wr.ownsRow w.heap.size 3 1 v k (aP (idn k))∧Below w.heap.size w wr) (fun _ _ i _=>F - (intOf i).toNat)
 case atStart=>exact ⟨0,Nat.zero_le _,rfl,⟨rfl,.inl ⟨rfl,rfl⟩⟩,(Below.refl _ _).alloc (Nat.le_refl _) _⟩
 case round =>
  obtain ⟨k,hk,rfl,hown,hbel⟩:=hrel
  by_cases hk2:k<F
  ·have kI:(k:Int)<(F:Int):=by omega
   obtain ⟨X,hX⟩:∃X:Nat,X=2*k:=⟨_,rfl⟩
   have hXI:(2:Int)*(k:Int)=(X:Int):=(by omega)
   have HX:=aE hX;clear hX;have hsz:=hbel.size
   go_wp2_with (at_builtin;refine wpList_append_lies _ rfl (.tmp 15) (.tmp 18) 165 rfl w.heap.size 3 i0 (.int .i64 0) 1 8 Tryz.underlying165 hi hz0 hz1 hz2 rfl (by omega) _ _ _ rfl (hown.alloc _) ⟨wr.heap.size,0,none⟩ 1 1 [.int .i64 X] rfl rfl (cell_one_new _ _ _) (by simp;rfl) (by omega) (by unfold maxLen;omega) (by omega) (by simp;omega) _ rfl ?_)
   intro g' cap' w1 hown1 hgrow hat hlt1;have e3:Below w.heap.size w w1:=(hbel.alloc hsz _).grown hgrow (by simp;omega) (fun q hq=>(hown.lt q hq).1);clear hgrow hat hown;go_wp2
   go_roundw
   case rel=>exact ⟨k+1,by omega,by go_num,by rw [←vZ,aZ,←HX.out];exact hown1,e3⟩
   case measure=>simp [intOf];omega
  ·have hkF:k=F:=by omega
   subst hkF;go_wp2
   go_ret
   exact ⟨_,rfl,hown,hbel⟩
theorem Tryz.infoLS:(Tryz.prog.info? 54).map (fun i=>(i.zero,i.size,i.bytes))=some (some (.agg #[.int .i64 0,.int .i64 0]),2,16):=by kernel_rfl
theorem Tryz.infoGS:(Tryz.prog.info? 56).map (fun i=>(i.zero,i.size,i.bytes))=some (some (.agg #[.int .i64 0,.int .i64 0]),2,16):=by kernel_rfl
theorem aG2 (w:World) (u v:Value) (t:TypeId):∀j x,[u,v][j]?=some x→(w.alloc (.cells #[u,v] t)).drew.cell? ((⟨w.heap.size,0,none⟩:Addr).add j)=some x :=
 fun j x hx=>World.news_of_block (w:=(w.alloc (.cells #[u,v] t)).drew) (heap_alloc_new w _) j x hx
theorem aM0 (w:World) (v:Value) (t:TypeId):∀j x,[v][j]?=some x→(w.alloc (.cells #[v] t)).drew.cell? ((⟨w.heap.size,0,none⟩:Addr).add j)=some x :=
 fun j x hx=>World.news_of_block (w:=(w.alloc (.cells #[v] t)).drew) (heap_alloc_new w _) j x hx
theorem kV {wr':World}{C base e size:Nat}{v:Value}{n:Nat}{xs:List Value}(hA:C<base) (h:wr'.ownsRow base e size v n xs) (i:Nat) (x:Value):(wr'.setCell ⟨C,i,none⟩ x).ownsRow base e size v n xs :=
 aL h (fun q hq=>Deep.blk_setCell_other _ _ _ _ (show q≠C by have:=h.lt q hq;omega))
def aHI (w:World) (N:Nat) (ls gs:List (Int×Int)) (os:List Int) (e:Ending) (w':World):Prop :=
 ∃lv gv ov,e=.returned (.agg #[.int .i64 N,lv,gv,ov])∧w'.ownsRow w.heap.size 54 2 lv ls.length (flat ls)∧w'.ownsRow w.heap.size 56 2 gv gs.length (flat gs)∧w'.ownsRow w.heap.size 3 1 ov os.length (ivs os)∧
  (∀q,lv.ownBlock=some q→gv.ownBlock≠some q)∧(∀q,lv.ownBlock=some q→ov.ownBlock≠some q)∧(∀q,gv.ownBlock=some q→ov.ownBlock≠some q)∧Below w.heap.size w w'
theorem kT (S:Nat) (b off len cap:Nat) (l:List Nat) (w:World) (hl:S / 2<len) (hlen:len≤1000) (hv:len=l.length) (h01:∀x∈l,x<1000)
  (hc:∀j,j<len→w.cell? ⟨b,off+j,none⟩=some (.int .i64 ((l.getD j 0:Nat):Int))) :
  Calls Tryz.prog 56 #[.slice (some ⟨b,off,none⟩) len cap,.int .i64 S] w fun e w'=>e=.returned (.int .i64 (putS l S:Nat))∧w'=w:=by
 have hcell:=hc (S / 2) hl;have hx:l.getD (S / 2) 0<1000:=by
  have hlt:S / 2<l.length:=by omega
  rw [List.getD_eq_getElem?_getD,List.getElem?_eq_getElem hlt]
  exact h01 _ (List.getElem_mem hlt)
 unfold putS;obtain ⟨x,hX⟩:∃x,x=l.getD (S / 2) 0:=⟨_,rfl⟩
 rw [←hX] at hcell hx ⊢;clear hX hc h01 hv;have H2:Hid (bits .xor .i64 (x:Int) ((S % 2:Nat):Int)=((x ^^^ (S % 2):Nat):Int)):=eP x (S % 2) (by omega) (by omega)
 go_enter Tryz.func56,Tryz.ntmps56
 go_wp2
 go_ret
 refine ⟨eZ ?_,rfl⟩;rw [←H2.out]
 congr 1
theorem aLU {kept:List (Nat×Nat)}{g:Nat×Nat}{k:Nat}(hk:k<kept.length) (hg:kept.getD k (0,0)=g) (hn:∀j,j<k→kept.getD j (0,0)≠g):g∈kept∧kept.idxOf g=k:=by
 have hgk:kept[k]=g:=by rw [←hg,List.getD_eq_getElem?_getD,List.getElem?_eq_getElem hk];rfl
 have hm:g∈kept:=by rw [←hgk];exact List.getElem_mem hk
 refine ⟨hm,?_⟩;have h1:kept.idxOf g<kept.length:=List.idxOf_lt_length_iff.2 hm;have h2:kept[kept.idxOf g]=g:=List.getElem_idxOf h1
 rcases Nat.lt_trichotomy (kept.idxOf g) k with h | h | h
 ·exact absurd (by rw [List.getD_eq_getElem?_getD,List.getElem?_eq_getElem h1];exact h2) (hn _ h)
 ·exact h
 ·have:=List.not_of_lt_findIdx (xs:=kept) (p:=fun x=>x==g) (i:=k) (by simpa [List.idxOf] using h)
  rw [hgk] at this
  simp at this
theorem aEB {kept:List (Nat×Nat)}{g:Nat×Nat}(hn:∀j,j<kept.length→kept.getD j (0,0)≠g):g ∉ kept:=fun hm=>by
 obtain ⟨i,hi,rfl⟩:=List.getElem_of_mem hm
 exact hn i hi (by rw [List.getD_eq_getElem?_getD,List.getElem?_eq_getElem hi];rfl)
theorem aFZ {kept:List (Nat×Nat)}{p q x y k:Nat}(hn:∀j,j<k→kept.getD j (0,0)≠(x,y)) (hg:(p,q)=kept.getD k (0,0)) (he:¬(p=x∧q=y)):∀j,j<k+1→kept.getD j (0,0)≠(x,y):=fun j hj=>by
 by_cases hjk:j=k
 ·subst hjk
  rw [←hg];intro e;simp only [Prod.mk.injEq] at e
  exact he e
 ·exact hn j (by omega)
def oP (kept:List (Nat×Nat)) (g:Nat×Nat):Int:=if g∈kept then (kept.idxOf g:Int) else -1

theorem aGD (kept:List (Nat×Nat)) (x y:Nat) (ka:Option Addr) (kc kn:Nat) (w:World) (hkn:kn=kept.length) (hl:kept.length≤1000) (hK:PairsAt w ka (z2 kept)) :
  Calls Tryz.prog 57 #[.slice ka kn kc,.agg #[.int .i64 x,.int .i64 y]] w fun e w'=>e=.returned (.int .i64 (oP kept (x,y)))∧Below w.heap.size w w':=by
 subst hkn
 go_enter Tryz.func57,Tryz.ntmps57
 go_wp2
 go_loopw [5] (fun i wr=>∃k:Nat,k≤kept.length∧i=.int .i64 k∧(∀j,j<k→kept.getD j (0,0)≠(x,y))∧wr.cell? ⟨w.heap.size,0,none⟩=some (.int .i64 x)∧wr.cell? ⟨w.heap.size,1,none⟩=some (.int .i64 y)∧w.heap.size<wr.heap.size∧Below w.heap.size w wr) (fun i _=>kept.length - (intOf i).toNat)
 case atStart=>exact ⟨0,Nat.zero_le _,rfl,fun j hj=>absurd hj (Nat.not_lt_zero j),by simp [go_sem],by simp [go_sem],by simp,(Below.refl _ _).alloc (Nat.le_refl _) _⟩
 case round =>
  obtain ⟨k,hk,rfl,hn,c0,c1,hlt,bel⟩:=hrel
  by_cases hk2:k<kept.length
  ·obtain ⟨b,off,rfl,hb,hc⟩:=hK.get (by rw [fZ];omega)
   have d:=hc k (by rw [fZ];exact hk2);rw [aAS] at d;have d0:=(bel.cell (p:=⟨b,off+k*2,none⟩) hb).trans d.1;have d1:=(bel.cell (p:=⟨b,off+k*2+1,none⟩) hb).trans d.2;obtain ⟨g,hg⟩:∃g,g=kept.getD k (0,0):=⟨_,rfl⟩
   rw [←hg] at d0 d1;obtain ⟨p,q⟩:=g;dsimp only at d0 d1;have kI:(k:Int)<(kept.length:Int):=(by omega)
   have k0:(0:Int)≤(k:Int):=(by omega)
   have HN:=aE hn;have HG:=aE hg;clear d hc hn hg
   by_cases he:p=x∧q=y
   ·obtain ⟨rfl,rfl⟩:=he
    go_wp2
    go_quiet (fail)
    go_wp2
    go_ret
    have h:=aLU hk2 HG.out.symm HN.out;refine ⟨eZ ?_,below_drewN bel _⟩;unfold oP;rw [if_pos h.1,h.2]
   ·have HE:=aE he
    clear he
    by_cases hp:p=x
    ·subst hp
     have hq:¬q=y:=fun e=>HE.out ⟨rfl,e⟩
     have hb2:((q:Int)==(y:Int))=false:=(by simp only [beq_eq_false_iff_ne,ne_eq];omega)
     clear hq;go_wp2
     go_quiet (fail)
     go_wp2
     go_roundw
     case rel=>exact ⟨k+1,by omega,by go_num,aFZ HN.out HG.out (fun e=>HE.out (by simpa using e)),c0,c1,hlt,below_drewN bel _⟩
     case measure=>simp [intOf];omega
    ·have hb1:((p:Int)==(x:Int))=false:=by simp only [beq_eq_false_iff_ne,ne_eq];omega
     clear hp;go_wp2
     go_quiet (fail)
     go_wp2
     go_roundw
     case rel=>exact ⟨k+1,by omega,by go_num,aFZ HN.out HG.out (fun e=>HE.out (by simpa using e)),c0,c1,hlt,below_drewN bel _⟩
     case measure=>simp [intOf];omega
  ·have hkN:k=kept.length:=by omega
   subst hkN;go_wp2
   go_ret
   refine ⟨eZ ?_,bel⟩;unfold oP;rw [if_neg (aEB hn)]
end Go.Proofs.YtgpaajdfkekjiaaGreatDoor
