/-
  A part of the proof of the statement All: texts of ours, made small by program (blanks, names).
-/
import Derived.Test.YtgpaajdfkekjiaaGreatDoorQr
import Derived.Test.YtgpaajdfkekjiaaGreatDoorQl
import Derived.Test.YtgpaajdfkekjiaaGreatDoorQo
import Derived.Test.YtgpaajdfkekjiaaGreatDoorQa
namespace Go.Proofs.YtgpaajdfkekjiaaGreatDoor
set_option maxHeartbeats 8000000
set_option maxRecDepth 100000
open Go.RowKit
def ahead (h:Hd) (i:Nat) (ls:List (Int×Int)) (os:List Int) (gs:List (Int×Int)):List UInt8 :=
 mD h.n h.l h.g h.o++gH i++aT h.n ls ls.length++cM os os.length++bK (h.n+h.l) gs gs.length
theorem xL (n:Nat) (ls:List (Int×Int)) (p:Int×Int):∀k,k≤ls.length→aT n (ls++[p]) k=aT n ls k:=by
 intro k
 induction k with
 | zero=>intro _;rfl
 | succ k ih =>
  intro hk;have e:(ls++[p]).getD k (0,0)=ls.getD k (0,0):=by simp [List.getElem?_append_left (show k<ls.length by omega)]
  rw [aT,aT,ih (by omega),e]
theorem xM (n:Nat) (ls:List (Int×Int)) (a b:Nat):aT n (ls++[((a:Int),(b:Int))]) (ls.length+1)=aT n ls ls.length++dV [2*(n+ls.length)+2,a,b]:=by
 rw [aT,xL n ls _ _ (Nat.le_refl _)]
 simp
theorem aAK (n:Nat) (ls:List (Int×Int)) (p:Int×Int):∀k,k≤ls.length→bK n (ls++[p]) k=bK n ls k:=by
 intro k
 induction k with
 | zero=>intro _;rfl
 | succ k ih =>
  intro hk;have e:(ls++[p]).getD k (0,0)=ls.getD k (0,0):=by simp [List.getElem?_append_left (show k<ls.length by omega)]
  rw [bK,bK,ih (by omega),e]
theorem aAL (n:Nat) (ls:List (Int×Int)) (a b:Nat):bK n (ls++[((a:Int),(b:Int))]) (ls.length+1)=bK n ls ls.length++dV [2*(n+ls.length)+2,a,b]:=by
 rw [bK,aAK n ls _ _ (Nat.le_refl _)]
 simp
theorem aC9 (os:List Int) (p:Int):∀k,k≤os.length→cM (os++[p]) k=cM os k:=by
 intro k
 induction k with
 | zero=>intro _;rfl
 | succ k ih =>
  intro hk;have e:(os++[p]).getD k 0=os.getD k 0:=by simp [List.getElem?_append_left (show k<os.length by omega)]
  rw [cM,cM,ih (by omega),e]
theorem aCA (os:List Int) (a:Nat):cM (os++[(a:Int)]) (os.length+1)=cM os os.length++dV [a]:=by
 rw [cM,aC9 os _ _ (Nat.le_refl _)]
 simp
structure aME (S:List UInt8) (k:Nat) (h:Hd) (i:Nat) (ls:List (Int×Int)) (os:List Int) (gs:List (Int×Int)) (r:List UInt8):Prop where
 ok:h.Ok
 txt:S=ahead h i ls os gs++r
 i4:i≤h.n
 l4:ls.length≤h.l
 o4:os.length≤h.o
 g4:gs.length≤h.g
 oi:i<h.n→ls=[]∧os=[]∧gs=[]
 ol:ls.length<h.l→os=[]∧gs=[]
 oo:os.length<h.o→gs=[]
 okl:∀j,j<ls.length→cJ ((h.n:Int)+h.l+h.g) (ls.getD j (0,0))=true
 oko:∀j,j<os.length→inB (os.getD j 0) (2*((h.n:Int)+h.l+h.g)+1)=true
 okg:∀j,j<gs.length→dG ((h.n:Int)+h.l+j) (gs.getD j (0,0))=true
theorem rM {α:Type}(l:List α) (x d:α) (j:Nat) (hj:j<(l++[x]).length):(l++[x]).getD j d=if j<l.length then l.getD j d else x:=by
 by_cases h:j<l.length
 ·rw [if_pos h];simp [List.getElem?_append_left h]
 ·rw [if_neg h]
  have:j=l.length:=by simp at hj;omega
  subst this
  simp
theorem aLX {r rest:List UInt8}{ns:List Nat}(h:dC [] 3 r=some (ns,rest)):∃a b c,ns=[a,b,c]∧r=dV [a,b,c]++ rest:=by
 obtain ⟨h1,_,h3⟩:=oI h
 match ns,h1 with
 | [a,b,c],_=>exact ⟨a,b,c,rfl,by unfold eF at h3;simpa using h3⟩
theorem aLW {r rest:List UInt8}{ns:List Nat}(h:dC [] 1 r=some (ns,rest)):∃a,ns=[a]∧r=dV [a]++ rest:=by
 obtain ⟨h1,_,h3⟩:=oI h
 match ns,h1 with
 | [a],_=>exact ⟨a,rfl,by unfold eF at h3;simpa using h3⟩
theorem aMM {r rest:List UInt8}{ns:List Nat}(h:dC aag 5 r=some (ns,rest)):∃a b c d e,ns=[a,b,c,d,e]∧r=aag++dV [a,b,c,d,e]++ rest:=by
 obtain ⟨h1,_,h3⟩:=oI h
 match ns,h1 with
 | [a,b,c,d,e],_=>exact ⟨a,b,c,d,e,rfl,h3⟩
theorem aH3 {S:List UInt8}{k:Nat}{st:St}:runN S k=some st→(st=st0 S)∨∃h,st.h=some h∧aME S k h st.i st.ls st.os st.gs st.rest:=by
 induction k generalizing st with
 | zero=>intro e;injection e with e;exact .inl e.symm
 | succ k ih =>
  intro e;rw [runN] at e
  cases hk:runN S k with
  | none=>rw [hk] at e;cases e
  | some st1 =>
   rw [hk] at e;have e:jJ st1=some st:=e
   right
   rcases ih hk with rfl | ⟨h,hh,T⟩
   ·have e:nO S=some st:=e
    unfold nO at e
    cases hl:dC aag 5 S with
    | none=>rw [hl] at e;cases e
    | some p =>
     obtain ⟨ns,rest⟩:=p;obtain ⟨m,n,l,o,g,rfl,hS⟩:=aMM hl;rw [hl] at e;simp only [Option.bind_some] at e
     split at e
     ·rename_i hc
      injection e with e
      subst e;simp only [List.getD_cons_zero,List.getD_cons_succ] at hc;refine ⟨⟨n,l,o,g⟩,by simp,⟨⟨hc.1,hc.2.1,hc.2.2.1,hc.2.2.2.1⟩,?_,by simp,by simp,by simp,by simp,by simp,by simp,by simp,by simp,by simp,by simp⟩⟩;rw [hS]
      simp [ahead,mD,gH,aT,cM,bK,aag,hc.2.2.2.2]
     ·cases e
   ·obtain ⟨h0,i,ls,os,gs,r⟩:=st1
    simp only at hh T;subst hh
    by_cases c1:i<h.n
    ·obtain ⟨rfl,rfl,rfl⟩:=T.oi c1
     have e:(if i<h.n then vG ⟨some h,i,[],[],[],r⟩ else _)=some st:=e;rw [if_pos c1] at e;unfold vG at e
     cases hl:dC [] 1 r with
     | none=>rw [hl] at e;cases e
     | some p =>
      obtain ⟨ns,rest⟩:=p;obtain ⟨a,rfl,hr⟩:=aLW hl;rw [hl] at e;simp only [Option.bind_some] at e
      split at e
      ·rename_i hc
       injection e with e
       subst e;simp only [List.getD_cons_zero] at hc;refine ⟨h,rfl,⟨T.ok,?_,c1,by simp,by simp,by simp,by simp,by simp,by simp,by simp,by simp,by simp⟩⟩;rw [T.txt,hr,hc]
       simp [ahead,gH,aT,cM,bK]
      ·cases e
    ·by_cases c2:ls.length<h.l
     ·obtain ⟨rfl,rfl⟩:=T.ol c2
      have e:(if i<h.n then _ else if ls.length<h.l then iS h ⟨some h,i,ls,[],[],r⟩ else _)=some st:=e;rw [if_neg c1,if_pos c2] at e;unfold iS at e
      cases hl:dC [] 3 r with
      | none=>rw [hl] at e;cases e
      | some p =>
       obtain ⟨ns,rest⟩:=p;obtain ⟨a,b,c,rfl,hr⟩:=aLX hl;rw [hl] at e;simp only [Option.bind_some] at e
       split at e
       ·rename_i hc
        injection e with e
        subst e;simp only [List.getD_cons_zero,List.getD_cons_succ] at hc ⊢;refine ⟨h,rfl,⟨T.ok,?_,T.i4,by simp;omega,by simp,by simp,fun x=>absurd x c1,fun _=>⟨rfl,rfl⟩,by simp,fun j hj=>?_,by simp,by simp⟩⟩
        ·rw [T.txt,hr,hc.1]
         simp [ahead,xM,cM,bK]
        ·rw [rM _ _ _ _ hj]
         split
         ·exact T.okl j (by assumption)
         ·simp only [cJ,Bool.and_eq_true]
          exact ⟨iE (by omega) (by omega),iE (by omega) (by omega)⟩
       ·cases e
     ·by_cases c3:os.length<h.o
      ·obtain rfl:=T.oo c3
       have e:(if i<h.n then _ else if ls.length<h.l then _ else if os.length<h.o then oW h ⟨some h,i,ls,os,[],r⟩ else _)=some st:=e;rw [if_neg c1,if_neg c2,if_pos c3] at e;unfold oW at e
       cases hl:dC [] 1 r with
       | none=>rw [hl] at e;cases e
       | some p =>
        obtain ⟨ns,rest⟩:=p;obtain ⟨a,rfl,hr⟩:=aLW hl;rw [hl] at e;simp only [Option.bind_some] at e
        split at e
        ·rename_i hc
         injection e with e
         subst e;simp only [List.getD_cons_zero] at hc ⊢;refine ⟨h,rfl,⟨T.ok,?_,T.i4,T.l4,by simp;omega,by simp,fun x=>absurd x c1,fun x=>absurd x c2,fun _=>rfl,T.okl,fun j hj=>?_,by simp⟩⟩
         ·rw [T.txt,hr]
          simp [ahead,aCA,bK]
         ·rw [rM _ _ _ _ hj]
          split
          ·exact T.oko j (by assumption)
          ·exact iE (by omega) (by omega)
        ·cases e
      ·by_cases c4:gs.length<h.g
       ·have e:(if i<h.n then _ else if ls.length<h.l then _ else if os.length<h.o then _ else if gs.length<h.g then kY h ⟨some h,i,ls,os,gs,r⟩ else _)=some st:=e
        rw [if_neg c1,if_neg c2,if_neg c3,if_pos c4] at e;unfold kY at e
        cases hl:dC [] 3 r with
        | none=>rw [hl] at e;cases e
        | some p =>
         obtain ⟨ns,rest⟩:=p;obtain ⟨a,b,c,rfl,hr⟩:=aLX hl;rw [hl] at e;simp only [Option.bind_some] at e
         split at e
         ·rename_i hc
          injection e with e
          subst e;simp only [List.getD_cons_zero,List.getD_cons_succ] at hc ⊢;refine ⟨h,rfl,⟨T.ok,?_,T.i4,T.l4,T.o4,by simp;omega,fun x=>absurd x c1,fun x=>absurd x c2,fun x=>absurd x c3,T.okl,T.oko,fun j hj=>?_⟩⟩
          ·rw [T.txt,hr,hc.1]
           simp [ahead,aAL]
          ·rw [rM _ _ _ _ hj]
           split
           ·exact T.okg j (by assumption)
           ·have hj':j=gs.length:=by simp at hj;omega
            subst hj';simp only [dG,Bool.and_eq_true]
            exact ⟨iE (by omega) (by omega),iE (by omega) (by omega)⟩
         ·cases e
       ·have e:(if i<h.n then _ else if ls.length<h.l then _ else if os.length<h.o then _ else if gs.length<h.g then _ else none)=some st:=e
        rw [if_neg c1,if_neg c2,if_neg c3,if_neg c4] at e
        cases e
theorem aKG {S:List UInt8}{n:Nat}{ls gs:List (Int×Int)}{os:List Int}{line:Nat}(h:Ans S (some ⟨n,ls,gs,os⟩) line):S=txt n ls gs os∧aG n ls gs os=true∧line=0:=by
 rcases h with ⟨_,h,_⟩ | ⟨_,k,st,hk,hs,⟨hd,hc,hl⟩ | ⟨_,hc,_⟩⟩
 ·cases h
 ·obtain ⟨h,e1,e2,e3,e4,e5,e6⟩:=hd
  injection hc with hc
  obtain ⟨h0,i,ls',os',gs',r⟩:=st;simp only [Circ.mk.injEq] at hc;simp only at e1 e2 e3 e4 e5 e6;obtain ⟨rfl,rfl,rfl,rfl⟩:=hc;subst e1 e6
  rcases aH3 hk with e | ⟨h',e,T⟩
  ·simp [st0] at e
  ·simp only [Option.some.injEq] at e
   subst e;simp only at T;obtain ⟨k1,k2,k3,k4⟩:=T.ok;refine ⟨?_,?_,hl⟩
   ·rw [T.txt]
    simp [ahead,txt,e2,e3,e4,e5]
   ·simp only [aG,eJ,gD,mT,wT,Bool.and_eq_true,decide_eq_true_eq]
    have hn:((n:Nat):Int)=h.n:=(by omega)
    have hl':((ls.length:Nat):Int)=h.l:=(by omega)
    have hg':((gs.length:Nat):Int)=h.g:=(by omega)
    rw [hn,hl',hg']
    exact ⟨⟨⟨⟨⟨⟨iE (by omega) (by omega),iE (by omega) (by omega)⟩,iE (by omega) (by omega)⟩,iE (by omega) (by omega)⟩,T.okl⟩,T.okg⟩,T.oko⟩
 ·cases hc
theorem aA5 (S:List UInt8) (w:World) (hS:1000<S.length) (hS2:S.length<9223372036854775808):Calls Tryz.prog 20 #[.string ⟨S.toArray⟩] w (vM w S):=by
 have hc:((⟨S.toArray⟩:ByteArray).size:Int)=S.length:=by rw [rA]
 have hbox:(w.alloc (.cells #[.int .i64 0,.slice none 0 0,.slice none 0 0,.slice none 0 0] 34)).heap[w.heap.size]?=some (.cells #[.int .i64 0,.slice none 0 0,.slice none 0 0,.slice none 0 0] 34 (0,0)):=heap_alloc_new _ _;have hbel:Below w.heap.size w (w.alloc (.cells #[.int .i64 0,.slice none 0 0,.slice none 0 0,.slice none 0 0] 34)):=(Below.refl _ _).alloc (Nat.le_refl _) _;have hS':(1000:Int)<(S.length:Int):=by omega
 have q0:=cell_of_row _ _ 0 _ _ _ hbox;have q1:=cell_of_row _ _ 1 _ _ _ hbox;have q2:=cell_of_row _ _ 2 _ _ _ hbox;have q3:=cell_of_row _ _ 3 _ _ _ hbox;obtain ⟨W0,hW0⟩:∃W0,W0=w.alloc (.cells #[.int .i64 0,.slice none 0 0,.slice none 0 0,.slice none 0 0] 34):=⟨_,rfl⟩
 rw [←hW0] at hbox hbel q0 q1 q2 q3;have qf0:W0.frozen? ⟨w.heap.size,0,none⟩=false:=frozen_of_row _ _ _ _ _ hbox;have qf1:W0.frozen? ⟨w.heap.size,1,none⟩=false:=frozen_of_row _ _ _ _ _ hbox;have qf2:W0.frozen? ⟨w.heap.size,2,none⟩=false:=frozen_of_row _ _ _ _ _ hbox;have qf3:W0.frozen? ⟨w.heap.size,3,none⟩=false:=frozen_of_row _ _ _ _ _ hbox
 go_enter Tryz.func20,Tryz.ntmps20
 go_upto_region 1 with fail
 rw [←hW0];clear hW0;go_wp2;refine bD (b:=w.heap.size) (x:=.int .i64 0) (y:=.int .i64 1) (aS hbox _ _ _ _) rfl rfl rfl ?_
 exact ⟨aH hbel (Nat.le_refl _) _ _ _ _,.inl ⟨0,.inl ⟨hS,rfl,rfl⟩,rfl⟩⟩
def RdIs (S:List UInt8) (z:Int) (L G:List (Int×Int)) (O:List Int) (l r:Int):Prop :=
 (z=0∧L=[]∧G=[]∧O=[]∧r=1∧∃line:Nat,l=line∧Ans S none line)∨(l=0∧r=0∧∃n:Nat,z=n∧Ans S (some ⟨n,L,G,O⟩) 0)
theorem aJ3 (S:List UInt8) (z:Int) (L G:List (Int×Int)) (O:List Int) (l r z':Int) (L' G':List (Int×Int)) (O':List Int) (l' r':Int) (h:RdIs S z L G O l r) (h':RdIs S z' L' G' O' l' r'):z=z'∧L=L'∧G=G'∧O=O'∧l=l'∧r=r':=by
 rcases h with ⟨rfl,rfl,rfl,rfl,rfl,a,rfl,ha⟩ | ⟨rfl,rfl,n,rfl,ha⟩
 ·rcases h' with ⟨rfl,rfl,rfl,rfl,rfl,b,rfl,hb⟩ | ⟨_,_,_,_,hb⟩
  ·obtain ⟨_,rfl⟩:=vP ha hb
   exact ⟨rfl,rfl,rfl,rfl,rfl,rfl⟩
  ·have:=(vP ha hb).1
   cases this
 ·rcases h' with ⟨_,_,_,_,_,_,_,hb⟩ | ⟨rfl,rfl,m,rfl,hb⟩
  ·have:=(vP ha hb).1
   cases this
  ·have:=(vP ha hb).1
   simp only [Option.some.injEq,Circ.mk.injEq] at this;obtain ⟨rfl,rfl,rfl,rfl⟩:=this
   exact ⟨rfl,rfl,rfl,rfl,rfl,rfl⟩
theorem aJ2 (S:List UInt8) (z:Int) (L G:List (Int×Int)) (O:List Int) (l r:Int) (h:RdIs S z L G O l r):L.length≤900∧G.length≤900∧O.length≤900:=by
 rcases h with ⟨_,rfl,rfl,rfl,_⟩ | ⟨_,_,n,_,ha⟩
 ·simp
 ·obtain ⟨_,hr,_⟩:=aKG ha
  simp only [aG,eJ,Bool.and_eq_true,decide_eq_true_eq,inB] at hr;obtain ⟨⟨⟨⟨⟨⟨h1,h2⟩,h3⟩,h4⟩,hl⟩,hg⟩,ho⟩:=hr
  omega
theorem wJ (S:List UInt8) (w:World) (hL:Lib0 w) (hS2:S.length<9223372036854775808) :
  Calls Tryz.prog 10 #[.string ⟨S.toArray⟩] w fun e w'=>∃z L G O l r,RdIs S z L G O l r∧lQ w z L G O (fun c=>.tuple #[c,.int .i64 l,.int .i64 r]) e w' :=
 (wI S w hL hS2).mono fun e w' ⟨b,h⟩=>by
  rcases h with ⟨line,ha,rfl⟩ | ⟨n,ls,gs,os,lv,gv,ov,ha,rfl,oL,oG,oO,d1,d2,d3⟩
  ·exact ⟨0,[],[],[],line,1,.inl ⟨rfl,rfl,rfl,rfl,rfl,line,rfl,ha⟩,none,none,none,0,0,0,rfl,World.ownsRow_nil _ _ _ _,World.ownsRow_nil _ _ _ _,World.ownsRow_nil _ _ _ _,(fun b e=>by cases e),(fun b e=>by cases e),(fun b e=>by cases e),b⟩
  ·obtain ⟨la,lc,rfl⟩:=dA oL
   obtain ⟨ga,gc,rfl⟩:=dA oG;obtain ⟨oa,oc,rfl⟩:=dA oO
   exact ⟨n,ls,gs,os,0,0,.inr ⟨rfl,rfl,n,rfl,ha⟩,la,ga,oa,lc,gc,oc,rfl,oL,oG,oO,d2,d3,fun b e e'=>d1 b e' e,b⟩
theorem aBW (S:List UInt8) (w:World) (hS2:S.length<9223372036854775808) :
  Calls Tryz.prog 20 #[.string ⟨S.toArray⟩] w fun e w'=>∃z L G O l r,RdIs S z L G O l r∧mH w z L G O (fun c=>.tuple #[c,.int .i64 l,.int .i64 r]) e w':=by
 have h:Calls Tryz.prog 20 #[.string ⟨S.toArray⟩] w (vM w S):=by
  by_cases hS:S.length≤1000
  ·exact wX S w hS
  ·exact aA5 S w (by omega) hS2
 refine h.mono fun e w' ⟨b,h⟩=>?_
 rcases h with ⟨line,ha,rfl⟩ | ⟨n,ls,gs,os,la,ga,oa,lc,gc,oc,ha,rfl,oL,oG,oO⟩
 ·exact ⟨0,[],[],[],line,1,.inl ⟨rfl,rfl,rfl,rfl,rfl,line,rfl,ha⟩,none,none,none,0,0,0,rfl,.inl rfl,.inl rfl,.inl rfl,b⟩
 ·exact ⟨n,ls,gs,os,0,0,.inr ⟨rfl,rfl,n,rfl,ha⟩,la,ga,oa,lc,gc,oc,rfl,eU oL,eU oG,nF oO,b⟩
theorem aBO (R:Nat→Nat) (P N:Nat) (v:Nat→Value) (es:Nat→List Entry) (sv:Value) (n m nn:Int) (la ga oa lb gb ob ia:Option Addr) (lc gc oc ld gd od ic:Nat) (ls gs:List (Int×Int)) (os:List Int) (lt gt:List (Int×Int)) (ot ins:List Int) (w:World)
  (hB:Book2 R w P v es N) (hN:N≤690000000000)
  (hml:ls.length*16≤140737488351232) (hmg:gs.length*16≤140737488351232) (hmo:os.length*8≤140737488351232) (hnl:lt.length*16≤140737488351232) (hng:gt.length*16≤140737488351232) (hno:ot.length*8≤140737488351232) (hmi:ins.length*8≤140737488351232)
  (hL:PairsAt w la ls) (hG:PairsAt w ga gs) (hO:IntsAt w oa os) (kL:PairsAt w lb lt) (kG:PairsAt w gb gt) (kO:IntsAt w ob ot) (hI:IntsAt w ia ins)
  (sL:∀b o,la=some ⟨b,o,none⟩→ls≠[]→¬R b<6) (sG:∀b o,ga=some ⟨b,o,none⟩→gs≠[]→¬R b<6) (sO:∀b o,oa=some ⟨b,o,none⟩→os≠[]→¬R b<6)
  (rL:∀b o,lb=some ⟨b,o,none⟩→lt≠[]→¬R b<6) (rG:∀b o,gb=some ⟨b,o,none⟩→gt≠[]→¬R b<6) (rO:∀b o,ob=some ⟨b,o,none⟩→ot≠[]→¬R b<6) (sI:∀b o,ia=some ⟨b,o,none⟩→ins≠[]→¬R b<6)
  (A:Int→List (Int×Int)→List (Int×Int)→List Int→Int→Int→Prop)
  (hU:∀z L G O l r z' L' G' O' l' r',A z L G O l r→A z' L' G' O' l' r'→z=z'∧L=L'∧G=G'∧O=O'∧l=l'∧r=r')
  (hLen:∀z L G O l r,A z L G O l r→L.length≤900∧G.length≤900∧O.length≤900)
  (HP:∀(W:World),Below w.heap.size w W→Calls Tryz.prog 10 #[sv] W fun e w'=>∃z L G O l r,A z L G O l r∧lQ W z L G O (fun c=>.tuple #[c,.int .i64 l,.int .i64 r]) e w')
  (HF:∀(W:World),Below w.heap.size w W→Calls Tryz.prog 20 #[sv] W fun e w'=>∃z L G O l r,A z L G O l r∧mH W z L G O (fun c=>.tuple #[c,.int .i64 l,.int .i64 r]) e w') :
  Calls Tryz.prog 13 #[.pointer (some ⟨P,0,none⟩),.agg #[.int .i64 1,sv,.int .i64 n,.slice la ls.length lc,.slice ga gs.length gc,.slice oa os.length oc,.int .i64 m,.slice lb lt.length ld,.slice gb gt.length gd,.slice ob ot.length od,.slice ia ins.length ic,.int .i64 nn]] w fun e w'=>e=.returned (.bool true)∧jH R w P N w':=by
 obtain ⟨W0,hW0⟩:∃W0,W0=w.alloc (.cells #[.int .i64 1,sv,.int .i64 n,.slice la ls.length lc,.slice ga gs.length gc,.slice oa os.length oc,.int .i64 m,.slice lb lt.length ld,.slice gb gt.length gd,.slice ob ot.length od,.slice ia ins.length ic,.int .i64 nn] 42):=⟨_,rfl⟩
 have b0:Below w.heap.size w W0:=by rw [hW0];exact (Below.refl _ _).alloc (Nat.le_refl _) _
 have s0:W0.heap.size=w.heap.size+1:=by rw [hW0];simp
 have C0:∀i,W0.cell? ⟨w.heap.size,i,none⟩=#[.int .i64 1,sv,.int .i64 n,.slice la ls.length lc,.slice ga gs.length gc,.slice oa os.length oc,.int .i64 m,.slice lb lt.length ld,.slice gb gt.length gd,.slice ob ot.length od,.slice ia ins.length ic,.int .i64 nn][i]?:=fun i=>by rw [hW0];exact cell_of_row _ _ _ _ _ _ (heap_alloc_new _ _)
 have hd:=cH n la ga oa lc gc oc ls gs os W0 hml hmg hmo (hL.below b0) (hG.below b0) (hO.below b0);rw [hW0] at hd;have HC0:=hidK C0;have HS0:=hidK s0;have HB:=hidK hB;have hP:=hB.lt;clear C0 s0 hB
 go_enter Tryz.func13,Tryz.ntmps13
 go_wp2_with fail
 refine hd.mono ?_;rw [←hW0];rintro e w1 ⟨xl,xg,xo,rfl,hxl,hx1,hx2,rxL,rxG,rxO,b1⟩;clear hd hW0;have C1:=aQ HC0.out (by rw [HS0.out];omega) b1;have z1:w.heap.size<w1.heap.size:=Nat.lt_of_lt_of_le (by rw [HS0.out];omega) b1.size;have B01:Below w.heap.size w w1:=b0.trans (b1.mono (by rw [HS0.out];omega));have a6:=C1 6;have a7:=C1 7;have a8:=C1 8;have a9:=C1 9;have HC1:=hidK C1;clear C1
 go_wp2_with fail
 refine (cH m lb gb ob ld gd od lt gt ot _ hnl hng hno ((kL.below B01).allocK _) ((kG.below B01).allocK _) ((kO.below B01).alloc_any _)).mono ?_;rintro e w2 ⟨yl,yg,yo,rfl,hyl,hy1,hy2,ryL,ryG,ryO,b2⟩;have B12:=aY b2;have HX2:Hid (∀i,w2.cell? ⟨w1.heap.size,i,none⟩=#[.int .i64 n,.slice (some ⟨xl,0,none⟩) ls.length (ls.length+8),.slice (some ⟨xg,0,none⟩) gs.length (gs.length+8),.slice (some ⟨xo,0,none⟩) os.length (os.length+8)][i]?):=bL b2;have HC2:Hid (∀i,w2.cell? ⟨w.heap.size,i,none⟩=#[.int .i64 1,sv,.int .i64 n,.slice la ls.length lc,.slice ga gs.length gc,.slice oa os.length oc,.int .i64 m,.slice lb lt.length ld,.slice gb gt.length gd,.slice ob ot.length od,.slice ia ins.length ic,.int .i64 nn][i]?):=aQ HC1.out z1 B12;have hyl':w1.heap.size+1≤yl:=by simpa using hyl
 have z2:w1.heap.size<w2.heap.size:=Nat.lt_of_lt_of_le (by simp) b2.size;have B02:Below w.heap.size w w2:=B01.trans (B12.mono (by omega));have y2:w.heap.size<w2.heap.size:=by omega
 have a10:=HC2.out 10;clear a6 a7 a8 a9 b2 hyl
 go_wp2_with fail
 refine (cL ia ic ins _ hmi ((hI.below B02).alloc_any _)).mono ?_;rintro e w3 ⟨zi,rfl,hzi,rzI,b3⟩;have B23:=aY b3;have HY3:Hid (∀i,w3.cell? ⟨w2.heap.size,i,none⟩=#[.int .i64 m,.slice (some ⟨yl,0,none⟩) lt.length (lt.length+8),.slice (some ⟨yg,0,none⟩) gt.length (gt.length+8),.slice (some ⟨yo,0,none⟩) ot.length (ot.length+8)][i]?):=bL b3;have HC3:Hid (∀i,w3.cell? ⟨w.heap.size,i,none⟩=#[.int .i64 1,sv,.int .i64 n,.slice la ls.length lc,.slice ga gs.length gc,.slice oa os.length oc,.int .i64 m,.slice lb lt.length ld,.slice gb gt.length gd,.slice ob ot.length od,.slice ia ins.length ic,.int .i64 nn][i]?):=aQ HC2.out (by omega) B23;have HX3:Hid (∀i,w3.cell? ⟨w1.heap.size,i,none⟩=#[.int .i64 n,.slice (some ⟨xl,0,none⟩) ls.length (ls.length+8),.slice (some ⟨xg,0,none⟩) gs.length (gs.length+8),.slice (some ⟨xo,0,none⟩) os.length (os.length+8)][i]?):=aQ HX2.out z2 B23;have hzi':w2.heap.size+1≤zi:=by simpa using hzi
 have z3:w2.heap.size<w3.heap.size:=Nat.lt_of_lt_of_le (by simp) b3.size;have B03:Below w.heap.size w w3:=B02.trans (B23.mono (by omega));have B13:Below w1.heap.size w1 w3:=B12.trans (B23.mono (by omega));have y3:w.heap.size<w3.heap.size:=by omega
 have yx3:w1.heap.size<w3.heap.size:=by omega
 have rxL3:=aD rxL B13;have rxG3:=aD rxG B13;have rxO3:=aD rxO B13;have ryL3:=aD ryL B23;have ryG3:=aD ryG B23;have ryO3:=aD ryO B23;have tops:xo<w1.heap.size∧yo<w2.heap.size∧zi<w3.heap.size:=⟨rxO.lt,ryO.lt,rzI.lt⟩
 have hxl':w.heap.size+1≤xl:=by rw [HS0.out] at hxl;exact hxl
 have HR:=hidK HB.out.hR;have HB3:=hidK (HB.out.below B03);clear a10 b3 hzi HX2 HC2 rxL rxG rxO ryL ryG ryO b0 b1;have c0:=HC3.out 0;have k1:=HC3.out 1
 go_wp2_with fail
 refine (HP w3 B03).mono ?_;rintro e w4 ⟨z,LL,GG,OO,ln,er,hA,ra,rg,ro,rlc,rgc,roc,rfl,ol4,og4,oo4,dlo,dgo,dgl,b4⟩;dsimp only;have HC4:Hid (∀i,w4.cell? ⟨w.heap.size,i,none⟩=#[.int .i64 1,sv,.int .i64 n,.slice la ls.length lc,.slice ga gs.length gc,.slice oa os.length oc,.int .i64 m,.slice lb lt.length ld,.slice gb gt.length gd,.slice ob ot.length od,.slice ia ins.length ic,.int .i64 nn][i]?):=aQ HC3.out (by omega) b4;have B04:Below w.heap.size w w4:=B03.trans (b4.mono (by omega));have s34:=b4.size;have lw4:w.heap.size<w4.heap.size:=by omega
 have ll4:∀b,(Value.slice ra LL.length rlc).ownBlock=some b→w3.heap.size≤b∧b<w4.heap.size:=fun b e=>ol4.lt b e
 have lg4:∀b,(Value.slice rg GG.length rgc).ownBlock=some b→w3.heap.size≤b∧b<w4.heap.size:=fun b e=>og4.lt b e
 have lo4:∀b,(Value.slice ro OO.length roc).ownBlock=some b→w3.heap.size≤b∧b<w4.heap.size:=fun b e=>oo4.lt b e
 have OL4:=hidK ol4;have OG4:=hidK og4;have OO4:=hidK oo4;have DLO:=hidK dlo;have DGO:=hidK dgo;have DGL:=hidK dgl;clear ol4 og4 oo4 dlo dgo dgl;obtain ⟨lL,lG,lO⟩:=hLen _ _ _ _ _ _ hA;have HA:=hidK hA;clear k1 hA c0;have k1:=HC4.out 1
 go_wp2_with fail
 refine (HF _ (B04.alloc B04.size _)).mono ?_;rintro e w5 ⟨z',L',G',O',l',r',hA',fa,fg,fo,flc,fgc,foc,rfl,pL5,pG5,pO5,b5⟩;dsimp only;obtain ⟨rfl,rfl,rfl,rfl,rfl,rfl⟩:=hU _ _ _ _ _ _ _ _ _ _ _ _ HA.out hA';have BA5:∀i,w5.cell? ⟨w4.heap.size,i,none⟩=#[.int .i64 z,.slice ra LL.length rlc,.slice rg GG.length rgc,.slice ro OO.length roc][i]?:=bL b5;have B45:=aY b5;have s45:w4.heap.size<w5.heap.size:=Nat.lt_of_lt_of_le (by simp) b5.size;have B35:Below w3.heap.size w3 w5:=b4.trans (B45.mono b4.size);have B05:Below w.heap.size w w5:=B03.trans (B35.mono (by omega));have OL5:=hidK (aN OL4.out B45);have OG5:=hidK (aN OG4.out B45);have OO5:=hidK (aN OO4.out B45);have HBA5:=hidK BA5;clear k1 hA' BA5 OL4 OG4 OO4
 go_wp2_with fail
 refine (dK R P N v es _ ((HB.out.below B05).below ((Below.refl _ _).alloc (Nat.le_refl _) _)) (by omega)).mono ?_;rintro e w6 ⟨rfl,b6⟩;have B56:=aY b6;have BB6:∀i,w6.cell? ⟨w5.heap.size,i,none⟩=#[.int .i64 z,.slice fa LL.length flc,.slice fg GG.length fgc,.slice fo OO.length foc][i]?:=bL b6;have BA6:∀i,w6.cell? ⟨w4.heap.size,i,none⟩=#[.int .i64 z,.slice ra LL.length rlc,.slice rg GG.length rgc,.slice ro OO.length roc][i]?:=aQ HBA5.out s45 B56;have s56:w5.heap.size<w6.heap.size:=Nat.lt_of_lt_of_le (by simp) b6.size;have a0:=BA6 0;have a1:=BA6 1;have a2:=BA6 2;have a3:=BA6 3;have d0:=BB6 0;have d1:=BB6 1;have d2:=BB6 2;have d3:=BB6 3;have HBA6:=hidK BA6;clear BA6 BB6
 go_wp2_with fail
 refine (sM z ra fa rg fg ro fo rlc flc rgc fgc roc foc LL GG OO _ lL lG lO (eU (aN OL5.out B56)) (pL5.below B56) (eU (aN OG5.out B56)) (pG5.below B56) (nF (aN OO5.out B56)) (pO5.below B56)).mono ?_;rintro e w6b ⟨rfl,b6b⟩;have B5b:Below w5.heap.size w5 w6b:=B56.trans (b6b.mono (by omega));have B36:Below w3.heap.size w3 w6b:=B35.trans (B5b.mono (by omega));have B06:Below w.heap.size w w6b:=B03.trans (B36.mono (by omega));have HBA7:=hidK (aQ HBA6.out (by omega) b6b);have s6b:=b6b.size;have OWL:=aN OL5.out B5b;have OWG:=aN OG5.out B5b;have OWO:=aN OO5.out B5b;clear a0 a1 a2 a3 d0 d1 d2 d3;have a0:=HBA7.out 0;have a1:=HBA7.out 1;have a2:=HBA7.out 2;have a3:=HBA7.out 3
 go_wp2_with fail
 refine (jP R P N v es z ra rg ro LL.length rlc GG.length rgc OO.length roc _ _ _ _ _ _ _ (HB.out.below B06) (by omega) lL lG lO OWL OWG OWO (fun b e=>by have:=(ll4 b e).1;have:=HR.out b;omega) (fun b e=>by have:=(lg4 b e).1;have:=HR.out b;omega) (fun b e=>by have:=(lo4 b e).1;have:=HR.out b;omega) DLO.out DGO.out DGL.out).mono ?_;rintro e w7 ⟨rfl,R7,v7,es7,hB7,K7,n7⟩;have K37:Keeps (fun k=>R k<6) w3 w7:=iI B36 K7 (fun k h=>by
  rcases h with h | h | h
  ·exact (lo4 k h).1
  ·exact (ll4 k h).1
  ·exact (lg4 k h).1)
 have n7:∀k,R7 k<6→R k<6∨w3.heap.size≤k:=fun k hk=>by
  rcases n7 k hk with h | (h | h | h) | h
  ·exact .inl h
  ·exact .inr (lo4 k h).1
  ·exact .inr (ll4 k h).1
  ·exact .inr (lg4 k h).1
  ·exact .inr (by omega)
 clear a0 a1 a2 a3;have nT:∀k,w.heap.size≤k→¬R k<6:=fun k h1 h2=>by have:=HR.out k h2;omega
 have HC7:Hid (∀i,w7.cell? ⟨w.heap.size,i,none⟩=#[.int .i64 1,sv,.int .i64 n,.slice la ls.length lc,.slice ga gs.length gc,.slice oa os.length oc,.int .i64 m,.slice lb lt.length ld,.slice gb gt.length gd,.slice ob ot.length od,.slice ia ins.length ic,.int .i64 nn][i]?):=aJ HC3.out y3 K37 (nT _ (Nat.le_refl _));have HX7:Hid (∀i,w7.cell? ⟨w1.heap.size,i,none⟩=#[.int .i64 n,.slice (some ⟨xl,0,none⟩) ls.length (ls.length+8),.slice (some ⟨xg,0,none⟩) gs.length (gs.length+8),.slice (some ⟨xo,0,none⟩) os.length (os.length+8)][i]?):=aJ HX3.out yx3 K37 (nT _ (by omega));have HY7:Hid (∀i,w7.cell? ⟨w2.heap.size,i,none⟩=#[.int .i64 m,.slice (some ⟨yl,0,none⟩) lt.length (lt.length+8),.slice (some ⟨yg,0,none⟩) gt.length (gt.length+8),.slice (some ⟨yo,0,none⟩) ot.length (ot.length+8)][i]?):=aJ HY3.out z3 K37 (nT _ (by omega));have rxL7:=aC rxL3 K37 (nT _ (by omega));have rxG7:=aC rxG3 K37 (nT _ (by omega));have rxO7:=aC rxO3 K37 (nT _ (by omega));have ryL7:=aC ryL3 K37 (nT _ (by omega));have ryG7:=aC ryG3 K37 (nT _ (by omega));have ryO7:=aC ryO3 K37 (nT _ (by omega));have rzI7:=aC rzI K37 (nT _ (by omega));have s37:w3.heap.size≤w7.heap.size:=K37.size;have hL7:PairsIn xl w7 la ls:=(((hL.into).below B03).keeps K37 sL).mono (by omega);have hG7:PairsIn xl w7 ga gs:=(((hG.into).below B03).keeps K37 sG).mono (by omega);have hO7:IntsIn xl w7 oa os:=(((hO.into).below B03).keeps K37 sO).mono (by omega);have kL7:PairsIn xl w7 lb lt:=(((kL.into).below B03).keeps K37 rL).mono (by omega);have kG7:PairsIn xl w7 gb gt:=(((kG.into).below B03).keeps K37 rG).mono (by omega);have kO7:IntsIn xl w7 ob ot:=(((kO.into).below B03).keeps K37 rO).mono (by omega);have hI7:IntsIn xl w7 ia ins:=(((hI.into).below B03).keeps K37 sI).mono (by omega);have K07:Keeps (fun k=>R k<6) w w7:=(Keeps.of_below B03).trans K37;have sev:∀lo hi,w.heap.size<lo→hi≤w3.heap.size→∀k,R7 k<6→¬(lo≤k∧k<hi):=fun lo hi h1 h2 k hk h=>by
  rcases n7 k hk with hk | hk
  ·have:=HR.out k hk;omega
  ·omega
 have x0:=HX7.out 0;have x1:=HX7.out 1;have x2:=HX7.out 2;have x3:=HX7.out 3;have c2:=HC7.out 2;have c3:=HC7.out 3;have c4:=HC7.out 4;have c5:=HC7.out 5;clear rxL3 rxG3 rxO3 ryL3 ryG3 ryO3 rzI HC3 HX3 HY3
 go_wp2_with (go_at_call 14;refine (lZ _ _).mono ?_;rintro e w' ⟨rfl,hw⟩;have hw:=hw.symm;subst hw)
 refine (aX n la ga oa lc gc oc xl xg xo ls gs os _ hml hmg hmo hL7 hG7 hO7 hx1 hx2 rxL7 rxG7 rxO7).mono ?_;rintro e w8 ⟨rfl,sp8⟩;have K8:=Keeps.of_span sp8;have HC8:Hid (∀i,w8.cell? ⟨w.heap.size,i,none⟩=#[.int .i64 1,sv,.int .i64 n,.slice la ls.length lc,.slice ga gs.length gc,.slice oa os.length oc,.int .i64 m,.slice lb lt.length ld,.slice gb gt.length gd,.slice ob ot.length od,.slice ia ins.length ic,.int .i64 nn][i]?):=aJ HC7.out (by omega) K8 (by omega);have HY8:Hid (∀i,w8.cell? ⟨w2.heap.size,i,none⟩=#[.int .i64 m,.slice (some ⟨yl,0,none⟩) lt.length (lt.length+8),.slice (some ⟨yg,0,none⟩) gt.length (gt.length+8),.slice (some ⟨yo,0,none⟩) ot.length (ot.length+8)][i]?):=aJ HY7.out (by omega) K8 (by omega);have ryL8:=aC ryL7 K8 (by omega);have ryG8:=aC ryG7 K8 (by omega);have ryO8:=aC ryO7 K8 (by omega);have rzI8:=aC rzI7 K8 (by omega);have kL8:=(kL7.span sp8 (Nat.le_refl _)).mono (show xl≤yl by omega);have kG8:=(kG7.span sp8 (Nat.le_refl _)).mono (show xl≤yl by omega);have kO8:=(kO7.span sp8 (Nat.le_refl _)).mono (show xl≤yl by omega);have hI8:=hI7.span sp8 (Nat.le_refl _);have s78:w7.heap.size≤w8.heap.size:=K8.size;have hB8:=hB7.span K8 (sev _ _ (by omega) (by omega));have y0:=HY8.out 0;have y1:=HY8.out 1;have y2':=HY8.out 2;have y3':=HY8.out 3;have c6:=HC8.out 6;have c7:=HC8.out 7;have c8:=HC8.out 8;have c9:=HC8.out 9;clear x0 x1 x2 x3 c2 c3 c4 c5 hL7 hG7 hO7 kL7 kG7 kO7 rxL7 rxG7 rxO7 hB7 hI7 ryL7 ryG7 ryO7 rzI7
 go_wp2_with fail
 refine (aX m lb gb ob ld gd od yl yg yo lt gt ot _ hnl hng hno kL8 kG8 kO8 hy1 hy2 ryL8 ryG8 ryO8).mono ?_;rintro e w9 ⟨rfl,sp9⟩;have K9:=Keeps.of_span sp9;have HC9:Hid (∀i,w9.cell? ⟨w.heap.size,i,none⟩=#[.int .i64 1,sv,.int .i64 n,.slice la ls.length lc,.slice ga gs.length gc,.slice oa os.length oc,.int .i64 m,.slice lb lt.length ld,.slice gb gt.length gd,.slice ob ot.length od,.slice ia ins.length ic,.int .i64 nn][i]?):=aJ HC8.out (by omega) K9 (by omega);have rzI9:=aC rzI8 K9 (by omega);have hI9:=hI8.span sp9 (by omega);have s89:w8.heap.size≤w9.heap.size:=K9.size;have hB9:=hB8.span K9 (sev _ _ (by omega) (by omega));have c10:=HC9.out 10;clear y0 y1 y2' y3' c6 c7 c8 c9 hB8 hI8 ryL8 ryG8 ryO8 rzI8 kL8 kG8 kO8
 go_wp2_with fail
 refine (bM ia ic zi ins _ hmi (hI9.mono (by omega)) rzI9).mono ?_;rintro e w10 ⟨rfl,sp10⟩;have K10:=Keeps.of_span sp10;have hB10:=hB9.span K10 (sev _ _ (by omega) (by omega));clear c10 hB9 hI9 rzI9
 go_wp2_with fail
 refine (dK _ P _ _ _ _ hB10 (by omega)).mono ?_;rintro e w11 ⟨rfl,b11⟩;go_wp2
 go_ret
 refine ⟨rfl,R7,v7,es7,hB10.below b11,?_,fun k hk=>?_⟩
 ·exact (aV (aV (aV K07 K8 (by omega)) K9 (by omega)) K10 (by omega)).trans (Keeps.of_below b11)
 ·rcases n7 k hk with h | h
  ·exact .inl h
  ·exact .inr (by omega)
end Go.Proofs.YtgpaajdfkekjiaaGreatDoor
