/-
  A part of the proof of the statement All: texts of ours, made small by program (blanks, names).
-/
import Derived.Lib.ItoaNum
import Derived.Lib.Split
import Derived.Lib.SplitLaws
import Derived.Lib.AtoiAllCases
import Derived.Lib.Strings
namespace Go.Proofs.YtgpaajdfkekjiaaGreatDoor
set_option maxHeartbeats 8000000
set_option maxRecDepth 100000
open Go
def dX (ns:List Nat):Nat→List UInt8
 | 0=>[]
 | k+1=>dX ns k++(if 0<k then [32] else [])++ Lib.decDigits (ns.getD k 0)
def dV (ns:List Nat):List UInt8:=dX ns ns.length++[10]
theorem rC (n:Nat) (h:n<100):(Lib.decDigits n).length≤2:=by
 rw [Lib.decDigits]
 split
 ·simp
 ·rw [Lib.decDigits,dif_pos (by omega)]
  simp
theorem oK (ns:List Nat) (k:Nat) (h:∀i,i<k→ns.getD i 0<100):(dX ns k).length≤3*k:=by
 induction k with
 | zero=>simp [dX]
 | succ k ih =>
  have h1:=ih (fun i hi=>h i (by omega));have h2:=rC (ns.getD k 0) (h k (by omega));have h3:(if 0<k then [(32:UInt8)] else []).length≤1:=by split<;>simp
  simp only [dX,List.length_append]
  omega
theorem jS (ns:List Nat):dX ns 1=Lib.decDigits (ns.getD 0 0):=by simp [dX]
theorem mA (ns:List Nat) (k:Nat) (h:0<k):dX ns (k+1)=dX ns k++[32]++ Lib.decDigits (ns.getD k 0):=by simp [dX,h]
def pre:List Nat→List UInt8
 | []=>[]
 | n :: ns=>Lib.decDigits n++32 :: pre ns
theorem aEJ (as bs:List Nat):pre (as++bs)=pre as++pre bs:=by
 induction as with
 | nil=>rfl
 | cons a as ih=>simp [pre,ih]
theorem aD4 (as:List Nat) (b:Nat):pre (as++[b])=pre as++Lib.decDigits b++[32]:=by simp [aEJ,pre]
theorem aEC (ns:List Nat) (k:Nat) (hk:k<ns.length):dX ns (k+1)=pre (ns.take k)++ Lib.decDigits (ns.getD k 0):=by
 induction k with
 | zero=>simp [jS,pre]
 | succ k ih =>
  rw [mA ns (k+1) (by omega),ih (by omega)];have e:ns.take (k+1)=ns.take k++[ns.getD k 0]:=by
   rw [List.take_add_one]
   simp [show k<ns.length by omega]
  rw [e,aD4]
theorem gI (ms:List Nat) (m:Nat):dV (ms++[m])=pre ms++Lib.decDigits m++[10]:=by
 have h:=aEC (ms++[m]) ms.length (by simp);unfold dV;rw [show (ms++[m]).length=ms.length+1 by simp,h]
 simp
theorem mQ (n:Nat):∀c∈Lib.decDigits n,48≤c.toNat∧c.toNat≤57:=by
 induction n using Nat.strongRecOn with
 | _ n ih =>
  intro c hc;have one:∀d,d<10→(UInt8.ofNat (48+d)).toNat=48+d:=fun d hd=>by
   rw [UInt8.toNat_ofNat'];omega
  rw [Lib.decDigits] at hc
  split at hc
  ·rename_i h
   simp only [List.mem_singleton] at hc;subst hc;rw [one n h];omega
  ·rename_i h
   simp only [List.mem_append,List.mem_singleton] at hc
   rcases hc with hc | rfl
   ·exact ih _ (by omega) c hc
   ·rw [one _ (by omega)];omega
theorem aLR (n:Nat):Lib.decDigits n≠[]:=by
 rw [Lib.decDigits]
 split<;>simp
theorem vT (n:Nat):(32:UInt8) ∉ Lib.decDigits n:=fun h=>by
 have:=mQ n _ h
 simp at this
theorem qD (n:Nat):(10:UInt8) ∉ Lib.decDigits n:=fun h=>by
 have:=mQ n _ h
 simp at this
def valD (l:List UInt8):Nat:=l.foldl (fun a c=>10*a+(c.toNat - 48)) 0
theorem nZ (l:List UInt8) (c:UInt8):valD (l++[c])=10*valD l+(c.toNat - 48):=by simp [valD,List.foldl_append]
theorem aDG (n:Nat):valD (Lib.decDigits n)=n:=by
 induction n using Nat.strongRecOn with
 | _ n ih =>
  have one:∀d,d<10→(UInt8.ofNat (48+d)).toNat=48+d:=fun d hd=>by
   rw [UInt8.toNat_ofNat'];omega
  rw [Lib.decDigits]
  split
  ·rename_i h
   simp [valD,Nat.mod_eq_of_lt (show 48+n<256 by omega)]
  ·rw [nZ,ih _ (by omega),one _ (by omega)]
   omega
theorem aKK {a b:Nat}(h:Lib.decDigits a=Lib.decDigits b):a=b:=by
 have:=congrArg valD h
 rwa [aDG,aDG] at this
theorem aJS:∀(l:List UInt8) (c:UInt8),49≤c.toNat→1≤valD (c :: l):=by
 intro l;have h:∀(l:List UInt8) (a:Nat),1≤a→1≤l.foldl (fun a c=>10*a+(c.toNat - 48)) a:=by
  intro l
  induction l with
  | nil=>intro a h;exact h
  | cons x l ih=>intro a h;exact ih _ (by show 1≤10*a+(x.toNat - 48);omega)
 intro c hc
 exact h l _ (by show 1≤10*0+(c.toNat - 48);omega)
theorem aCP:∀(k:Nat) (l:List UInt8),l.length=k→l≠[]→(∀c∈l,48≤c.toNat∧c.toNat≤57)→(1<l.length→l.head?≠some 48)→Lib.decDigits (valD l)=l:=by
 intro k
 induction k with
 | zero=>intro l h h0;exact absurd (List.length_eq_zero_iff.1 h) h0
 | succ k ih =>
  intro l hl h0 hd hz;obtain ⟨l',c,rfl⟩:∃l' c,l=l'++[c]:=⟨_,_,(List.dropLast_concat_getLast h0).symm⟩
  have hc:=hd c (by simp);have back:UInt8.ofNat (48+(c.toNat - 48))=c:=by
   rw [show 48+(c.toNat - 48)=c.toNat by omega];simp
  rw [nZ]
  by_cases h':l'=[]
  ·subst h'
   rw [Lib.decDigits,dif_pos (by simp [valD];omega)];simp only [valD,List.foldl_nil,List.nil_append,Nat.mul_zero,Nat.zero_add,back]
  ·have hz':l'.head?≠some 48:=by
    have:=hz (by have:=List.length_pos_iff.2 h';simp;omega)
    cases l' with
    | nil=>exact absurd rfl h'
    | cons x l'=>simpa using this
   have hpos:1≤valD l':=by
    cases l' with
    | nil=>exact absurd rfl h'
    | cons x l'' =>
     refine aJS l'' x ?_;have hx:=(hd x (by simp)).1;have:x≠48:=by simpa using hz'
     have:x.toNat≠48:=fun e=>this (UInt8.toNat_inj.1 e)
     omega
   rw [Lib.decDigits,dif_neg (by omega),show (10*valD l'+(c.toNat - 48)) / 10=valD l' by omega,show (10*valD l'+(c.toNat - 48)) % 10=c.toNat - 48 by omega,back,ih l' (by simpa using hl) h' (fun c hc=>hd c (by simp [hc])) (fun _=>hz')]
def dP:List UInt8→List (List UInt8)
 | []=>[[]]
 | c :: l=>if c=32 then [] :: dP l else match dP l with
  | []=>[[c]]
  | w :: ws=>(c :: w) :: ws
theorem aJX (l:List UInt8):dP l≠[]:=by
 cases l with
 | nil=>simp [dP]
 | cons c l =>
  unfold dP
  split
  ·simp
  ·split<;>simp
theorem oB (a:List UInt8) (h:(32:UInt8) ∉ a):dP a=[a]:=by
 induction a with
 | nil=>rfl
 | cons c a ih =>
  simp only [List.mem_cons,not_or] at h;unfold dP;rw [if_neg (Ne.symm h.1),ih h.2]
theorem iU (a b:List UInt8) (h:(32:UInt8) ∉ a):dP (a++32 :: b)=a :: dP b:=by
 induction a with
 | nil=>simp [dP]
 | cons c a ih =>
  simp only [List.mem_cons,not_or] at h;rw [List.cons_append,dP,if_neg (Ne.symm h.1),ih h.2]
theorem lI (ms:List Nat) (m:Nat):dP (pre ms++Lib.decDigits m)=(ms++[m]).map Lib.decDigits:=by
 induction ms with
 | nil=>simp [pre,oB _ (vT m)]
 | cons a ms ih =>
  rw [pre,List.append_assoc,List.cons_append,iU _ _ (vT a),ih]
  simp
theorem gP {c:UInt8}{a a' b b':List UInt8}(ha:c ∉ a) (ha':c ∉ a') (h:a++c :: b=a'++c :: b'):a=a'∧b=b':=by
 induction a generalizing a' with
 | nil =>
  cases a' with
  | nil=>simpa using h
  | cons x a'=>simp only [List.nil_append,List.cons_append,List.cons.injEq] at h;simp [h.1] at ha'
 | cons x a ih =>
  cases a' with
  | nil=>simp only [List.nil_append,List.cons_append,List.cons.injEq] at h;simp [h.1] at ha
  | cons y a' =>
   simp only [List.cons_append,List.cons.injEq] at h;simp only [List.mem_cons,not_or] at ha ha';have:=ih ha.2 ha'.2 h.2
   exact ⟨by rw [h.1,this.1],this.2⟩
theorem yX (c:UInt8) (a b:List UInt8) (h:c ∉ a):Lib.index (a++c :: b) [c]=(a.length:Int):=by
 induction a with
 | nil=>simp [Lib.index]
 | cons x a ih =>
  simp only [List.mem_cons,not_or] at h;have e:([c].isPrefixOf (x :: (a++c :: b)))=false:=by simp [List.isPrefixOf,h.1]
  rw [List.cons_append,Lib.index,e,ih h.2,if_neg (by simp),if_neg (by rw [beq_iff_eq];omega)]
  simp
theorem aDV (c:UInt8) (a:List UInt8) (h:c ∉ a):Lib.index a [c]=-1:=by
 induction a with
 | nil=>simp [Lib.index]
 | cons x a ih =>
  simp only [List.mem_cons,not_or] at h;have e:([c].isPrefixOf (x :: a))=false:=by simp [List.isPrefixOf,h.1]
  rw [Lib.index,e,ih h.2]
  simp
theorem aKJ (c:UInt8) (a b:List UInt8) (h:c ∉ a):Lib.cut (a++c :: b) [c]=(a,b,true):=by
 unfold Lib.cut;rw [yX c a b h,if_pos (by omega)]
 simp
theorem aHX (c:UInt8) (a:List UInt8) (h:c ∉ a):Lib.cut a [c]=(a,[],false):=by
 unfold Lib.cut;rw [aDV c a h,if_neg (by omega)]
theorem aAF:∀(k:Nat) (s:List UInt8),s.count 32=k→Lib.splitK [32] 0 k s=dP s:=by
 intro k
 induction k with
 | zero =>
  intro s h;rw [Lib.splitK,oB s (List.count_eq_zero.1 h)]
 | succ k ih =>
  intro s h;have hm:(32:UInt8)∈s:=List.count_pos_iff.1 (by omega);obtain ⟨a,b,rfl,ha⟩:=List.eq_append_cons_of_mem hm;rw [Lib.splitK,yX 32 a b ha,if_neg (by rw [beq_iff_eq];omega),iU a b ha,show ((a.length:Int)).toNat=a.length by omega];have hb:b.count 32=k:=by
   rw [List.count_append,List.count_eq_zero.2 ha,List.count_cons_self] at h
   omega
  rw [show List.drop (a.length+[(32:UInt8)].length) (a++32 :: b)=b by simp,ih b hb]
  simp
theorem aC5 (s:ByteArray):Lib.splitB ⟨#[32]⟩ 0 (Lib.countB s ⟨#[32]⟩) s=(dP s.data.toList).map (fun w=>⟨w.toArray⟩)∧Lib.countB s ⟨#[32]⟩+1=(dP s.data.toList).length:=by
 have hc:Lib.countB s ⟨#[32]⟩=s.data.toList.count 32:=Lib.count_one 32 s.data.toList;have h:=Lib.splitB_data ⟨#[32]⟩ 0 (Lib.countB s ⟨#[32]⟩) s;rw [show (⟨#[32]⟩:ByteArray).data.toList=[32] from rfl,hc,aAF _ _ rfl] at h;have hl:=Lib.splitB_all ⟨#[32]⟩ (by decide) 0 _ s rfl
 constructor
 ·rw [←h,List.map_map,hc]
  conv=>lhs;rw [←List.map_id (Lib.splitB _ _ _ _)]
  refine List.map_congr_left (fun x _=>?_)
  simp
 ·rw [←h,List.length_map,←hc,hl]
theorem rW:∀{as bs:List Nat},as.map Lib.decDigits=bs.map Lib.decDigits→as=bs
 | [],[],_=>rfl
 | [],_ :: _,h=>by simp at h
 | _ :: _,[],h=>by simp at h
 | a :: as,b :: bs,h=>by
  simp only [List.map_cons,List.cons.injEq] at h;rw [aKK h.1,rW h.2]
def eF (mark:List UInt8) (r:List UInt8) (ns:List Nat) (rest:List UInt8):Prop:=r=mark++dV ns++rest
theorem wL {mark r rest rest':List UInt8}{ns ns':List Nat}(h0:ns≠[]) (h0':ns'≠[]) (h:eF mark r ns rest) (h':eF mark r ns' rest'):ns=ns'∧rest=rest':=by
 obtain ⟨ms,m,rfl⟩:∃ms m,ns=ms++[m]:=⟨_,_,(List.dropLast_concat_getLast h0).symm⟩
 obtain ⟨ms',m',rfl⟩:∃ms m,ns'=ms++[m]:=⟨_,_,(List.dropLast_concat_getLast h0').symm⟩
 unfold eF at h h';rw [gI] at h h';have no:∀(ms:List Nat) (m:Nat),(10:UInt8) ∉ pre ms++Lib.decDigits m:=by
  intro ms m
  induction ms with
  | nil=>simpa [pre] using qD m
  | cons a ms ih =>
   simp only [pre,List.append_assoc,List.cons_append,List.mem_append,List.mem_cons,not_or] at ih ⊢
   exact ⟨qD a,by decide,ih.1,ih.2⟩
 have e:(pre ms++Lib.decDigits m)++ 10 :: rest=(pre ms'++Lib.decDigits m')++ 10 :: rest':=by
  have:mark++((pre ms++Lib.decDigits m)++ 10 :: rest)=mark++((pre ms'++Lib.decDigits m')++ 10 :: rest'):=by
   simpa using h.symm.trans h'
  exact List.append_cancel_left this
 obtain ⟨e1,e2⟩:=gP (no _ _) (no _ _) e;refine ⟨?_,e2⟩;have:=congrArg dP e1;rw [lI,lI] at this
 exact rW this
theorem sC (ms:List Nat) (m:Nat):(10:UInt8) ∉ pre ms++Lib.decDigits m:=by
 induction ms with
 | nil=>simpa [pre] using qD m
 | cons a ms ih =>
  simp only [pre,List.append_assoc,List.cons_append,List.mem_append,List.mem_cons,not_or] at ih ⊢
  exact ⟨qD a,by decide,ih.1,ih.2⟩
theorem aEW:∀(ws:List (List UInt8)) (l:List UInt8) (ns:List Nat),dP l=ws→ws=ns.map Lib.decDigits→∃ms m,ns=ms++[m]∧l=pre ms++Lib.decDigits m:=by
 intro ws
 induction ws with
 | nil=>intro l ns h;exact absurd h (aJX l)
 | cons w ws ih =>
  intro l ns h hns
  cases ns with
  | nil=>simp at hns
  | cons n ns =>
   simp only [List.map_cons,List.cons.injEq] at hns
   by_cases hm:(32:UInt8)∈l
   ·obtain ⟨a,b,rfl,ha⟩:=List.eq_append_cons_of_mem hm
    rw [iU a b ha] at h;simp only [List.cons.injEq] at h;obtain ⟨ms,m,rfl,rfl⟩:=ih b ns h.2 hns.2;refine ⟨n :: ms,m,rfl,?_⟩;rw [h.1,hns.1]
    simp [pre]
   ·rw [oB l hm] at h
    simp only [List.cons.injEq] at h;obtain rfl:ns=[]:=by
     have:=hns.2;rw [←h.2] at this
     simpa using this.symm
    exact ⟨[],n,rfl,by simp [pre,h.1,hns.1]⟩
end Go.Proofs.YtgpaajdfkekjiaaGreatDoor
namespace Go.Proofs.YtgpaajdfkekjiaaGreatDoor
set_option maxHeartbeats 8000000
set_option maxRecDepth 100000
open Go
open Classical in
noncomputable def dC (mark:List UInt8) (count:Nat) (r:List UInt8):Option (List Nat×List UInt8) :=
 if h:∃p:List Nat×List UInt8,p.1.length=count∧(∀n∈p.1,n<100)∧eF mark r p.1 p.2 then some h.choose else none
theorem aE4 {mark r rest:List UInt8}{count:Nat}{ns:List Nat}(h0:0<count) (hl:ns.length=count) (hs:∀n∈ns,n<100) (h:eF mark r ns rest):dC mark count r=some (ns,rest):=by
 have hex:∃p:List Nat×List UInt8,p.1.length=count∧(∀n∈p.1,n<100)∧eF mark r p.1 p.2:=⟨(ns,rest),hl,hs,h⟩
 unfold dC;rw [dif_pos hex];have hc:=hex.choose_spec;obtain ⟨e1,e2⟩:=wL (fun e=>by rw [e] at hc;simp at hc;omega) (fun e=>by rw [e] at hl;simp at hl;omega) hc.2.2 h;rw [←e1,←e2]
theorem aFS {mark r rest:List UInt8}{count:Nat}{ns:List Nat}(h0:0<count) (hl:ns.length=count) (hs:¬∀n∈ns,n<100) (h:eF mark r ns rest):dC mark count r=none:=by
 unfold dC;rw [dif_neg];rintro ⟨⟨ns',rest'⟩,h1,h2,h3⟩;obtain ⟨e1,_⟩:=wL (fun e=>by rw [e] at h1;simp at h1;omega) (fun e=>by rw [e] at hl;simp at hl;omega) h3 h;simp only at e1 h2
 exact hs (by rw [←e1];exact h2)
theorem eQ {mark r:List UInt8}{count:Nat}(h:∀ns rest,ns.length=count→(∀n∈ns,n<100)→eF mark r ns rest→False):dC mark count r=none:=by
 unfold dC;rw [dif_neg];rintro ⟨⟨ns',rest'⟩,h1,h2,h3⟩
 exact h ns' rest' h1 h2 h3
theorem oI {mark r rest:List UInt8}{count:Nat}{ns:List Nat}(h:dC mark count r=some (ns,rest)):ns.length=count∧(∀n∈ns,n<100)∧eF mark r ns rest:=by
 unfold dC at h
 split at h
 ·rename_i hex
  have:=hex.choose_spec
  injection h with h
  rw [h] at this
  exact this
 ·cases h
structure Hd where
 n:Nat
 l:Nat
 o:Nat
 g:Nat
def Hd.Ok (h:Hd):Prop:=h.n≤4∧h.l≤4∧h.o≤4∧h.g≤30
structure St where
 h:Option Hd
 i:Nat
 ls:List (Int×Int)
 os:List Int
 gs:List (Int×Int)
 rest:List UInt8
def st0 (s:List UInt8):St:=⟨none,0,[],[],[],s⟩
def aag:List UInt8:=[97,97,103,32]
noncomputable def nO (r:List UInt8):Option St:=(dC aag 5 r).bind fun p =>
 if p.1.getD 1 0≤4∧p.1.getD 2 0≤4∧p.1.getD 3 0≤4∧p.1.getD 4 0≤30∧p.1.getD 0 0=p.1.getD 1 0+p.1.getD 2 0+p.1.getD 4 0 then
  some ⟨some ⟨p.1.getD 1 0,p.1.getD 2 0,p.1.getD 3 0,p.1.getD 4 0⟩,0,[],[],[],p.2⟩ else none
noncomputable def vG (st:St):Option St:=(dC [] 1 st.rest).bind fun p =>
 if p.1.getD 0 0=2*st.i+2 then some ⟨st.h,st.i+1,st.ls,st.os,st.gs,p.2⟩ else none
noncomputable def iS (h:Hd) (st:St):Option St:=(dC [] 3 st.rest).bind fun p =>
 if p.1.getD 0 0=2*(h.n+st.ls.length)+2∧p.1.getD 1 0≤2*(h.n+h.l+h.g)+1∧p.1.getD 2 0≤1 then some ⟨st.h,st.i,st.ls++[(((p.1.getD 1 0:Nat):Int),((p.1.getD 2 0:Nat):Int))],st.os,st.gs,p.2⟩ else none
noncomputable def oW (h:Hd) (st:St):Option St:=(dC [] 1 st.rest).bind fun p =>
 if p.1.getD 0 0≤2*(h.n+h.l+h.g)+1 then some ⟨st.h,st.i,st.ls,st.os++[((p.1.getD 0 0:Nat):Int)],st.gs,p.2⟩ else none
noncomputable def kY (h:Hd) (st:St):Option St:=(dC [] 3 st.rest).bind fun p =>
 if p.1.getD 0 0=2*(h.n+h.l+st.gs.length)+2∧p.1.getD 1 0≤2*(h.n+h.l+st.gs.length)+1∧p.1.getD 2 0≤2*(h.n+h.l+st.gs.length)+1 then some ⟨st.h,st.i,st.ls,st.os,st.gs++[(((p.1.getD 1 0:Nat):Int),((p.1.getD 2 0:Nat):Int))],p.2⟩ else none
noncomputable def jJ (st:St):Option St :=
 match st.h with
 | none=>nO st.rest
 | some h=>if st.i<h.n then vG st else if st.ls.length<h.l then iS h st else if st.os.length<h.o then oW h st else if st.gs.length<h.g then kY h st else none
def Got (mark:List UInt8) (count:Nat) (r:List UInt8) (ns:List Nat) (rest:List UInt8):Prop:=ns.length=count∧eF mark r ns rest
theorem aK7 {ns:List Nat}(hl:ns.length=1) (h:ns.getD 0 0<100):∀n∈ns,n<100:=by
 match ns,hl with
 | [a],_=>intro n hn;simp only [List.mem_singleton] at hn;subst hn;simpa using h
theorem aK8 {ns:List Nat}(hl:ns.length=3) (h0:ns.getD 0 0<100) (h1:ns.getD 1 0<100) (h2:ns.getD 2 0<100):∀n∈ns,n<100:=by
 match ns,hl with
 | [a,b,c],_ =>
  intro n hn;simp only [List.mem_cons,List.mem_nil_iff,or_false] at hn
  rcases hn with rfl | rfl | rfl
  ·simpa using h0
  ·simpa using h1
  ·simpa using h2
theorem aM7 {ns:List Nat}(hl:ns.length=5) (h0:ns.getD 0 0<100) (h1:ns.getD 1 0<100) (h2:ns.getD 2 0<100) (h3:ns.getD 3 0<100) (h4:ns.getD 4 0<100):∀n∈ns,n<100:=by
 match ns,hl with
 | [a,b,c,d,e],_ =>
  intro n hn;simp only [List.mem_cons,List.mem_nil_iff,or_false] at hn
  rcases hn with rfl | rfl | rfl | rfl | rfl
  ·simpa using h0
  ·simpa using h1
  ·simpa using h2
  ·simpa using h3
  ·simpa using h4
theorem mO {mark r rest:List UInt8}{count:Nat}{ns:List Nat}{C:List Nat→Prop} [DecidablePred C] {F:List Nat×List UInt8→St}(h0:0<count) (hg:Got mark count r ns rest) (hC:C ns→∀n∈ns,n<100) :
  ((dC mark count r).bind fun p=>if C p.1 then some (F p) else none)=if C ns then some (F (ns,rest)) else none:=by
 by_cases hs:∀n∈ns,n<100
 ·rw [aE4 h0 hg.1 hs hg.2];rfl
 ·rw [aFS h0 hg.1 hs hg.2,if_neg (fun h=>hs (hC h))];rfl
theorem pQ {r rest:List UInt8}{ns:List Nat}(hg:Got aag 5 r ns rest):jJ (st0 r)=
  if ns.getD 1 0≤4∧ns.getD 2 0≤4∧ns.getD 3 0≤4∧ns.getD 4 0≤30∧ns.getD 0 0=ns.getD 1 0+ns.getD 2 0+ns.getD 4 0 then some ⟨some ⟨ns.getD 1 0,ns.getD 2 0,ns.getD 3 0,ns.getD 4 0⟩,0,[],[],[],rest⟩ else none :=
 mO (C:=fun ns=>ns.getD 1 0≤4∧ns.getD 2 0≤4∧ns.getD 3 0≤4∧ns.getD 4 0≤30∧ns.getD 0 0=ns.getD 1 0+ns.getD 2 0+ns.getD 4 0)
  (F:=fun p=>⟨some ⟨p.1.getD 1 0,p.1.getD 2 0,p.1.getD 3 0,p.1.getD 4 0⟩,0,[],[],[],p.2⟩) (by omega) hg
  (fun h=>aM7 hg.1 (by omega) (by omega) (by omega) (by omega) (by omega))
theorem sR {r:List UInt8}(h:dC aag 5 r=none):jJ (st0 r)=none:=by
 show nO r=none
 unfold nO;rw [h];rfl
theorem vH {h:Hd}{i:Nat}{ls gs:List (Int×Int)}{os:List Int}{r rest:List UInt8}{ns:List Nat}(hh:h.Ok) (hi:i<h.n) (hg:Got [] 1 r ns rest) :
  jJ ⟨some h,i,ls,os,gs,r⟩=if ns.getD 0 0=2*i+2 then some ⟨some h,i+1,ls,os,gs,rest⟩ else none:=by
 show (if i<h.n then vG _ else _)=_
 rw [if_pos hi]
 exact mO (C:=fun ns=>ns.getD 0 0=2*i+2) (F:=fun p=>⟨some h,i+1,ls,os,gs,p.2⟩) (by omega) hg (fun e=>aK7 hg.1 (by have:=hh.1;omega))
theorem aAG {h:Hd}{i:Nat}{ls gs:List (Int×Int)}{os:List Int}{r:List UInt8}(hi:i<h.n) (hn:dC [] 1 r=none):jJ ⟨some h,i,ls,os,gs,r⟩=none:=by
 show (if i<h.n then vG _ else _)=_
 rw [if_pos hi];unfold vG;rw [hn];rfl
theorem nP {h:Hd}{i:Nat}{ls gs:List (Int×Int)}{os:List Int}{r rest:List UInt8}{ns:List Nat}(hh:h.Ok) (hi:i=h.n) (hl:ls.length<h.l) (hg:Got [] 3 r ns rest) :
  jJ ⟨some h,i,ls,os,gs,r⟩=if ns.getD 0 0=2*(h.n+ls.length)+2∧ns.getD 1 0≤2*(h.n+h.l+h.g)+1∧ns.getD 2 0≤1 then some ⟨some h,i,ls++[(((ns.getD 1 0:Nat):Int),((ns.getD 2 0:Nat):Int))],os,gs,rest⟩ else none:=by
 show (if i<h.n then _ else if ls.length<h.l then iS h _ else _)=_
 rw [if_neg (by omega),if_pos hl];obtain ⟨h1,h2,h3,h4⟩:=hh
 exact mO (C:=fun ns=>ns.getD 0 0=2*(h.n+ls.length)+2∧ns.getD 1 0≤2*(h.n+h.l+h.g)+1∧ns.getD 2 0≤1) (F:=fun p=>⟨some h,i,ls++[(((p.1.getD 1 0:Nat):Int),((p.1.getD 2 0:Nat):Int))],os,gs,p.2⟩) (by omega) hg
  (fun e=>aK8 hg.1 (by omega) (by omega) (by omega))
theorem pR {h:Hd}{i:Nat}{ls gs:List (Int×Int)}{os:List Int}{r:List UInt8}(hi:i=h.n) (hl:ls.length<h.l) (hn:dC [] 3 r=none):jJ ⟨some h,i,ls,os,gs,r⟩=none:=by
 show (if i<h.n then _ else if ls.length<h.l then iS h _ else _)=_
 rw [if_neg (by omega),if_pos hl];unfold iS;rw [hn];rfl
theorem sS {h:Hd}{i:Nat}{ls gs:List (Int×Int)}{os:List Int}{r rest:List UInt8}{ns:List Nat}(hh:h.Ok) (hi:i=h.n) (hl:ls.length=h.l) (ho:os.length<h.o) (hg:Got [] 1 r ns rest) :
  jJ ⟨some h,i,ls,os,gs,r⟩=if ns.getD 0 0≤2*(h.n+h.l+h.g)+1 then some ⟨some h,i,ls,os++[((ns.getD 0 0:Nat):Int)],gs,rest⟩ else none:=by
 show (if i<h.n then _ else if ls.length<h.l then _ else if os.length<h.o then oW h _ else _)=_
 rw [if_neg (by omega),if_neg (by omega),if_pos ho];obtain ⟨h1,h2,h3,h4⟩:=hh
 exact mO (C:=fun ns=>ns.getD 0 0≤2*(h.n+h.l+h.g)+1) (F:=fun p=>⟨some h,i,ls,os++[((p.1.getD 0 0:Nat):Int)],gs,p.2⟩) (by omega) hg (fun e=>aK7 hg.1 (by omega))
theorem vI {h:Hd}{i:Nat}{ls gs:List (Int×Int)}{os:List Int}{r:List UInt8}(hi:i=h.n) (hl:ls.length=h.l) (ho:os.length<h.o) (hn:dC [] 1 r=none):jJ ⟨some h,i,ls,os,gs,r⟩=none:=by
 show (if i<h.n then _ else if ls.length<h.l then _ else if os.length<h.o then oW h _ else _)=_
 rw [if_neg (by omega),if_neg (by omega),if_pos ho];unfold oW;rw [hn];rfl
theorem pP {h:Hd}{i:Nat}{ls gs:List (Int×Int)}{os:List Int}{r rest:List UInt8}{ns:List Nat}(hh:h.Ok) (hi:i=h.n) (hl:ls.length=h.l) (ho:os.length=h.o) (hgs:gs.length<h.g) (hg:Got [] 3 r ns rest) :
  jJ ⟨some h,i,ls,os,gs,r⟩=if ns.getD 0 0=2*(h.n+h.l+gs.length)+2∧ns.getD 1 0≤2*(h.n+h.l+gs.length)+1∧ns.getD 2 0≤2*(h.n+h.l+gs.length)+1 then some ⟨some h,i,ls,os,gs++[(((ns.getD 1 0:Nat):Int),((ns.getD 2 0:Nat):Int))],rest⟩ else none:=by
 show (if i<h.n then _ else if ls.length<h.l then _ else if os.length<h.o then _ else if gs.length<h.g then kY h _ else _)=_
 rw [if_neg (by omega),if_neg (by omega),if_neg (by omega),if_pos hgs];obtain ⟨h1,h2,h3,h4⟩:=hh
 exact mO (C:=fun ns=>ns.getD 0 0=2*(h.n+h.l+gs.length)+2∧ns.getD 1 0≤2*(h.n+h.l+gs.length)+1∧ns.getD 2 0≤2*(h.n+h.l+gs.length)+1) (F:=fun p=>⟨some h,i,ls,os,gs++[(((p.1.getD 1 0:Nat):Int),((p.1.getD 2 0:Nat):Int))],p.2⟩) (by omega) hg
  (fun e=>aK8 hg.1 (by omega) (by omega) (by omega))
theorem sQ {h:Hd}{i:Nat}{ls gs:List (Int×Int)}{os:List Int}{r:List UInt8}(hi:i=h.n) (hl:ls.length=h.l) (ho:os.length=h.o) (hgs:gs.length<h.g) (hn:dC [] 3 r=none):jJ ⟨some h,i,ls,os,gs,r⟩=none:=by
 show (if i<h.n then _ else if ls.length<h.l then _ else if os.length<h.o then _ else if gs.length<h.g then kY h _ else _)=_
 rw [if_neg (by omega),if_neg (by omega),if_neg (by omega),if_pos hgs];unfold kY;rw [hn];rfl
theorem aH0 {h:Hd}{i:Nat}{ls gs:List (Int×Int)}{os:List Int}{r:List UInt8}(hi:i=h.n) (hl:ls.length=h.l) (ho:os.length=h.o) (hgs:gs.length=h.g):jJ ⟨some h,i,ls,os,gs,r⟩=none:=by
 show (if i<h.n then _ else if ls.length<h.l then _ else if os.length<h.o then _ else if gs.length<h.g then _ else none)=none
 rw [if_neg (by omega),if_neg (by omega),if_neg (by omega),if_neg (by omega)]
noncomputable def runN (s:List UInt8):Nat→Option St
 | 0=>some (st0 s)
 | k+1=>(runN s k).bind jJ
theorem eI {s:List UInt8}{k:Nat}{st st':St}(h:runN s k=some st) (h':jJ st=some st'):runN s (k+1)=some st':=by rw [runN,h];exact h'
theorem aAC {s:List UInt8}{k j:Nat}(h:runN s k=none) (hj:k≤j):runN s j=none:=by
 induction j with
 | zero =>
   obtain rfl:k=0:=by omega
   exact h
 | succ j ih =>
  by_cases e:k=j+1
  ·rw [←e];exact h
  ·rw [runN,ih (by omega)];rfl
structure Circ where
 n:Nat
 ls:List (Int×Int)
 gs:List (Int×Int)
 os:List Int
def St.Done (st:St):Prop:=∃h,st.h=some h∧st.i=h.n∧st.ls.length=h.l∧st.os.length=h.o∧st.gs.length=h.g∧st.rest=[]
def Ans (s:List UInt8) (c:Option Circ) (line:Nat):Prop :=
 (1000<s.length∧c=none∧line=0)∨
 (s.length≤1000∧∃k st,runN s k=some st∧jJ st=none∧((st.Done∧c=some ⟨st.i,st.ls,st.gs,st.os⟩∧line=0)∨(¬st.Done∧c=none∧line=k+1)))
theorem vP {s:List UInt8}{c c':Option Circ}{line line':Nat}(h:Ans s c line) (h':Ans s c' line'):c=c'∧line=line':=by
 rcases h with ⟨h1,rfl,rfl⟩ | ⟨h1,k,st,hk,hs,hc⟩
 ·rcases h' with ⟨_,rfl,rfl⟩ | ⟨h2,_⟩
  ·exact ⟨rfl,rfl⟩
  ·omega
 ·rcases h' with ⟨h2,_⟩ | ⟨_,k',st',hk',hs',hc'⟩
  ·omega
  ·have e:k=k':=by
    have a:runN s (k+1)=none:=(by rw [runN,hk];exact hs)
    have b:runN s (k'+1)=none:=by rw [runN,hk'];exact hs'
    rcases Nat.lt_trichotomy k k' with hlt | he | hgt
    ·rw [aAC a hlt] at hk';cases hk'
    ·exact he
    ·rw [aAC b hgt] at hk;cases hk
   subst e;rw [hk] at hk'
   injection hk' with e
   subst e
   rcases hc with ⟨d,rfl,rfl⟩ | ⟨d,rfl,rfl⟩
   ·rcases hc' with ⟨_,rfl,rfl⟩ | ⟨d',_,_⟩
    ·exact ⟨rfl,rfl⟩
    ·exact absurd d d'
   ·rcases hc' with ⟨d',_,_⟩ | ⟨_,rfl,rfl⟩
    ·exact absurd d' d
    ·exact ⟨rfl,rfl⟩
theorem bI {s:List UInt8}{k:Nat}{st:St}(hs:s.length≤1000) (hk:runN s k=some st) (h:jJ st=none) (hd:¬st.Done):Ans s none (k+1):=.inr ⟨hs,k,st,hk,h,.inr ⟨hd,rfl,rfl⟩⟩
theorem sB (s:List UInt8):¬(st0 s).Done:=by rintro ⟨h,e,_⟩;cases e
theorem lY {h:Hd}{i:Nat}{ls gs:List (Int×Int)}{os:List Int}{r:List UInt8}(hi:i<h.n):¬(St.mk (some h) i ls os gs r).Done:=by
 rintro ⟨h',e,hi',_⟩
 injection e with e
 subst e;simp only at hi'
 omega
theorem eH {h:Hd}{i:Nat}{ls gs:List (Int×Int)}{os:List Int}{r:List UInt8}(hi:ls.length<h.l):¬(St.mk (some h) i ls os gs r).Done:=by
 rintro ⟨h',e,_,hi',_⟩
 injection e with e
 subst e;simp only at hi'
 omega
theorem jR {h:Hd}{i:Nat}{ls gs:List (Int×Int)}{os:List Int}{r:List UInt8}(hi:os.length<h.o):¬(St.mk (some h) i ls os gs r).Done:=by
 rintro ⟨h',e,_,_,hi',_⟩
 injection e with e
 subst e;simp only at hi'
 omega
theorem eX {h:Hd}{i:Nat}{ls gs:List (Int×Int)}{os:List Int}{r:List UInt8}(hi:gs.length<h.g):¬(St.mk (some h) i ls os gs r).Done:=by
 rintro ⟨h',e,_,_,_,hi',_⟩
 injection e with e
 subst e;simp only at hi'
 omega
theorem nC {h:Option Hd}{i:Nat}{ls gs:List (Int×Int)}{os:List Int}{r:List UInt8}(hr:r≠[]):¬(St.mk h i ls os gs r).Done:=by
 rintro ⟨h',_,_,_,_,_,hi'⟩
 exact hr hi'
end Go.Proofs.YtgpaajdfkekjiaaGreatDoor
