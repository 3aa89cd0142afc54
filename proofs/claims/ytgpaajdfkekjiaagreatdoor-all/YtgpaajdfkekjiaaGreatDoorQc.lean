/-
  A part of the proof of the statement All: texts of ours, made small by program (blanks, names).
-/
import Derived.Test.YtgpaajdfkekjiaaGreatDoorPa
import Derived.Test.YtgpaajdfkekjiaaGreatDoorPi
import Derived.Test.YtgpaajdfkekjiaaGreatDoorQb
import Derived.Test.YtgpaajdfkekjiaaGreatDoorPd
import Derived.Test.YtgpaajdfkekjiaaGreatDoorPj
import Derived.ArgAppend
import Derived.Test.YtgpaajdfkekjiaaGreatDoorPg
import Derived.Test.YtgpaajdfkekjiaaGreatDoorPs
namespace Go.Proofs.YtgpaajdfkekjiaaGreatDoor
set_option maxHeartbeats 8000000
set_option maxRecDepth 100000
open Go.RowKit
theorem rQ (x:Int) (w:World):Calls Tryz.prog 181 #[.int .i64 x] w fun e w'=>e=.returned (.bool false)∧w'=w:=by
 have h:(x != x)=false:=by simp
 go_enter Tryz.func181,Tryz.ntmps181
 go_wp2
 go_ret
 exact ⟨rfl,rfl⟩
def cmpI (x y:Int):Int:=if x<y then -1 else if y<x then 1 else 0
theorem tG (x y:Int) (w:World):Calls Tryz.prog 180 #[.int .i64 x,.int .i64 y] w fun e w'=>e=.returned (.int .i64 (cmpI x y))∧w'=w:=by
 by_cases h1:x<y
 ·go_enter Tryz.func180,Tryz.ntmps180
  go_wp2_with (go_at_call 181;refine (rQ _ _).mono ?_;rintro e w' ⟨rfl,hw⟩;have hw:=hw.symm;subst hw)
  go_ret
  exact ⟨eZ (by simp [cmpI,h1]),rfl⟩
 ·by_cases h2:y<x
  ·go_enter Tryz.func180,Tryz.ntmps180
   go_wp2_with (go_at_call 181;refine (rQ _ _).mono ?_;rintro e w' ⟨rfl,hw⟩;have hw:=hw.symm;subst hw)
   go_ret
   exact ⟨eZ (by simp [cmpI,h1,h2]),rfl⟩
  ·go_enter Tryz.func180,Tryz.ntmps180
   go_wp2_with (go_at_call 181;refine (rQ _ _).mono ?_;rintro e w' ⟨rfl,hw⟩;have hw:=hw.symm;subst hw)
   go_ret
   exact ⟨eZ (by unfold cmpI;rw [if_neg (by omega),if_neg (by omega)]),rfl⟩
theorem iV {x y c:Int}(w:World) (h:cmpI x y=c):Calls Tryz.prog 180 #[.int .i64 x,.int .i64 y] w fun e w'=>e=.returned (.int .i64 c)∧w'=w:=by
 subst h;exact tG x y w
theorem aF9 {A B:List Nat}(h:code A<code B):∀(n:Nat) (r s:List Nat),r.length=n→s.length=n→Dig r→code (A++r)<code (B++s):=by
 intro n
 induction n with
 | zero =>
  intro r s hr hs _;obtain rfl:=List.length_eq_zero_iff.1 hr;obtain rfl:=List.length_eq_zero_iff.1 hs
  simpa using h
 | succ n ih =>
  intro r s hr hs hd
  rcases cO r with rfl | ⟨q,i,rfl⟩
  ·simp at hr
  rcases cO s with rfl | ⟨t,j,rfl⟩
  ·simp at hs
  obtain ⟨hq,hi⟩:=dig_snoc.1 hd;have:=ih q t (by simpa using hr) (by simpa using hs) hq;rw [←List.append_assoc,←List.append_assoc,cE,cE]
  omega
theorem aDC (u:List Nat) (k:Nat) (h:k<u.length):u=(u.take k++[u.getD k 0])++ u.drop (k+1):=by
 have:=List.take_append_drop (k+1) u;rw [xJ u 0 k h] at this
 exact this.symm
theorem uB {u v:List Nat}{k:Nat}(hl:u.length=v.length) (hk:k<u.length) (heq:u.take k=v.take k) (hu:Dig u) (hlt:u.getD k 0<v.getD k 0):code u<code v:=by
 rw [aDC u k hk,aDC v k (by omega),heq];refine aF9 ?_ (u.length - (k+1)) _ _ (by simp) (by simp;omega) (fun i hi=>hu i (List.drop_subset _ _ hi));rw [cE,cE]
 omega
def cmpL (u v:List Nat):Int:=if code u<code v then -1 else if code v<code u then 1 else 0
theorem xV (u:List Nat) (k:Nat):(zs u).getD k 0=((u.getD k 0:Nat):Int):=by
 simp only [zs,List.getD_eq_getElem?_getD,List.getElem?_map]
 cases u[k]?<;>rfl
theorem pC (u v:List Nat) (hl:u.length=v.length):∀k,k≤u.length→(∀j,j<k→u.getD j 0=v.getD j 0)→u.take k=v.take k:=by
 intro k
 induction k with
 | zero=>intro _ _;simp
 | succ k ih =>
  intro hk h;rw [xJ u 0 k (by omega),xJ v 0 k (by omega),ih (by omega) (fun j hj=>h j (by omega)),h k (by omega)]

theorem oU (aa ba:Option Addr) (ac bc:Nat) (u v:List Nat) (w:World) (hl:u.length=v.length) (hb:u.length≤1000) (hu:Dig u) (hv:Dig v) (hX:IntsAt w aa (zs u)) (hY:IntsAt w ba (zs v)) :
  Calls Tryz.prog 179 #[.slice aa u.length ac,.slice ba u.length bc] w fun e w'=>e=.returned (.int .i64 (cmpL u v))∧w'=w:=by
 have HL:Hid (u.length=v.length):=hl;clear hl
 go_enter Tryz.func179,Tryz.ntmps179
 go_wp2
 go_loop [5,6,7,8,11] (fun _ _ _ _ i=>∃k:Nat,k≤u.length∧i=.int .i64 k∧(∀j,j<k→u.getD j 0=v.getD j 0)) (fun _ _ _ _ i=>u.length - (intOf i).toNat)
 case atStart=>exact ⟨0,Nat.zero_le _,rfl,fun j hj=>absurd hj (Nat.not_lt_zero j)⟩
 case round =>
  obtain ⟨k,hk,rfl,hall⟩:=hrel;have HA:Hid (∀j,j<k→u.getD j 0=v.getD j 0):=hall;clear hall
  by_cases hk2:k<u.length
  ·obtain ⟨b,off,rfl,hlt,hc⟩:=hX.get (by rw [pU];omega)
   obtain ⟨b',off',rfl,hlt',hc'⟩:=hY.get (by rw [pU,←HL.out];omega);have hcy:=hc k (by rw [pU];exact hk2);have hcz:=hc' k (by rw [pU,←HL.out];exact hk2);rw [xV] at hcy hcz;obtain ⟨x,hx⟩:∃x:Nat,x=u.getD k 0:=⟨_,rfl⟩
   obtain ⟨y,hy⟩:∃y:Nat,y=v.getD k 0:=⟨_,rfl⟩
   rw [←hx] at hcy;rw [←hy] at hcz;have HX:Hid (x=u.getD k 0):=hx;have HY:Hid (y=v.getD k 0):=hy;have k1:(k:Int)<(u.length:Int):=(by omega)
   clear hx hy hc hc'
   rcases Nat.lt_trichotomy x y with h | h | h
   ·have hcm:cmpI x y=-1:=by simp [cmpI];omega
    go_wp2_with (go_at_call 180;refine (iV _ hcm).mono ?_;rintro e w' ⟨rfl,hw⟩;have hw:=hw.symm;subst hw)
    go_ret
    have:=uB HL.out hk2 (pC u v HL.out k hk HA.out) hu (by rw [←HX.out,←HY.out];exact h)
    exact ⟨eZ (by simp [cmpL,this]),rfl⟩
   ·subst h
    have hcm:cmpI x x=0:=by simp [cmpI]
    go_wp2_with (go_at_call 180;refine (iV _ hcm).mono ?_;rintro e w' ⟨rfl,hw⟩;have hw:=hw.symm;subst hw)
    go_round
    case rel=>exact ⟨k+1,by omega,by go_num,kD HA.out (by rw [←HX.out,←HY.out])⟩
    case measure=>simp [intOf];omega
   ·have hcm:cmpI x y=1:=by simp [cmpI];omega
    go_wp2_with (go_at_call 180;refine (iV _ hcm).mono ?_;rintro e w' ⟨rfl,hw⟩;have hw:=hw.symm;subst hw)
    go_ret
    have:=uB HL.out.symm (by rw [←HL.out];exact hk2) (pC u v HL.out k hk HA.out).symm hv (by rw [←HX.out,←HY.out];exact h)
    exact ⟨eZ (by unfold cmpL;rw [if_neg (by omega),if_pos this]),rfl⟩
  ·have hlt:¬(u.length:Int)<(u.length:Int):=by omega
   go_wp2
   go_ret
   have:u=v:=by
    have:=pC u v HL.out u.length (Nat.le_refl _) (fun j hj=>HA.out j (by omega));rw [List.take_length,HL.out,List.take_length] at this
    exact this
   exact ⟨eZ (by subst this;simp [cmpL]),rfl⟩
def InAt (w:World) (X:Nat→Prop) (v:Value) (u:List Nat):Prop :=
 ∃a c,v=.slice a u.length c∧IntsAt w a (zs u)∧u.length≤c∧(a=none→u.length=0∧c=0)∧(∀b,a=some b→¬X b.block∧b.block<w.heap.size)∧w.ownsRow 0 3 1 v u.length (aP u)
theorem InAt.nil (w:World) (X:Nat→Prop):InAt w X (.slice none 0 0) []:=⟨none,0,rfl,.inl rfl,Nat.le_refl _,fun _=>⟨rfl,rfl⟩,(fun b h=>by cases h),World.ownsRow_nil _ _ _ _⟩
theorem InAt.keeps {w w':World}{X S:Nat→Prop}{v:Value}{u:List Nat}(h:InAt w X v u) (K:Keeps S w w') (hS:∀k,S k→X k):InAt w' X v u:=by
 obtain ⟨a,c,hv,hi,hl,hn,hb,ho⟩:=h;refine ⟨a,c,hv,?_,hl,hn,(fun b e=>⟨(hb b e).1,Nat.lt_of_lt_of_le (hb b e).2 K.size⟩),aL ho (fun q hq=>K.block q (ho.lt q hq).2 (fun hs=>?_))⟩
 rotate_left 1
 ·rcases ho.2 with ⟨h',_⟩ | ⟨g,cap,cur,h',_⟩
  ·rw [h'] at hq;cases hq
  ·rw [h'] at hq
   simp only [Value.ownBlock,Option.some.injEq] at hq;rw [h'] at hv;simp only [Value.slice.injEq] at hv
   exact (hb _ hv.1.symm).1 (hS _ (hq▸hs))
 rcases hi with h0 | ⟨b,off,rfl,hlt,hc⟩
 ·exact .inl h0
 ·exact .inr ⟨b,off,rfl,Nat.lt_of_lt_of_le hlt K.size,fun i hi=>(K.cell (p:=⟨b,off+i,none⟩) hlt (fun h=>(hb ⟨b,off,none⟩ rfl).1 (hS _ h))).trans (hc i hi)⟩
theorem InAt.below {w w':World}{X:Nat→Prop}{v:Value}{u:List Nat}(h:InAt w X v u) (hb:Below w.heap.size w w'):InAt w' X v u :=
 h.keeps (S:=fun _=>False) ⟨hb.os,hb.tape,hb.output,hb.size,fun k hk _=>hb.block k hk⟩ (fun _ h=>h.elim)
theorem InAt.mono {w:World}{X Y:Nat→Prop}{v:Value}{u:List Nat}(h:InAt w X v u) (hY:∀k,k<w.heap.size→Y k→X k):InAt w Y v u:=by
 obtain ⟨a,c,hv,hi,hl,hn,hb,ho⟩:=h
 exact ⟨a,c,hv,hi,hl,hn,(fun b e=>⟨fun hy=>(hb b e).1 (hY _ (hb b e).2 hy),(hb b e).2⟩),ho⟩
theorem aHV (a:Option Addr) (n c:Nat) (w:World) (hn:n≤1000) (hc:n≤c) :
  Calls Tryz.prog 119 #[.slice a n c] w fun e w'=>e=.returned (.slice a n n)∧w'=w:=by
 have h1:(n:Int)≤(c:Int):=by omega
 have h2:(0:Int)≤(n:Int):=by omega
 go_enter Tryz.func119,Tryz.ntmps119
 go_wp2
 go_ret
 exact ⟨rfl,rfl⟩
theorem zE (l:List Nat) (j:Nat) (h:j<l.length):(aP l)[j]?=some (.int .i64 ((l.getD j 0:Nat):Int)):=by simp [aP,h]
theorem aK2 {w w':World}(h:w.grownBy w' none):Below w.heap.size w w':=⟨h.os,h.tape,h.output,h.size,fun k hk=>h.block k hk (by simp)⟩

theorem aJT (X:Nat→Prop) (v:Value) (u:List Nat) (i:Nat) (w:World) (hu:u.length≤500) (hv:InAt w X v u) :
  Calls Tryz.prog 110 #[v,.int .i64 i] w fun e w'=>∃v',e=.returned v'∧(∀Y:Nat→Prop,(∀k,Y k→k<w.heap.size)→InAt w' Y v' (u++[i]))∧Below w.heap.size w w':=by
 obtain ⟨a,c,rfl,hi,hl,hn,hb,_⟩:=hv;obtain ⟨i0,hi0,hz0,hz1,hz2⟩:=info_parts Tryz.infoInt;have bel:Below w.heap.size w (w.alloc (.cells #[.int .i64 i] 3)):=(Below.refl _ _).alloc (Nat.le_refl _) _;have hold:∀b,a=some b→∀j x,(aP u)[j]?=some x→(w.alloc (.cells #[.int .i64 i] 3)).cell? (b.add j)=some x:=by
  intro b e j x hx;subst e;have hj:j<u.length:=by
   have:=(List.getElem?_eq_some_iff.1 hx).1;rwa [iH] at this
  obtain ⟨b',off,e,hlt,hc⟩:=(hi.below bel).get (by rw [pU];omega);obtain rfl:=Option.some.inj e;have:=hc j (by rw [pU];exact hj);rw [xV] at this;have e2:(⟨b',off,none⟩:Addr).add j=⟨b',off+j,none⟩:=by unfold Addr.add;split<;>simp_all
  rw [e2,this]
  simp [aP,hj] at hx
  rw [←hx]
  simp [hj]
 go_enter Tryz.func110,Tryz.ntmps110
 go_wp2_with (first | (go_at_call 119;refine (aHV a u.length c _ (by omega) hl).mono ?_;rintro e w' ⟨rfl,hw⟩;have hw:=hw.symm;subst hw) | (at_builtin;refine wpList_append_grows _ rfl (.tmp 6) (.tmp 8) 32 rfl 3 i0 (.int .i64 0) 1 8 Tryz.underlying32 hi0 hz0 hz1 hz2 rfl (by omega) a u.length u.length (aP u) rfl (fun e=>⟨(hn e).1,(hn e).1⟩) (by rw [iH];omega) hold ⟨w.heap.size,0,none⟩ 1 1 [.int .i64 i] rfl rfl (World.news_of_block (heap_alloc_new w _)) (by simp [Value.oneCell']) (by omega) (by unfold maxLen;omega) (by omega) ?_;intro v' w1 own1 grow1))
 obtain ⟨g,cap,rfl,hge,hlt⟩:=own1.form (by omega);have hs:w.heap.size<(w.alloc (.cells #[.int .i64 i] 3)).heap.size:=by simp
 have hlen:(u++[i]).length=u.length+1:=by simp
 go_ret
 refine ⟨.slice (some ⟨g,0,none⟩) (u.length+1) cap,rfl,fun Y hY=>⟨some ⟨g,0,none⟩,cap,(by rw [hlen]),.inr ⟨g,0,rfl,hlt,fun j hj=>?_⟩,?_,(fun e=>by cases e),(fun b e=>?_),?_⟩,bel.trans ((aK2 grow1).mono (by simp))⟩
 ·rw [pU,hlen] at hj
  rw [Nat.zero_add,own1.cellAt j (by omega),xV];have e3:aP u++[.int .i64 (i:Int)]=aP (u++[i]):=(aZ u i).symm;rw [e3]
  exact zE _ j (by rw [hlen];exact hj)
 ·rw [hlen]
  rcases own1.2 with ⟨h',_⟩ | ⟨g',cap',cur,h',_,_,hle,_⟩
  ·cases h'
  ·simp only [Value.slice.injEq,Option.some.injEq,Addr.mk.injEq,and_true,true_and] at h'
   obtain ⟨rfl,rfl⟩:=h'
   exact hle
 ·obtain rfl:=Option.some.inj e
  refine ⟨fun hy=>?_,hlt⟩;have h1:=hY _ hy;have h2:w.heap.size<g:=Nat.lt_of_lt_of_le hs hge;dsimp only at h1
  omega
 ·rw [hlen,aZ]
  exact own1.lower (Nat.zero_le _)
end Go.Proofs.YtgpaajdfkekjiaaGreatDoor
namespace Go.Proofs.YtgpaajdfkekjiaaGreatDoor
set_option maxHeartbeats 8000000
set_option maxRecDepth 100000
open Go.RowKit
def wayL (M:Duo) (e:List Nat×Value):List Value:=[e.2,.int .i64 ((M.run e.1).1:Nat),.int .i64 ((M.run e.1).2:Nat),.int .i64 (M.difL e.1:Nat)]
def rowW (M:Duo) (es:List (List Nat×Value)):List Value:=es.flatMap (wayL M)
def bJ:List Nat×Value:=([],.slice none 0 0)
theorem xD (M:Duo) (es:List (List Nat×Value)):(rowW M es).length=es.length*4:=by
 induction es with
 | nil=>rfl
 | cons e es ih=>simp [rowW,wayL] at ih ⊢;omega
theorem nJ (M:Duo) (e:List Nat×Value) (es:List (List Nat×Value)):rowW M (e :: es)=wayL M e++rowW M es:=rfl
theorem qQ (M:Duo):∀(es:List (List Nat×Value)) (i c:Nat),i<es.length→c<4→(rowW M es)[i*4+c]?=(wayL M (es.getD i bJ))[c]?
 | [],i,c,hi,_=>by simp at hi
 | e :: es,0,c,_,hc=>by rw [nJ,Nat.zero_mul,Nat.zero_add,List.getElem?_append_left (by simp [wayL];omega)];rfl
 | e :: es,i+1,c,hi,hc=>by
  have:=qQ M es i c (by simpa using hi) hc;have e1:(i+1)*4+c=(i*4+c)+4:=by omega
  rw [e1,nJ,List.getElem?_append_right (by simp [wayL])]
  simpa [wayL] using this
theorem aGN (M:Duo) (es:List (List Nat×Value)) (e:List Nat×Value):rowW M (es++[e])=rowW M es++wayL M e:=by simp [rowW]
theorem aAA (M:Duo):∀(es:List (List Nat×Value)) (k:Nat),(rowW M es).take (k*4)=rowW M (es.take k)
 | [],k=>by simp [rowW]
 | e :: es,0=>by simp [rowW]
 | e :: es,k+1=>by
  have e1:(k+1)*4=4+k*4:=by omega
  rw [e1,nJ,List.take_succ_cons,nJ,←aAA M es k];have hl:(wayL M e).length=4:=rfl;rw [List.take_append,List.take_of_length_le (by rw [hl];omega),hl,show 4+k*4 - 4=k*4 by omega]
def set4 (xs:List Value) (k:Nat) (a b c d:Value):List Value:=(((xs.set k a).set (k+1) b).set (k+2) c).set (k+3) d
theorem aJA (xs:List Value) (k:Nat) (a b c d:Value) (h:k+3<xs.length) (j:Nat):(set4 xs k a b c d)[j]?=if j=k then some a else if j=k+1 then some b else if j=k+2 then some c else if j=k+3 then some d else xs[j]?:=by
 unfold set4;simp only [List.getElem?_set,List.length_set]
 by_cases h3:j=k+3
 ·subst h3;simp;omega
 by_cases h2:j=k+2
 ·subst h2;simp;omega
 by_cases h1:j=k+1
 ·subst h1;simp;omega
 by_cases h0:j=k
 ·subst h0;simp;omega
 simp [h0,h1,h2,h3,Ne.symm h0,Ne.symm h1,Ne.symm h2,Ne.symm h3]
theorem aJ5 (M:Duo) (es:List (List Nat×Value)) (i:Nat) (e:List Nat×Value) (hi:i<es.length) :
  set4 (rowW M es) (i*4) e.2 (.int .i64 ((M.run e.1).1:Nat)) (.int .i64 ((M.run e.1).2:Nat)) (.int .i64 (M.difL e.1:Nat))=rowW M (es.set i e):=by
 apply List.ext_getElem?
 intro j;have hl:=xD M es;rw [aJA _ _ _ _ _ _ (by omega)]
 by_cases hj:j<es.length*4
 ·have ej:j=j / 4*4+j % 4:=by omega
  have hq:j / 4<es.length:=by omega
  rw [ej,qQ M (es.set i e) _ _ (by simpa using hq) (by omega),qQ M es _ _ hq (by omega)]
  by_cases hqi:j / 4=i
  ·have e2:(es.set i e).getD (j / 4) bJ=e:=by rw [hqi];simp [hi]
   rw [e2,hqi];have:j % 4=0∨j % 4=1∨j % 4=2∨j % 4=3:=by omega
   rcases this with h | h | h | h<;>rw [h]<;> simp [wayL]
  ·have e2:(es.set i e).getD (j / 4) bJ=es.getD (j / 4) bJ:=by simp only [List.getD_eq_getElem?_getD];rw [List.getElem?_set_ne (by omega)]
   rw [e2,if_neg (by omega),if_neg (by omega),if_neg (by omega),if_neg (by omega)]
 ·rw [if_neg (by omega),if_neg (by omega),if_neg (by omega),if_neg (by omega),List.getElem?_eq_none (by omega),List.getElem?_eq_none (by rw [xD];simp;omega)]
def aR (P:Nat) (hv:Value) (k:Nat):Prop:=k=P∨hv.ownBlock=some k
def inX (B P:Nat) (hv:Value) (k:Nat):Prop:=aR P hv k∨k<B
structure WaysAt (M:Duo) (B:Nat) (w:World) (P:Nat) (hv:Value) (es:List (List Nat×Value)):Prop where
 lo:B≤P
 lt:P<w.heap.size
 cell:w.cell? ⟨P,0,none⟩=some hv
 frz:w.frozen? ⟨P,0,none⟩=false
 own:w.ownsRow B 148 4 hv es.length (rowW M es)
 ap:hv.ownBlock≠some P
 ins:∀e∈es,InAt w (inX B P hv) e.2 e.1
theorem Keeps.drewR {S:Nat→Prop}{a b:World}(h:Keeps S a b):Keeps S a b.drew:=⟨h.os,h.tape,h.output,h.size,h.block⟩
theorem aBF (hv:Value) (a:Option Addr) (n c:Nat) (w:World) (h:hv=.slice a n c) :
  Calls Tryz.prog 85 #[hv] w fun e w'=>e=.returned (.int .i64 n)∧w'=w:=by
 subst h
 go_enter Tryz.func85,Tryz.ntmps85
 go_wp2
 go_ret
 exact ⟨rfl,rfl⟩
section
variable {M:Duo}{B P:Nat}{w:World}{hv:Value}{es:List (List Nat×Value)}
theorem WaysAt.slice (h:WaysAt M B w P hv es) (h0:0<es.length):∃g cap,hv=.slice (some ⟨g,0,none⟩) es.length cap∧es.length≤cap:=by
 rcases h.own.2 with ⟨_,h2⟩ | ⟨g,cap,cur,hv',_,_,hc,_⟩
 ·omega
 ·exact ⟨g,cap,hv',hc⟩
theorem WaysAt.get (h:WaysAt M B w P hv es){g i c:Nat}(hg:hv.ownBlock=some g) (hi:i<es.length) (hc:c<4):w.cell? ⟨g,i*4+c,none⟩=(wayL M (es.getD i bJ))[c]?:=by
 obtain ⟨g',cap,e,_⟩:=h.slice (by omega);subst e;obtain rfl:g'=g:=by simpa [Value.ownBlock] using hg
 rw [h.own.cellAt _ (by omega),qQ M es i c hi hc]
theorem WaysAt.inAt (h:WaysAt M B w P hv es){i:Nat}(hi:i<es.length):InAt w (inX B P hv) (es.getD i bJ).2 (es.getD i bJ).1:=by
 refine h.ins _ ?_;rw [List.getD_eq_getElem?_getD,List.getElem?_eq_getElem hi];exact List.getElem_mem hi
end
theorem aI {p:Prop}(h:p):Hid p:=h
theorem oV (aa ba:Option Addr) (ac bc:Nat) (u v:List Nat) (w:World) (hl:u.length=v.length) (hb:u.length≤1000) (hu:Dig u) (hv:Dig v) (hX:IntsAt w aa (zs u)) (hY:IntsAt w ba (zs v)) :
  Calls Tryz.prog 179 #[.slice aa u.length ac,.slice ba v.length bc] w fun e w'=>e=.returned (.int .i64 (cmpL u v))∧w'=w:=by
 have h:=oU aa ba ac bc u v w hl hb hu hv hX hY;rw [show (.slice ba u.length bc:Value)=.slice ba v.length bc by rw [hl]] at h
 exact h
theorem aIG (M:Duo) (B P:Nat) (hv:Value) (es:List (List Nat×Value)) (i j:Nat) (w:World) (h:WaysAt M B w P hv es) (hi:i<es.length) (hj:j<es.length) (hn:es.length≤10000)
  (di:Dig (es.getD i bJ).1) (dj:Dig (es.getD j bJ).1) (li:(es.getD i bJ).1.length≤500) :
  Calls Tryz.prog 175 #[hv,.int .i64 i,.int .i64 j] w fun e w'=>e=.returned (.bool (decide (code (es.getD i bJ).1<code (es.getD j bJ).1)))∧∃n,w'=w.drewN n:=by
 obtain ⟨g,cap,e,hcap⟩:=h.slice (by omega);obtain ⟨u,hu⟩:∃u,u=(es.getD i bJ).1:=⟨_,rfl⟩
 obtain ⟨v,hv'⟩:∃v,v=(es.getD j bJ).1:=⟨_,rfl⟩
 have ii:=h.inAt hi;have ij:=h.inAt hj;have ci:=h.get (g:=g) (c:=0) (by rw [e];rfl) hi (by omega);have cj:=h.get (g:=g) (c:=0) (by rw [e];rfl) hj (by omega);subst e;rw [←hu] at ii di li;rw [←hv'] at ij dj;obtain ⟨ai,cci,ei,hii,_⟩:=ii;obtain ⟨aj,ccj,ej,hij,_⟩:=ij;have ci':w.cell? ⟨g,i*4,none⟩=some (.slice ai u.length cci):=by rw [show i*4=i*4+0 by omega,ci];show some (es.getD i bJ).2=_;rw [ei]
 have cj':w.cell? ⟨g,j*4,none⟩=some (.slice aj v.length ccj):=by rw [show j*4=j*4+0 by omega,cj];show some (es.getD j bJ).2=_;rw [ej]
 rw [←hu,←hv'];have i0:(0:Int)≤(i:Int):=by omega
 have j0:(0:Int)≤(j:Int):=by omega
 have i1:(i:Int)<(es.length:Int):=by omega
 have j1:(j:Int)<(es.length:Int):=by omega
 clear ci cj ei ej hu hv' h
 by_cases hl:u.length=v.length
 ·have hne:((u.length:Int) != (v.length:Int))=false:=by simp [hl]
  have HL:Hid (u.length=v.length):=hl;clear hl
  go_enter Tryz.func175,Tryz.ntmps175
  go_wp2
  go_quiet (fail)
  rename_i nq
  have sc:=oV ai aj cci ccj u v (w.drewN nq) HL.out (by omega) di dj (hii.below (below_drewN (Below.refl _ _) nq)) (hij.below (below_drewN (Below.refl _ _) nq));obtain ⟨cm,hcm⟩:∃cm,cm=cmpL u v:=⟨_,rfl⟩
  rw [←hcm] at sc;have HC:Hid (cm=cmpL u v):=hcm;clear hcm
  by_cases hc:code u<code v
  ·have e1:cm=-1:=by rw [HC.out];simp [cmpL,hc]
   subst e1
   go_wp2_with fail
   refine sc.mono ?_;rintro e w' ⟨rfl,hw⟩;have hw:=hw.symm;subst hw;go_wp2
   go_ret
   exact ⟨aU (decide_eq_true hc).symm,nq,rfl⟩
  ·have e1:cm=0∨cm=1:=by rw [HC.out];unfold cmpL;rw [if_neg hc];split<;>simp
   rcases e1 with e1 | e1<;>subst e1
   all_goals
    go_wp2_with fail
    refine sc.mono ?_;rintro e w' ⟨rfl,hw⟩;have hw:=hw.symm;subst hw;go_wp2
    go_ret
    exact ⟨aU (decide_eq_false hc).symm,nq,rfl⟩
 ·have hne:((u.length:Int) != (v.length:Int))=true:=by simp;omega
  rcases Nat.lt_or_ge u.length v.length with hlt | hge
  ·have hltI:(u.length:Int)<(v.length:Int):=by omega
   have hc:=pE di dj hlt;clear hl
   go_enter Tryz.func175,Tryz.ntmps175
   go_wp2
   go_quiet (fail)
   rename_i nq
   go_wp2
   go_ret
   exact ⟨aU (decide_eq_true hc).symm,nq,rfl⟩
  ·have hltI:¬(u.length:Int)<(v.length:Int):=by omega
   have hltN:¬u.length<v.length:=(by omega)
   have hc:=pE dj di (by omega);clear hl
   go_enter Tryz.func175,Tryz.ntmps175
   go_wp2
   go_quiet (fail)
   rename_i nq
   go_wp2
   go_ret
   exact ⟨aU (decide_eq_false (show ¬code u<code v by omega)).symm,nq,rfl⟩
def setW (w:World) (g k:Nat) (v:Value) (a b d:Nat):World:=(((w.setCell ⟨g,k,none⟩ v).setCell ⟨g,k+1,none⟩ (.int .i64 (a:Int))).setCell ⟨g,k+2,none⟩ (.int .i64 (b:Int))).setCell ⟨g,k+3,none⟩ (.int .i64 (d:Int))
theorem oR (w:World) (g k:Nat) (v:Value) (a b d:Nat):Keeps (fun q=>q=g) w (setW w g k v a b d):=by
 refine ⟨rfl,rfl,rfl,?_,fun q _ hq=>?_⟩
 ·unfold setW;simp only [Deep.nblk_setCell];exact Nat.le_refl _
 ·unfold setW
  rw [Deep.blk_setCell_other _ _ _ _ hq,Deep.blk_setCell_other _ _ _ _ hq,Deep.blk_setCell_other _ _ _ _ hq,Deep.blk_setCell_other _ _ _ _ hq]
theorem aGS (w:World) (g k:Nat) (v:Value) (a b d:Nat):(setW w g k v a b d).heap.size=w.heap.size:=by unfold setW;simp only [Deep.nblk_setCell]
theorem aIW {w:World}{base e size g len cap:Nat}{xs:List Value}(h:w.ownsRow base e size (.slice (some ⟨g,0,none⟩) len cap) len xs) (k:Nat) (v:Value) (a b d:Nat) :
  (setW w g k v a b d).ownsRow base e size (.slice (some ⟨g,0,none⟩) len cap) len (set4 xs k v (.int .i64 (a:Int)) (.int .i64 (b:Int)) (.int .i64 (d:Int))):=by
 have o1:=(h.stored k v).1;have o2:=(o1.stored (k+1) (.int .i64 (a:Int))).1;have o3:=(o2.stored (k+2) (.int .i64 (b:Int))).1
 exact (o3.stored (k+3) (.int .i64 (d:Int))).1
theorem WaysAt.drew {M:Duo}{B P:Nat}{w:World}{hv:Value}{es:List (List Nat×Value)}(h:WaysAt M B w P hv es):WaysAt M B w.drew P hv es :=
 ⟨h.lo,h.lt,h.cell,h.frz,h.own,h.ap,fun e he=>(h.ins e he).below ((Below.refl _ _).drew)⟩
theorem WaysAt.put {M:Duo}{B P:Nat}{w:World}{hv:Value}{es:List (List Nat×Value)}(h:WaysAt M B w P hv es){g i:Nat}(hg:hv.ownBlock=some g) (hi:i<es.length) (e:List Nat×Value) (he:InAt w (inX B P hv) e.2 e.1) :
  WaysAt M B (setW w g (i*4) e.2 (M.run e.1).1 (M.run e.1).2 (M.difL e.1)) P hv (es.set i e):=by
 obtain ⟨g',cap,rfl,_⟩:=h.slice (by omega);obtain rfl:g'=g:=by simpa [Value.ownBlock] using hg
 have K:=oR w g' (i*4) e.2 (M.run e.1).1 (M.run e.1).2 (M.difL e.1);have hPg:P≠g':=fun e=>h.ap (by rw [e];rfl)
 have o4:=aIW h.own (i*4) e.2 (M.run e.1).1 (M.run e.1).2 (M.difL e.1);rw [aJ5 M es i e hi] at o4;obtain ⟨w',hw'⟩:∃w',w'=setW w g' (i*4) e.2 (M.run e.1).1 (M.run e.1).2 (M.difL e.1):=⟨_,rfl⟩
 have hsz:w'.heap.size=w.heap.size:=by rw [hw'];exact aGS _ _ _ _ _ _ _
 rw [←hw'] at K o4 ⊢;clear hw';have hblk:=K.block P h.lt hPg;refine ⟨h.lo,by rw [hsz];exact h.lt,(World.cell?_of_block (w:=w) hblk).trans h.cell,(World.frozen?_of_block (w:=w) hblk).trans h.frz,?_,h.ap,fun x hx=>?_⟩
 ·rw [List.length_set]
  exact o4
 ·have hX:∀k,(fun q=>q=g') k→inX B P (.slice (some ⟨g',0,none⟩) es.length cap) k:=fun k hk=>.inl (.inr (by rw [show k=g' from hk];rfl))
  rcases List.mem_or_eq_of_mem_set hx with hx | rfl
  ·exact (h.ins x hx).keeps K hX
  ·exact he.keeps K hX
def jY (es:List (List Nat×Value)) (i j:Nat):List (List Nat×Value):=(es.set i (es.getD j bJ)).set j (es.getD i bJ)
theorem sW (es:List (List Nat×Value)) (i j:Nat):(jY es i j).length=es.length:=by simp [jY]
theorem nW (M:Duo) (B P:Nat) (hv:Value) (es:List (List Nat×Value)) (i j:Nat) (w:World) (h:WaysAt M B w P hv es) (hi:i<es.length) (hj:j<es.length) (hn:es.length≤10000) :
  Calls Tryz.prog 178 #[hv,.int .i64 i,.int .i64 j] w fun e w'=>e=.returned (.tuple #[])∧WaysAt M B w' P hv (jY es i j)∧Keeps (aR P hv) w w':=by
 obtain ⟨g,cap,e,hcap⟩:=h.slice (by omega);have hg:hv.ownBlock=some g:=by rw [e];rfl
 have cell:∀k c x,k<es.length→c<4→(wayL M (es.getD k bJ))[c]?=some x→w.cell? ⟨g,k*4+c,none⟩=some x:=fun k c x hk hc hx=>(h.get hg hk hc).trans hx
 obtain ⟨ei,hei⟩:∃ei,ei=es.getD i bJ:=⟨_,rfl⟩
 obtain ⟨ej,hej⟩:∃ej,ej=es.getD j bJ:=⟨_,rfl⟩
 obtain ⟨vi,hvi⟩:∃vi,vi=ei.2:=⟨_,rfl⟩
 obtain ⟨vj,hvj⟩:∃vj,vj=ej.2:=⟨_,rfl⟩
 obtain ⟨ai,hai⟩:∃x:Nat,x=(M.run ei.1).1:=⟨_,rfl⟩
 obtain ⟨bi,hbi⟩:∃x:Nat,x=(M.run ei.1).2:=⟨_,rfl⟩
 obtain ⟨di,hdi⟩:∃x:Nat,x=M.difL ei.1:=⟨_,rfl⟩
 obtain ⟨aj,haj⟩:∃x:Nat,x=(M.run ej.1).1:=⟨_,rfl⟩
 obtain ⟨bj,hbj⟩:∃x:Nat,x=(M.run ej.1).2:=⟨_,rfl⟩
 obtain ⟨dj,hdj⟩:∃x:Nat,x=M.difL ej.1:=⟨_,rfl⟩
 have ci0:w.cell? ⟨g,i*4,none⟩=some vi:=cell i 0 vi hi (by omega) (by rw [←hei,hvi];rfl);have ci1:w.cell? ⟨g,i*4+1,none⟩=some (.int .i64 ai):=cell i 1 _ hi (by omega) (by rw [←hei,hai];rfl);have ci2:w.cell? ⟨g,i*4+2,none⟩=some (.int .i64 bi):=cell i 2 _ hi (by omega) (by rw [←hei,hbi];rfl);have ci3:w.cell? ⟨g,i*4+3,none⟩=some (.int .i64 di):=cell i 3 _ hi (by omega) (by rw [←hei,hdi];rfl);have cj0:w.cell? ⟨g,j*4,none⟩=some vj:=cell j 0 vj hj (by omega) (by rw [←hej,hvj];rfl);have cj1:w.cell? ⟨g,j*4+1,none⟩=some (.int .i64 aj):=cell j 1 _ hj (by omega) (by rw [←hej,haj];rfl);have cj2:w.cell? ⟨g,j*4+2,none⟩=some (.int .i64 bj):=cell j 2 _ hj (by omega) (by rw [←hej,hbj];rfl);have cj3:w.cell? ⟨g,j*4+3,none⟩=some (.int .i64 dj):=cell j 3 _ hj (by omega) (by rw [←hej,hdj];rfl);have i0:(0:Int)≤(i:Int):=by omega
 have j0:(0:Int)≤(j:Int):=by omega
 have i1:(i:Int)<(es.length:Int):=by omega
 have j1:(j:Int)<(es.length:Int):=by omega
 have fz:∀k,w.frozen? ⟨g,k,none⟩=false:=fun k=>by have:=h.own;rw [e] at this;exact this.frozenAt k
 have fi0:=fz (i*4);have fi1:=fz (i*4+1);have fi2:=fz (i*4+2);have fi3:=fz (i*4+3);clear fz;obtain ⟨avi,lvi,cvi,rfl⟩:∃a n c,vi=.slice a n c:=by have:=h.inAt hi;rw [←hei] at this;obtain ⟨a,c,e2,_⟩:=this;exact ⟨a,_,c,hvi.trans e2⟩
 obtain ⟨avj,lvj,cvj,rfl⟩:∃a n c,vj=.slice a n c:=by have:=h.inAt hj;rw [←hej] at this;obtain ⟨a,c,e2,_⟩:=this;exact ⟨a,_,c,hvj.trans e2⟩
 have hw0:=aI hvi;have hw1:=aI hvj;have hw2:=aI hai;have hw3:=aI hbi;have hw4:=aI hdi;have hw5:=aI haj;have hw6:=aI hbj;have hw7:=aI hdj;have hw8:=aI hei;have hw9:=aI hej;clear hvi hvj hai hbi hdi haj hbj hdj hei hej cell;subst e
 go_enter Tryz.func178,Tryz.ntmps178
 go_wp2_with fail
 refine wp_region_noPanic ?_;refine wp_region_any (by kernel_rfl) ?_;simp only [List.size_toArray,List.length_cons,List.length_nil,Nat.zero_add,Nat.reduceAdd];refine wpAny_take (i:=0) (v:=?_) (by simp only [List.getElem?_toArray,List.getElem?_cons_zero];rfl) (by kernel_rfl) (by kernel_rfl) (by kernel_rfl) (fun _ _ _ h=>h) (Or.inl ⟨by rfl,?_⟩) ?_
 rotate_left 1
 ·(intro w0;go_simp;try (with_reducible rfl))
 simp only [Act.put,sSet];refine wpAny_take (i:=1) (v:=?_) (by simp only [List.getElem?_toArray,List.getElem?_cons_succ,List.getElem?_cons_zero];rfl) (by kernel_rfl) (by kernel_rfl) (by kernel_rfl) (fun _ _ _ h=>h) (Or.inl ⟨by rfl,?_⟩) ?_
 rotate_left 1
 ·(intro w0;go_simp;try (with_reducible rfl))
 simp only [Act.put,sSet];refine wpAny_take (i:=2) (v:=?_) (by simp only [List.getElem?_toArray,List.getElem?_cons_succ,List.getElem?_cons_zero];rfl) (by kernel_rfl) (by kernel_rfl) (by kernel_rfl) (fun _ _ _ h=>h) (Or.inl ⟨by rfl,?_⟩) ?_
 rotate_left 1
 ·(intro w0;go_simp;try (with_reducible rfl))
 simp only [Act.put,sSet];refine wpAny_take (i:=3) (v:=?_) (by simp only [List.getElem?_toArray,List.getElem?_cons_succ,List.getElem?_cons_zero];rfl) (by kernel_rfl) (by kernel_rfl) (by kernel_rfl) (fun _ _ _ h=>h) (Or.inl ⟨by rfl,?_⟩) ?_
 rotate_left 1
 ·(intro w0;go_simp;try (with_reducible rfl))
 simp only [Act.put,sSet];refine wpAny_take (i:=4) (v:=?_) (by simp only [List.getElem?_toArray,List.getElem?_cons_succ,List.getElem?_cons_zero];rfl) (by kernel_rfl) (by kernel_rfl) (by kernel_rfl) (fun _ _ _ h=>h) (Or.inl ⟨by rfl,?_⟩) ?_
 rotate_left 1
 ·(intro w0;go_simp;try (with_reducible rfl))
 simp only [Act.put,sSet];refine wpAny_take (i:=5) (v:=?_) (by simp only [List.getElem?_toArray,List.getElem?_cons_succ,List.getElem?_cons_zero];rfl) (by kernel_rfl) (by kernel_rfl) (by kernel_rfl) (fun _ _ _ h=>h) (Or.inl ⟨by rfl,?_⟩) ?_
 rotate_left 1
 ·(intro w0;go_simp;try (with_reducible rfl))
 simp only [Act.put,sSet];refine wpAny_take (i:=6) (v:=?_) (by simp only [List.getElem?_toArray,List.getElem?_cons_succ,List.getElem?_cons_zero];rfl) (by kernel_rfl) (by kernel_rfl) (by kernel_rfl) (fun _ _ _ h=>h) (Or.inl ⟨by rfl,?_⟩) ?_
 rotate_left 1
 ·(intro w0;go_simp;try (with_reducible rfl))
 simp only [Act.put,sSet];refine wpAny_take (i:=8) (v:=?_) (by simp only [List.getElem?_toArray,List.getElem?_cons_succ,List.getElem?_cons_zero];rfl) (by kernel_rfl) (by kernel_rfl) (by kernel_rfl) (fun _ _ _ h=>h) (Or.inl ⟨by rfl,?_⟩) ?_
 rotate_left 1
 ·(intro w0;go_simp;try (with_reducible rfl))
 simp only [Act.put,sSet];refine wpAny_take (i:=9) (v:=?_) (by simp only [List.getElem?_toArray,List.getElem?_cons_succ,List.getElem?_cons_zero];rfl) (by kernel_rfl) (by kernel_rfl) (by kernel_rfl) (fun _ _ _ h=>h) (Or.inl ⟨by rfl,?_⟩) ?_
 rotate_left 1
 ·(intro w0;go_simp;try (with_reducible rfl))
 simp only [Act.put,sSet];refine wpAny_take (i:=10) (v:=?_) (by simp only [List.getElem?_toArray,List.getElem?_cons_succ,List.getElem?_cons_zero];rfl) (by kernel_rfl) (by kernel_rfl) (by kernel_rfl) (fun _ _ _ h=>h) (Or.inl ⟨by rfl,?_⟩) ?_
 rotate_left 1
 ·(intro w0;go_simp;try (with_reducible rfl))
 simp only [Act.put,sSet];have hS0:(fun w':World=>w'.cell? ⟨g,i*4,none⟩=some (.slice avi lvi cvi)∧w'.cell? ⟨g,i*4+1,none⟩=some (.int .i64 ai)∧w'.cell? ⟨g,i*4+2,none⟩=some (.int .i64 bi)∧w'.cell? ⟨g,i*4+3,none⟩=some (.int .i64 di)∧w'.cell? ⟨g,j*4,none⟩=some (.slice avj lvj cvj)∧w'.cell? ⟨g,j*4+1,none⟩=some (.int .i64 aj)∧w'.cell? ⟨g,j*4+2,none⟩=some (.int .i64 bj)∧w'.cell? ⟨g,j*4+3,none⟩=some (.int .i64 dj)) w.drew:=⟨ci0,ci1,ci2,ci3,cj0,cj1,cj2,cj3⟩
 refine vL (k:=13) (S:=fun w':World=>w'.cell? ⟨g,i*4,none⟩=some (.slice avi lvi cvi)∧w'.cell? ⟨g,i*4+1,none⟩=some (.int .i64 ai)∧w'.cell? ⟨g,i*4+2,none⟩=some (.int .i64 bi)∧w'.cell? ⟨g,i*4+3,none⟩=some (.int .i64 di)∧w'.cell? ⟨g,j*4,none⟩=some (.slice avj lvj cvj)∧w'.cell? ⟨g,j*4+1,none⟩=some (.int .i64 aj)∧w'.cell? ⟨g,j*4+2,none⟩=some (.int .i64 bj)∧w'.cell? ⟨g,j*4+3,none⟩=some (.int .i64 dj)) _ _ _ _ ?_;refine mF (i:=7) (v:=?_) (by simp only [List.getElem?_toArray,List.getElem?_cons_succ,List.getElem?_cons_zero];rfl) (by kernel_rfl) (by kernel_rfl) (by kernel_rfl) (by kernel_rfl) (by kernel_rfl) (by kernel_rfl) (fun _ _ _ h=>h) (Or.inl ⟨by rfl,?_⟩) hS0 ?_
 rotate_left 1
 ·(intro w0 hSw;(try dsimp only at hSw);go_simp;try (with_reducible rfl))
 simp only [Act.put,sSet];refine mF (i:=11) (v:=?_) (by simp only [List.getElem?_toArray,List.getElem?_cons_succ,List.getElem?_cons_zero];rfl) (by kernel_rfl) (by kernel_rfl) (by kernel_rfl) (by kernel_rfl) (by kernel_rfl) (by kernel_rfl) (fun _ _ _ h=>h) (Or.inl ⟨by rfl,?_⟩) hS0 ?_
 rotate_left 1
 ·(intro w0 hSw;(try dsimp only at hSw);go_simp;try (with_reducible rfl))
 simp only [Act.put,sSet];refine mF (i:=12) (v:=?_) (by simp only [List.getElem?_toArray,List.getElem?_cons_succ,List.getElem?_cons_zero];rfl) (by kernel_rfl) (by kernel_rfl) (by kernel_rfl) (by kernel_rfl) (by kernel_rfl) (by kernel_rfl) (fun _ _ _ h=>h) (Or.inl ⟨by rfl,?_⟩) hS0 ?_
 rotate_left 1
 ·(intro w0 hSw;(try dsimp only at hSw);go_simp;try (with_reducible rfl))
 simp only [Act.put,sSet];refine aCI (by kernel_rfl) (by simp only [List.getElem?_toArray,List.getElem?_cons_succ,List.getElem?_cons_zero];rfl) (fun K hK=>?_);go_simp;refine hK _ _ ?_;clear hK K;have hin:=h.inAt hj;rw [←hw9.out] at hin;have h4:=h.put hg hi ej hin;rw [←hw1.out,←hw5.out,←hw6.out,←hw7.out] at h4;obtain ⟨W4,hW4⟩:∃W4,W4=setW w g (i*4) (.slice avj lvj cvj) aj bj dj:=⟨_,rfl⟩
 rw [←hW4] at h4;have K4:Keeps (fun q=>q=g) w W4:=by rw [hW4];exact oR _ _ _ _ _ _ _
 unfold setW at hW4;rw [←hW4];clear hW4;have hlen:(es.set i ej).length=es.length:=by simp
 have cell:∀c,c<4→∃x,W4.cell? ⟨g,j*4+c,none⟩=some x:=fun c hc=>by
  rw [h4.get hg (by omega) hc]
  exact ⟨_,List.getElem?_eq_getElem (by simp [wayL];omega)⟩
 obtain ⟨x0,hx0⟩:=cell 0 (by omega);obtain ⟨x1,hx1⟩:=cell 1 (by omega);obtain ⟨x2,hx2⟩:=cell 2 (by omega);obtain ⟨x3,hx3⟩:=cell 3 (by omega);rw [Nat.add_zero] at hx0;have own4:=h4.own;rw [hlen] at own4;have fj0:W4.frozen? ⟨g,j*4,none⟩=false:=own4.frozenAt _;have fj1:W4.frozen? ⟨g,j*4+1,none⟩=false:=own4.frozenAt _;have fj2:W4.frozen? ⟨g,j*4+2,none⟩=false:=own4.frozenAt _;have fj3:W4.frozen? ⟨g,j*4+3,none⟩=false:=own4.frozenAt _;clear own4 cell ci0 ci1 ci2 ci3 cj0 cj1 cj2 cj3 hS0 fi0 fi1 fi2 fi3;refine wpAny_take (i:=14) (v:=?_) (by simp only [List.getElem?_toArray,List.getElem?_cons_succ,List.getElem?_cons_zero];rfl) (by kernel_rfl) (by kernel_rfl) (by kernel_rfl) (fun _ _ _ h=>h) (Or.inl ⟨by rfl,?_⟩) ?_
 rotate_left 1
 ·(intro w0;go_simp;try (with_reducible rfl))
 simp only [Act.put,sSet];refine aEX (i:=15) (by kernel_rfl) (by simp only [List.getElem?_toArray,List.getElem?_cons_succ,List.getElem?_cons_zero];rfl) (fun K hK=>?_);go_simp;refine hK _ _ ?_;clear hK K;refine wpAny_done (by kernel_rfl) ?_ _;refine NoPanic.normal ?_;have hin2:=(h.inAt hi).keeps K4 (fun k hk=>.inl (.inr (by rw [show k=g from hk];rfl)));rw [←hw8.out] at hin2;have h5:=h4.put hg (show j<(es.set i ej).length by rw [hlen];exact hj) ei hin2;rw [←hw0.out,←hw2.out,←hw3.out,←hw4.out] at h5;have K5:=K4.trans (oR W4 g (j*4) (.slice avi lvi cvi) ai bi di);have hsw:(es.set i ej).set j ei=jY es i j:=by unfold jY;rw [←hw8.out,←hw9.out]
 rw [hsw] at h5;go_wp2
 go_end0
 exact ⟨rfl,h5.drew,(K5.mono (fun k _ hk=>.inr (by rw [show k=g from hk];rfl))).drewR⟩
end Go.Proofs.YtgpaajdfkekjiaaGreatDoor
