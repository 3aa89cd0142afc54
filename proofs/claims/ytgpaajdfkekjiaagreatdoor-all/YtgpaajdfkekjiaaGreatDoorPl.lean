/-
  A part of the proof of the statement All: texts of ours, made small by program (blanks, names).
-/
import Derived.Test.YtgpaajdfkekjiaaGreatDoorPg
import Derived.Test.YtgpaajdfkekjiaaGreatDoorPk
import Derived.Test.YtgpaajdfkekjiaaGreatDoorPa
import Derived.WalkKit
import Derived.Deep.AppendLies
import Derived.Deep.DeepAppendRoom
import Derived.ArgAppend
import Derived.Deep.OwnRows
import Derived.Test.YtgpaajdfkekjiaaGreatDoorPd
import Derived.Laws.FloatArith
namespace Go.Proofs.YtgpaajdfkekjiaaGreatDoor
set_option maxHeartbeats 8000000
set_option maxRecDepth 100000
open Go.RowKit
theorem aDZ (n steps:Nat) (la ga oa:Option Addr) (lc gc oc:Nat) (ls gs:List (Int×Int)) (os:List Int) (w:World) (hr:aG n ls gs os=true) (h1:1≤steps) (h10:steps≤10) (hL:PairsAt w la ls) (hG:PairsAt w ga gs) (hO:IntsAt w oa os) :
  Calls Tryz.prog 29 #[.agg #[.int .i64 n,.slice la ls.length lc,.slice ga gs.length gc,.slice oa os.length oc],.int .i64 steps] w fun e w'=>∃g,e=.returned (.tuple #[.slice (some ⟨g,0,none⟩) os.length os.length,.int .i64 0])∧w'.ownsRow w.heap.size 106 1 (.slice (some ⟨g,0,none⟩) os.length os.length) os.length (pW (chL n ls gs os steps))∧Below w.heap.size w w':=by
 obtain ⟨W2,hW2⟩:∃W2,W2=w.alloc (.cells #[.int .i64 n,.slice la ls.length lc,.slice ga gs.length gc,.slice oa os.length oc] 34):=⟨_,rfl⟩
 have s2:W2.heap.size=w.heap.size+1:=by rw [hW2];simp
 have B2:Below w.heap.size w W2:=by rw [hW2];exact (Below.refl _ _).alloc (Nat.le_refl _) _
 have bC2:W2.heap[w.heap.size]?=some (.cells #[.int .i64 n,.slice la ls.length lc,.slice ga gs.length gc,.slice oa os.length oc] 34 (0,0)):=by rw [hW2];exact aB _ _ _ rfl
 obtain ⟨q0,q1,q2,q3⟩:=aK bC2;have rg:=cI (lc:=lc) (gc:=gc) (oc:=oc) W2 (hL.below B2) (hG.below B2) (hO.below B2) hr;obtain ⟨⟨_,hn4',hl4,ho4,hg30⟩,hokl,hgat,hout⟩:=cD hr;have hn4:n≤4:=by omega
 have hinit:=hidK (show ∀i,i<ls.length→inB (ls.getD i (0,0)).2 1=true from fun i h=>by have:=hokl i h;simp only [cJ,Bool.and_eq_true] at this;exact this.2);have hnext:=hidK (show ∀i,i<ls.length→inB (ls.getD i (0,0)).1 (2*(n+ls.length+gs.length)+1)=true from fun i h=>by have:=hokl i h;simp only [cJ,Bool.and_eq_true] at this;exact this.1);have HG9:=hidK hgat;have HO9:=hidK hout;have t1:decide ((steps:Int)<1)=false:=by simp;omega
 have t2:decide ((10:Int)<(steps:Int))=false:=by simp;omega
 obtain ⟨m,hm⟩:∃m,steps=m+1:=⟨steps - 1,by omega⟩
 have HM:=hidK hm;clear hokl hgat hout hr hn4' hm
 go_enter Tryz.func29,Tryz.ntmps29
 go_upto_region 1 with fail
 rw [←hW2];clear hW2
 go_wp2_with fail
 refine rg.mono ?_;rintro e W3 ⟨rfl,b3⟩;have B3:Below w.heap.size w W3:=B2.trans (b3.mono B2.size);have s3:=b3.size;have bC3:=(b3.block w.heap.size (by omega)).trans bC2;clear rg q0 q1 q2 q3 bC2;obtain ⟨q0,q1,q2,q3⟩:=aK bC3;have call:=chOf n m steps la ga oa lc gc oc ls gs os W3 HM.out (by have:=HM.out;omega) hn4 hl4 hg30 ho4 (hL.below B3) (hG.below B3) (hO.below B3) HG9.out hnext.out HO9.out hinit.out
 go_wp2_with fail
 refine call.mono ?_;rintro e W4 ⟨g,rfl,hg,r4,b4⟩;have own:=hidK (aL1 (base:=w.heap.size) (xs:=chL n ls gs os steps) r4 (by omega) (by omega) (vR n ls gs os steps) (fun i hi=>by
  unfold ovf;rw [show m=steps - 1 by have:=HM.out;omega]
  simp [chL,hi]))
 clear call q0 q1 q2 q3 r4;go_wp2
 go_ret2
 exact ⟨g,rfl,own.out,B3.trans (b4.mono B3.size)⟩
def Marked (E:TypeId) (sz:Nat) (f:Nat→Value) (w:World) (v:Value) (n r:Nat):Prop :=
 (v=.slice none 0 0∧n=0∧r=0)∨∃g cap cur,v=.slice (some ⟨g,0,none⟩) n cap∧w.heap[g]?=some (.cells cur E (0,0))∧n≤r∧r≤cap∧cap≤maxLen∧cur.size=cap*sz∧∀i,i<r*sz→cur[i]?=some (f i)
def bF (f:Nat→Value) (k:Nat):List Value:=(List.range k).map f
theorem eC (f:Nat→Value) (k:Nat):(bF f k).length=k:=by simp [bF]
theorem eT {f:Nat→Value}{k j:Nat}(h:j<k):(bF f k)[j]?=some (f j):=by simp [bF,h]
theorem Marked.own {E:TypeId}{sz:Nat}{f:Nat→Value}{w:World}{v:Value}{n r:Nat}(h:Marked E sz f w v n r):w.ownsRow 0 E sz v n (bF f (n*sz)):=by
 refine ⟨eC _ _,?_⟩
 rcases h with ⟨h1,h2,_⟩ | ⟨g,cap,cur,hv,hg,hnr,hrc,hm,hs,hc⟩
 ·exact .inl ⟨h1,h2⟩
 ·refine .inr ⟨g,cap,cur,hv,Nat.zero_le _,hg,Nat.le_trans hnr hrc,hm,hs,?_⟩
  have h1:n*sz≤r*sz:=Nat.mul_le_mul_right _ hnr;have h2:r*sz≤cap*sz:=Nat.mul_le_mul_right _ hrc
  apply List.ext_getElem?
  intro i
  by_cases hi:i<n*sz
  ·rw [List.getElem?_take_of_lt hi,eT hi]
   have:=hc i (by omega)
   simpa using this
  ·rw [List.getElem?_eq_none (by simp;omega),List.getElem?_eq_none (by rw [eC];omega)]
theorem Marked.block {E:TypeId}{sz:Nat}{f:Nat→Value}{w w':World}{v:Value}{n r:Nat}(h:Marked E sz f w v n r) (hb:∀g,v.ownBlock=some g→w'.heap[g]?=w.heap[g]?):Marked E sz f w' v n r:=by
 rcases h with h | ⟨g,cap,cur,hv,hg,hrest⟩
 ·exact .inl h
 ·exact .inr ⟨g,cap,cur,hv,by rw [hb g (by rw [hv];rfl)];exact hg,hrest⟩
theorem Marked.cell {E:TypeId}{sz:Nat}{f:Nat→Value}{w:World}{v:Value}{n r g i:Nat}(h:Marked E sz f w v n r) (hv:v.ownBlock=some g) (hi:i<r*sz):w.cell? ⟨g,i,none⟩=some (f i):=by
 rcases h with ⟨h,_⟩ | ⟨g',cap,cur,hv',hg,_,_,_,_,hc⟩
 ·rw [h] at hv;cases hv
 ·rw [hv'] at hv
  simp only [Value.ownBlock,Option.some.injEq] at hv;subst hv;rw [cell_of_row w g' i cur E (0,0) hg]
  exact hc i hi
theorem Marked.lt {E:TypeId}{sz:Nat}{f:Nat→Value}{w:World}{v:Value}{n r g:Nat}(h:Marked E sz f w v n r) (hv:v.ownBlock=some g):g<w.heap.size:=by
 exact (h.own.lt g hv).2
def aCJ (sz:Nat) (f:Nat→Value) (w w':World) (v:Value) (k r' g':Nat):Prop :=
 (v.ownBlock=some g'∧k≤r')∨(w.heap.size≤g'∧g'<w'.heap.size∧∀i,i<k*sz→w'.cell? ⟨g',i,none⟩=some (f i))
theorem aO {P:Program}(w:World){ops:Array Oper}{rest:List Oper}{o:Oper}{a:Act}{Q:Exit→Act→World→Prop}(hgd:o.guard=none) (s x:Operand) (t:TypeId)
  (ho:o.op=.call { callee:=.builtin .append,args:=#[s,x],argTypes:=#[t,t] })
  (E:TypeId) (i:TypeInfo) (z:Value) (sz bytes:Nat) (ht:P.underlying t=some (.slice E)) (hi:P.info? E=some i) (hz:i.zero=some z)
  (hsize:i.size=sz) (hby:i.bytes=bytes) (hzs:z.cells.size=sz) (hsz:0<sz) (f:Nat→Value)
  (v:Value) (n r:Nat) (hs:a.eval s=v) (hM:Marked E sz f w v n r)
  (ad:Addr) (m c:Nat) (news:List Value) (hx:a.eval x=.slice (some ad) m c) (hl:news.length=m*sz) (hnews:∀j u,news[j]?=some u→w.cell? (ad.add j)=some u) (h1:∀u∈news,u.oneCell'=true)
  (hf:bF f (n*sz)++ news=bF f ((n+m)*sz)) (hm:0<m) (hr:r≤n+m) (h63:n+m≤maxLen) (hbytes:(n+m)*bytes≤140737488355328)
  (h:∀g' cap' w' r',r≤r'→r'≤n+m→Marked E sz f w' v n r'→w.grownBy w' v.ownBlock→aCJ sz f w w' v (n+m) r' g'→wpList P ops Q rest (a.put o.dst (.slice (some ⟨g',0,none⟩) (n+m) cap')) w'):wpList P ops Q (o :: rest) a w:=by
 have hown:=hM.own
 rcases hM with ⟨hv,hn,hr0⟩ | ⟨g,cap,cur,hv,hg,hnr,hrc,hmx,hcs,hc⟩
 ·subst hv hn hr0
  refine wpList_append_grows (P:=P) w hgd s x t ho E i z sz bytes ht hi hz hsize hby hzs hsz none 0 0 (bF f (0*sz)) hs (fun _=>⟨rfl,rfl⟩) (eC _ _) (fun b e=>by cases e) ad m c news hx hl hnews h1 (by omega) h63 hbytes (fun v' w' own' grow'=>?_);obtain ⟨g',cap',rfl,hge,hlt⟩:=own'.form (by omega);refine h g' cap' w' 0 (Nat.le_refl _) (by omega) (.inl ⟨rfl,rfl,rfl⟩) grow' (.inr ⟨hge,hlt,fun j hj=>?_⟩);rw [own'.cellAt j hj,hf,eT hj]
 ·subst hv
  by_cases hroom:n+m≤cap
  ·refine wpList_append_own_spare (P:=P) w hgd s x t ho 0 E i sz ht hi hsize g n cap _ hs hown ad m c news hx hl hnews h1 hroom (fun w' own' grow'=>?_)
   have hk:∃cur',w'.heap[g]?=some (.cells cur' E (0,0))∧cur'.size=cap*sz∧cur'.toList.take ((n+m)*sz)=bF f ((n+m)*sz):=by
    rcases own'.2 with ⟨hh,_⟩ | ⟨g2,cap2,cur2,hv2,_,hg2,_,_,hcs2,ht2⟩
    ·cases hh
    ·simp only [Value.slice.injEq,Option.some.injEq,Addr.mk.injEq,and_true,true_and] at hv2
     obtain ⟨rfl,rfl⟩:=hv2
     exact ⟨cur2,hg2,hcs2,by rw [ht2,hf]⟩
   obtain ⟨cur',hg',hcs',ht'⟩:=hk;refine h g cap w' (n+m) hr (Nat.le_refl _) (.inr ⟨g,cap,cur',rfl,hg',by omega,hroom,hmx,hcs',fun j hj=>?_⟩) grow' (.inl ⟨rfl,Nat.le_refl _⟩);have:=congrArg (fun l=>l[j]?) ht';simp only [List.getElem?_take_of_lt hj,eT hj] at this
   simpa using this
  ·refine wpList_append_grows (P:=P) w hgd s x t ho E i z sz bytes ht hi hz hsize hby hzs hsz (some ⟨g,0,none⟩) n cap (bF f (n*sz)) hs (fun e=>by cases e) (eC _ _)
    (fun b e j u hj=>by
     injection e with e
     subst e
     exact hown.cells (g:=g) rfl j u hj) ad m c news hx hl hnews h1 (by omega) h63 hbytes (fun v' w' own' grow'=>?_)
   obtain ⟨g',cap',rfl,hge,hlt⟩:=own'.form (by omega);have hlg:g<w.heap.size:=(Array.getElem?_eq_some_iff.1 hg).1;refine h g' cap' w' r (Nat.le_refl _) hr (.inr ⟨g,cap,cur,rfl,by rw [grow'.block g hlg (by simp)];exact hg,hnr,hrc,hmx,hcs,hc⟩) ⟨grow'.os,grow'.tape,grow'.output,grow'.size,fun k hk _=>grow'.block k hk (by simp)⟩ (.inr ⟨hge,hlt,fun j hj=>?_⟩);rw [own'.cellAt j hj,hf,eT hj]
end Go.Proofs.YtgpaajdfkekjiaaGreatDoor
namespace Go.Proofs.YtgpaajdfkekjiaaGreatDoor
set_option maxHeartbeats 8000000
set_option maxRecDepth 100000
open Go.RowKit
def Entry.Good2 (R:Nat→Nat) (sz:Nat) (w:World) (f:Nat→Value) (e:Entry):Prop :=
 e.len=0∨∃b,e.a=some ⟨b,0,none⟩∧R b=5∧b<w.heap.size∧∀i,i<e.len*sz→w.cell? ⟨b,i,none⟩=some (f i)
structure Slot (R:Nat→Nat) (w:World) (P c:Nat) (T:TypeId) (sz:Nat) (mk:Nat→Nat→Value) (hv:Value) (es:List Entry):Prop where
 cell:w.cell? ⟨P,c,none⟩=some hv
 own:w.ownsRow 0 T 1 hv es.length (es.map Entry.val)
 hb:∀q,hv.ownBlock=some q→R q=c+1
 good:∀k,(h:k<es.length)→es[k].len≤1000∧Entry.Good2 R sz w (mk (k / 4)) es[k]
theorem Slot.keeps {R:Nat→Nat}{w w':World}{P c:Nat}{T:TypeId}{sz:Nat}{mk:Nat→Nat→Value}{hv:Value}{es:List Entry}(h:Slot R w P c T sz mk hv es) (hP:R P=0) (hlt:P<w.heap.size) (hc:c<4) (hs:w.heap.size≤w'.heap.size)
  (hk:∀k,k<w.heap.size→R k<6→w'.heap[k]?=w.heap[k]?):Slot R w' P c T sz mk hv es:=by
 refine ⟨?_,?_,h.hb,fun k hk'=>?_⟩
 ·rw [World.cell?_of_block (w:=w) (hk P hlt (by omega))];exact h.cell
 ·refine ⟨h.own.1,?_⟩
  rcases h.own.2 with h' | ⟨g,cap,cur,hv',hbg,hr,hrest⟩
  ·exact .inl h'
  ·have hg:hv.ownBlock=some g:=by rw [hv'];rfl
   exact .inr ⟨g,cap,cur,hv',hbg,by rw [hk g (h.own.lt g hg).2 (by rw [h.hb g hg];omega)];exact hr,hrest⟩
 ·obtain ⟨l1,gd⟩:=h.good k hk'
  refine ⟨l1,?_⟩
  rcases gd with h0 | ⟨b,hb,rb,blt,hcell⟩
  ·exact .inl h0
  ·exact .inr ⟨b,hb,rb,by omega,fun i hi=>(World.cell?_of_block (w:=w) (hk b blt (by omega))).trans (hcell i hi)⟩
def Entry.New2 (ab:Option Nat) (sz:Nat) (w0 w:World) (f:Nat→Value) (e:Entry):Prop :=
 e.len≤1000∧(e.len=0∨∃b,e.a=some ⟨b,0,none⟩∧(ab=some b∨w0.heap.size≤b)∧b<w.heap.size∧∀i,i<e.len*sz→w.cell? ⟨b,i,none⟩=some (f i))
def fW (R:Nat→Nat) (c g':Nat) (ab:Option Nat) (lo hi:Nat) (k:Nat):Nat:=if k=g' then c+1 else if ab=some k∨(lo≤k∧k<hi) then 5 else R k
structure Grows (R:Nat→Nat) (w w3 w4:World) (P c:Nat) (T:TypeId) (sz:Nat) (mk:Nat→Nat→Value) (hv:Value) (es news:List Entry) (ab:Option Nat) (j g' cap':Nat):Prop where
 sl:Slot R w P c T sz mk hv es
 hP:R P=0
 hlt:P<w.heap.size
 hc:c<4
 hR:∀k,R k<6→k<w.heap.size
 hj:es.length=4*j
 hab:∀b,ab=some b→6≤R b∧b<w.heap.size
 K3:Keeps (fun k=>ab=some k) w w3
 hnl:news.length=4
 hnews:∀e∈news,Entry.New2 ab sz w w3 (mk j) e
 own4:w4.ownsRow 0 T 1 (.slice (some ⟨g',0,none⟩) (4*j+4) cap') (4*j+4) (es.map Entry.val++news.map Entry.val)
 grow4:w3.grownBy w4 hv.ownBlock
 hat:hv.ownBlock=some g'∨g'=w3.heap.size
section
variable {R:Nat→Nat}{w w3 w4:World}{P c:Nat}{T:TypeId}{sz:Nat}{mk:Nat→Nat→Value}{hv:Value}{es news:List Entry}{ab:Option Nat}{j g' cap':Nat}
theorem Grows.gne (h:Grows R w w3 w4 P c T sz mk hv es news ab j g' cap'):(R g'=c+1∧g'<w.heap.size)∨w.heap.size≤g':=by
 rcases h.hat with e | e
 ·exact .inl ⟨h.sl.hb g' e,(h.sl.own.lt g' e).2⟩
 ·have:=h.K3.size;exact .inr (by omega)
theorem Grows.glt (h:Grows R w w3 w4 P c T sz mk hv es news ab j g' cap'):g'<w4.heap.size:=(h.own4.lt g' rfl).2
theorem Grows.blk (h:Grows R w w3 w4 P c T sz mk hv es news ab j g' cap') (k:Nat) (hk:k<w.heap.size) (h1:R k≠c+1) (h2:ab≠some k):w4.heap[k]?=w.heap[k]?:=by
 rw [h.grow4.block k (by have:=h.K3.size;omega) (fun e=>h1 (h.sl.hb k e.symm))]
 exact h.K3.block k hk h2
theorem Grows.blk3 (h:Grows R w w3 w4 P c T sz mk hv es news ab j g' cap') (k:Nat) (hk:k<w3.heap.size) (h1:R k≠c+1):w4.heap[k]?=w3.heap[k]? :=
 h.grow4.block k hk (fun e=>h1 (h.sl.hb k e.symm))
theorem Grows.Pg (h:Grows R w w3 w4 P c T sz mk hv es news ab j g' cap'):P≠g':=fun e=>by
 rcases h.gne with ⟨h1,_⟩ | h1
 ·rw [←e,h.hP] at h1;omega
 ·have:=h.hlt;omega
theorem Grows.Pa (h:Grows R w w3 w4 P c T sz mk hv es news ab j g' cap'):ab≠some P:=fun e=>by
 have:=(h.hab P e).1;rw [h.hP] at this;omega
theorem Grows.part (h:Grows R w w3 w4 P c T sz mk hv es news ab j g' cap') (k:Nat) (hk:R k<6) (hne:k≠g'):fW R c g' ab w.heap.size w4.heap.size k=R k:=by
 unfold fW;rw [if_neg hne,if_neg];rintro (e | ⟨e,_⟩)
 ·have:=(h.hab k e).1;omega
 ·have:=h.hR k hk;omega
theorem Grows.sz4 (h:Grows R w w3 w4 P c T sz mk hv es news ab j g' cap'):w.heap.size≤w4.heap.size:=Nat.le_trans h.K3.size h.grow4.size
theorem Grows.slot (h:Grows R w w3 w4 P c T sz mk hv es news ab j g' cap') :
  Slot (fW R c g' ab w.heap.size w4.heap.size) (w4.setCell ⟨P,c,none⟩ (.slice (some ⟨g',0,none⟩) (4*j+4) cap')) P c T sz mk (.slice (some ⟨g',0,none⟩) (4*j+4) cap') (es++news):=by
 have hsz:(w4.setCell ⟨P,c,none⟩ (.slice (some ⟨g',0,none⟩) (4*j+4) cap')).heap.size=w4.heap.size:=Deep.nblk_setCell _ _ _;have e4:(es++news).length=4*j+4:=by rw [List.length_append,h.hj,h.hnl]
 have pc:w4.cell? ⟨P,c,none⟩=some hv:=by
  rw [World.cell?_of_block (w:=w) (h.blk P h.hlt (by rw [h.hP];omega) h.Pa)];exact h.sl.cell
 have s4:=h.sz4;refine ⟨World.cell?_setCell_same' _ _ _ (by rw [pc];rfl),?_,?_,fun k hk=>?_⟩
 ·rw [e4,List.map_append]
  exact aGC h.own4 (Deep.blk_setCell_other _ _ _ _ h.Pg.symm)
 ·intro q hq
  simp only [Value.ownBlock,Option.some.injEq] at hq;subst hq;unfold fW;rw [if_pos rfl]
 ·have hcell:∀b i,b≠P→(w4.setCell ⟨P,c,none⟩ (.slice (some ⟨g',0,none⟩) (4*j+4) cap')).cell? ⟨b,i,none⟩=w4.cell? ⟨b,i,none⟩:=fun b i hb=>World.cell?_of_block (w:=w4) (Deep.blk_setCell_other _ _ _ _ hb)
  rw [List.length_append] at hk
  by_cases hk1:k<es.length
  ·rw [List.getElem_append_left hk1]
   obtain ⟨l1,gd⟩:=h.sl.good k hk1;refine ⟨l1,?_⟩
   rcases gd with h0 | ⟨b,hb,rb,blt,hc⟩
   ·exact .inl h0
   ·have hbg:b≠g':=fun e=>by
     rcases h.gne with ⟨h1,_⟩ | h1
     ·rw [←e,rb] at h1;have:=h.hc;omega
     ·omega
    have hba:ab≠some b:=fun e=>by have:=(h.hab b e).1;omega
    refine .inr ⟨b,hb,by rw [h.part b (by omega) hbg];exact rb,by omega,fun i hi=>?_⟩;rw [hcell b i (fun e=>by rw [e,h.hP] at rb;omega),World.cell?_of_block (w:=w) (h.blk b blt (by have:=h.hc;omega) hba)]
    exact hc i hi
  ·have hk2:k - es.length<news.length:=by omega
   rw [List.getElem_append_right (by omega)];obtain ⟨l1,gd⟩:=h.hnews _ (List.getElem_mem hk2);refine ⟨l1,?_⟩
   rcases gd with h0 | ⟨b,hb,sb,blt,hc⟩
   ·exact .inl h0
   ·have hRb:¬R b<6:=fun e=>by
     rcases sb with h2 | h2
     ·have:=(h.hab b h2).1;omega
     ·have:=h.hR b e;omega
    have hbg:b≠g':=fun e=>by
     rcases h.hat with h1 | h1
     ·have:=h.sl.hb g' h1;rw [←e] at this;have:=h.hc;omega
     ·omega
    refine .inr ⟨b,hb,?_,by have:=h.grow4.size;omega,fun i hi=>?_⟩
    ·unfold fW
     rw [if_neg hbg,if_pos]
     rcases sb with h2 | h2
     ·exact .inl h2
     ·exact .inr ⟨h2,by have:=h.grow4.size;omega⟩
    ·rw [hcell b i (fun e=>hRb (by rw [e,h.hP];omega)),World.cell?_of_block (w:=w3) (h.blk3 b blt (fun e=>hRb (by rw [e];have:=h.hc;omega))),hc i hi]
     have:=h.hj;have:k / 4=j:=by omega
     rw [this]
theorem Grows.other (h:Grows R w w3 w4 P c T sz mk hv es news ab j g' cap'){c':Nat}{T':TypeId}{sz':Nat}{mk':Nat→Nat→Value}{hv':Value}{es':List Entry}(hs:Slot R w P c' T' sz' mk' hv' es') (hc':c'<4) (hne:c'≠c) :
  Slot (fW R c g' ab w.heap.size w4.heap.size) (w4.setCell ⟨P,c,none⟩ (.slice (some ⟨g',0,none⟩) (4*j+4) cap')) P c' T' sz' mk' hv' es':=by
 have s4:=h.sz4;have hsz:(w4.setCell ⟨P,c,none⟩ (.slice (some ⟨g',0,none⟩) (4*j+4) cap')).heap.size=w4.heap.size:=Deep.nblk_setCell _ _ _;have keep:∀k,k<w.heap.size→R k<6→R k≠c+1→k≠P→(w4.setCell ⟨P,c,none⟩ (.slice (some ⟨g',0,none⟩) (4*j+4) cap')).heap[k]?=w.heap[k]?:=fun k hk h6 h1 hP =>
  (Deep.blk_setCell_other _ _ _ _ hP).trans (h.blk k hk h1 (fun e=>by have:=(h.hab k e).1;omega))
 have far:∀k,R k<6→R k≠c+1→k≠g':=fun k h6 h1 e=>by
  rcases h.gne with ⟨h2,_⟩ | h2
  ·rw [e] at h1;exact h1 h2
  ·have:=h.hR k h6;omega
 refine ⟨?_,?_,fun q hq=>?_,fun k hk=>?_⟩
 ·rw [World.cell?_setCell_other _ _ _ _ (by simp),World.cell?_of_block (w:=w) (h.blk P h.hlt (by rw [h.hP];omega) h.Pa)];exact hs.cell
 ·refine ⟨hs.own.1,?_⟩
  rcases hs.own.2 with h' | ⟨g,cap,cur,hv2,hbg,hr,hrest⟩
  ·exact .inl h'
  ·have hg:hv'.ownBlock=some g:=by rw [hv2];rfl
   have hRg:=hs.hb g hg
   exact .inr ⟨g,cap,cur,hv2,hbg,by rw [keep g (hs.own.lt g hg).2 (by omega) (by omega) (fun e=>by rw [e,h.hP] at hRg;omega)];exact hr,hrest⟩
 ·have hRq:=hs.hb q hq
  rw [h.part q (by omega) (far q (by omega) (by omega))];exact hRq
 ·obtain ⟨l1,gd⟩:=hs.good k hk
  refine ⟨l1,?_⟩
  rcases gd with h0 | ⟨b,hb,rb,blt,hc⟩
  ·exact .inl h0
  ·have:=h.hc
   exact .inr ⟨b,hb,by rw [h.part b (by omega) (far b (by omega) (by omega))];exact rb,by omega,fun i hi=>(World.cell?_of_block (w:=w) (keep b blt (by omega) (by omega) (fun e=>by rw [e,h.hP] at rb;omega))).trans (hc i hi)⟩
theorem Grows.cells (h:Grows R w w3 w4 P c T sz mk hv es news ab j g' cap'){i:Nat}(hi:i≠c) (v:Value):(w4.setCell ⟨P,c,none⟩ v).cell? ⟨P,i,none⟩=w.cell? ⟨P,i,none⟩:=by
 rw [World.cell?_setCell_other _ _ _ _ (by simp),World.cell?_of_block (w:=w) (h.blk P h.hlt (by rw [h.hP];omega) h.Pa)]
theorem Grows.frozen (h:Grows R w w3 w4 P c T sz mk hv es news ab j g' cap'){i:Nat}(v:Value):(w4.setCell ⟨P,c,none⟩ v).frozen? ⟨P,i,none⟩=w.frozen? ⟨P,i,none⟩:=by
 rw [World.frozen?_setCell,World.frozen?_of_block (w:=w) (h.blk P h.hlt (by rw [h.hP];omega) h.Pa)]
theorem Grows.keeps (h:Grows R w w3 w4 P c T sz mk hv es news ab j g' cap') (v:Value):Keeps (fun k=>R k<6∨ab=some k) w (w4.setCell ⟨P,c,none⟩ v):=by
 have s4:=h.sz4;have hsz:(w4.setCell ⟨P,c,none⟩ v).heap.size=w4.heap.size:=Deep.nblk_setCell _ _ _;refine ⟨h.grow4.os.trans h.K3.os,h.grow4.tape.trans h.K3.tape,h.grow4.output.trans h.K3.output,by omega,fun k hk ho=>?_⟩;have hk6:¬R k<6:=fun e=>ho (.inl e)
 have:=h.hc
 exact (Deep.blk_setCell_other _ _ _ _ (fun e=>hk6 (by rw [show k=P from e,h.hP];omega))).trans (h.blk k hk (fun e=>hk6 (by omega)) (fun e=>ho (.inr e)))
theorem Grows.hR' (h:Grows R w w3 w4 P c T sz mk hv es news ab j g' cap'):∀k,fW R c g' ab w.heap.size w4.heap.size k<6→k<w4.heap.size:=by
 intro k hk;have s4:=h.sz4;unfold fW at hk
 split at hk
 ·rename_i e;rw [e];exact h.glt
 ·split at hk
  ·rename_i e
   rcases e with e | e
   ·have:=(h.hab k e).2;omega
   ·exact e.2
  ·have:=h.hR k hk;omega
theorem Grows.new (h:Grows R w w3 w4 P c T sz mk hv es news ab j g' cap'):∀k,fW R c g' ab w.heap.size w4.heap.size k<6→R k<6∨ab=some k∨w.heap.size≤k:=by
 intro k hk;unfold fW at hk
 split at hk
 ·rename_i e
  rcases h.gne with ⟨h1,_⟩ | h1
  ·exact .inl (by rw [e,h1];have:=h.hc;omega)
  ·exact .inr (.inr (by omega))
 ·split at hk
  ·rename_i e
   rcases e with e | e
   ·exact .inr (.inl e)
   ·exact .inr (.inr e.1)
  ·exact .inl hk
theorem Grows.hP' (h:Grows R w w3 w4 P c T sz mk hv es news ab j g' cap'):fW R c g' ab w.heap.size w4.heap.size P=0:=by rw [h.part P (by rw [h.hP];omega) h.Pg];exact h.hP
end
def tyOf (c:Nat):TypeId:=if c=0 then 32 else if c=1 then 74 else if c=2 then 30 else 31
def szOf (c:Nat):Nat:=if c=0 then 1 else if c=1 then 1 else 2
def mkI (j:Nat) (_:Nat):Value:=.int .i64 (-1 - (j:Int))
def mkF (j:Nat) (_:Nat):Value:=.float .f64 (floatOfInt .f64 (-1 - (j:Int)))
def mkP (j:Nat) (i:Nat):Value:=if i % 2=1 then .int .i64 0 else .int .i64 (-1 - (j:Int))
def mkOf (c:Nat):Nat→Nat→Value:=if c=0 then mkI else if c=1 then mkF else mkP
structure Book2 (R:Nat→Nat) (w:World) (P:Nat) (v:Nat→Value) (es:Nat→List Entry) (N:Nat):Prop where
 p:R P=0
 lt:P<w.heap.size
 hR:∀k,R k<6→k<w.heap.size
 fz:∀i,w.frozen? ⟨P,i,none⟩=false
 slot:∀c,c<4→Slot R w P c (tyOf c) (szOf c) (mkOf c) (v c) (es c)
 len:∀c,c<4→∃j,(es c).length=4*j∧j≤N
theorem Book2.keeps {R:Nat→Nat}{w w':World}{P N:Nat}{v:Nat→Value}{es:Nat→List Entry}(h:Book2 R w P v es N) (hs:w.heap.size≤w'.heap.size) (hk:∀k,k<w.heap.size→R k<6→w'.heap[k]?=w.heap[k]?):Book2 R w' P v es N :=
 have hP:w'.heap[P]?=w.heap[P]?:=hk P h.lt (by rw [h.p];omega)
 ⟨h.p,Nat.lt_of_lt_of_le h.lt hs,fun k e=>Nat.lt_of_lt_of_le (h.hR k e) hs,fun i=>(World.frozen?_of_block (w:=w) hP).trans (h.fz i),
  fun c hc=>(h.slot c hc).keeps h.p h.lt hc hs hk,h.len⟩
theorem Book2.below {R:Nat→Nat}{w w':World}{P N:Nat}{v:Nat→Value}{es:Nat→List Entry}(h:Book2 R w P v es N) (hb:Below w.heap.size w w'):Book2 R w' P v es N:=h.keeps hb.size (fun k hk _=>hb.block k hk)
theorem Book2.mono {R:Nat→Nat}{w:World}{P N M:Nat}{v:Nat→Value}{es:Nat→List Entry}(h:Book2 R w P v es N) (hM:N≤M):Book2 R w P v es M :=
 ⟨h.p,h.lt,h.hR,h.fz,h.slot,fun c hc=>by obtain ⟨j,h1,h2⟩:=h.len c hc;exact ⟨j,h1,by omega⟩⟩
def updV {α:Type}(v:Nat→α) (c:Nat) (x:α) (k:Nat):α:=if k=c then x else v k
theorem nY {α:Type}(v:Nat→α) (c:Nat) (x:α):updV v c x c=x:=if_pos rfl
theorem kZ {α:Type}(v:Nat→α){c k:Nat}(x:α) (h:k≠c):updV v c x k=v k:=if_neg h
theorem Book2.grow {R:Nat→Nat}{w w3 w4:World}{P N c:Nat}{v:Nat→Value}{es:Nat→List Entry}{news:List Entry}{ab:Option Nat}{j g' cap':Nat}(h:Book2 R w P v es N) (G:Grows R w w3 w4 P c (tyOf c) (szOf c) (mkOf c) (v c) (es c) news ab j g' cap') :
  Book2 (fW R c g' ab w.heap.size w4.heap.size) (w4.setCell ⟨P,c,none⟩ (.slice (some ⟨g',0,none⟩) (4*j+4) cap')) P (updV v c (.slice (some ⟨g',0,none⟩) (4*j+4) cap')) (updV es c (es c++news)) (N+1):=by
 have hsz:(w4.setCell ⟨P,c,none⟩ (.slice (some ⟨g',0,none⟩) (4*j+4) cap')).heap.size=w4.heap.size:=Deep.nblk_setCell _ _ _;refine ⟨G.hP',by have:=G.sz4;have:=h.lt;omega,fun k e=>by rw [hsz];exact G.hR' k e,fun i=>(G.frozen _).trans (h.fz i),fun k hk=>?_,fun k hk=>?_⟩
 ·by_cases hkc:k=c
  ·subst hkc
   rw [nY,nY]
   exact G.slot
  ·rw [kZ _ _ hkc,kZ _ _ hkc]
   exact G.other (h.slot k hk) hk hkc
 ·by_cases hkc:k=c
  ·subst hkc
   rw [nY];obtain ⟨j',h1,h2⟩:=h.len k hk;have:=G.hj;have:=G.hnl
   exact ⟨j'+1,by rw [List.length_append];omega,by omega⟩
  ·rw [kZ _ _ hkc]
   obtain ⟨j',h1,h2⟩:=h.len k hk
   exact ⟨j',h1,by omega⟩
def aAU (R:Nat→Nat) (w:World) (P N:Nat) (ab:Option Nat) (w':World):Prop :=
 ∃R' v' es',Book2 R' w' P v' es' (N+1)∧Keeps (fun k=>R k<6∨ab=some k) w w'∧∀k,R' k<6→R k<6∨ab=some k∨w.heap.size≤k
def KeepResL (R:Nat→Nat) (w:World) (P N c:Nat) (es:Nat→List Entry) (ab:Option Nat) (w':World):Prop :=
 ∃R' v' es',Book2 R' w' P v' es' (N+1)∧Keeps (fun k=>R k<6∨ab=some k) w w'∧(∀k,R' k<6→R k<6∨ab=some k∨w.heap.size≤k)∧∀d,(es' d).length=(es d).length+if d=c then 4 else 0
theorem KeepResL.res {R:Nat→Nat}{w w':World}{P N c:Nat}{es:Nat→List Entry}{ab:Option Nat}(h:KeepResL R w P N c es ab w'):aAU R w P N ab w':=by
 obtain ⟨R',v',es',h1,h2,h3,_⟩:=h
 exact ⟨R',v',es',h1,h2,h3⟩
theorem Book2.growsL {R:Nat→Nat}{w w3 w4:World}{P N c:Nat}{v:Nat→Value}{es:Nat→List Entry}{news:List Entry}{ab:Option Nat}{j g' cap':Nat}(h:Book2 R w P v es N) (G:Grows R w w3 w4 P c (tyOf c) (szOf c) (mkOf c) (v c) (es c) news ab j g' cap') :
  KeepResL R w P N c es ab (w4.setCell ⟨P,c,none⟩ (.slice (some ⟨g',0,none⟩) (4*j+4) cap')):=⟨_,_,_,h.grow G,G.keeps _,G.new,fun d=>by
 by_cases e:d=c
 ·subst e
  rw [nY,List.length_append,G.hnl,if_pos rfl]
 ·rw [kZ _ _ e,if_neg e,Nat.add_zero]⟩
theorem Book2.tight {R:Nat→Nat}{w:World}{P N M:Nat}{v:Nat→Value}{es:Nat→List Entry}(h:Book2 R w P v es N) (hl:∀c,c<4→(es c).length≤4*M):Book2 R w P v es M :=
 ⟨h.p,h.lt,h.hR,h.fz,h.slot,fun c hc=>by obtain ⟨j,h1,h2⟩:=h.len c hc;have:=hl c hc;exact ⟨j,h1,by omega⟩⟩
end Go.Proofs.YtgpaajdfkekjiaaGreatDoor
