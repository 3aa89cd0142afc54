/-
  A part of the proof of the statement All: texts of ours, made small by program (blanks, names).
-/
import Derived.Test.YtgpaajdfkekjiaaGreatDoorPf
import Derived.ProofKit
import Derived.OpenShut
import Derived.Deep.Slices
import Derived.Lib.SmallJoins
import Derived.Lib.LaidTab
import Derived.Deep.Strs
import Derived.Deep.RegionHeld
import Derived.Laws.Rows
namespace Go.Proofs.YtgpaajdfkekjiaaGreatDoor
set_option maxHeartbeats 8000000
set_option maxRecDepth 100000
open Go.RowKit
def ints (vs:List Nat):List Int:=vs.map fun x=>((x:Nat):Int)
theorem qH (vs:List Nat):(ints vs).length=vs.length:=by simp [ints]
theorem aD3 {w:World}{base g len cap:Nat}{vs:List Nat}(h:w.ownsRow base 3 1 (.slice (some ⟨g,0,none⟩) len cap) len (aP vs)):IntsAt w (some ⟨g,0,none⟩) (ints vs):=by
 have hl:vs.length=len:=by have:=h.1;rw [iH] at this;omega
 refine .inr ⟨g,0,rfl,(h.lt g rfl).2,fun i hi=>?_⟩;have hi':i<vs.length:=by simpa [ints] using hi
 rw [nE h i (by omega)]
 simp [ints,hi']
def runE (n:Int) (ls gs:List (Int×Int)) (os ins:List Int):Int:=if aG n ls gs os=true then (if dU n.toNat ins=true then 0 else 3) else 2
def runL (n:Int) (ls gs:List (Int×Int)) (os ins:List Int):List Nat:=if aG n ls gs os=true then (if dU n.toNat ins=true then outs n.toNat ls gs os ins else []) else []
theorem aJ8 (n:Int) (ls gs:List (Int×Int)) (os ins:List Int):(runL n ls gs os ins).length≤50:=by
 unfold runL
 split
 ·split
  ·rename_i h
   have:=(of_decide_eq_true h).1
   simp [outs];omega
  ·simp
 ·simp
theorem aEN (n:Int) (la ga oa ia:Option Addr) (lc gc oc ic:Nat) (ls gs:List (Int×Int)) (os ins:List Int) (w:World) (hm:ins.length≤maxLen)
  (hL:PairsAt w la ls) (hG:PairsAt w ga gs) (hO:IntsAt w oa os) (hI:IntsAt w ia ins) (fL:∀i,i<ls.length→Fits (ls.getD i (0,0)).1) (fG:∀i,i<gs.length→Fits (gs.getD i (0,0)).1∧Fits (gs.getD i (0,0)).2) (fO:∀i,i<os.length→Fits (os.getD i 0)) :
  Calls Tryz.prog 25 #[.agg #[.int .i64 n,.slice la ls.length lc,.slice ga gs.length gc,.slice oa os.length oc],.slice ia ins.length ic] w fun e w' =>
   ∃a c,e=.returned (.tuple #[.slice a (runL n ls gs os ins).length c,.int .i64 (runE n ls gs os ins)])∧IntsAt w' a (ints (runL n ls gs os ins))∧Below w.heap.size w w':=by
 cases hr:aG n ls gs os
 ·have e1:runL n ls gs os ins=[]:=by unfold runL;rw [if_neg (by rw [hr];decide)]
  have e2:runE n ls gs os ins=2:=by unfold runE;rw [if_neg (by rw [hr];decide)]
  rw [e1,e2]
  exact (aA7 n la ga oa lc gc oc ls gs os _ w hL hG hO fL fG fO hr).mono fun e w' h=>⟨none,0,h.1,.inl rfl,h.2⟩
 ·obtain ⟨N,rfl⟩:=Int.eq_ofNat_of_zero_le (cD hr).1.1
  have base:=aA6 N la ga oa ia lc gc oc ic ls gs os ins w hm hL hG hO hI fL fG fO hr
  cases hi:dU N ins
  ·have e1:runL N ls gs os ins=[]:=by unfold runL;rw [if_pos hr,if_neg (by rw [Int.toNat_natCast,hi];decide)]
   have e2:runE N ls gs os ins=3:=(by unfold runE;rw [if_pos hr,if_neg (by rw [Int.toNat_natCast,hi];decide)])
   rw [e1,e2]
   exact base.mono fun e w' h=>⟨none,0,(h.1 hi).1,.inl rfl,(h.1 hi).2⟩
  ·have e1:runL N ls gs os ins=outs N ls gs os ins:=by unfold runL;rw [if_pos hr,if_pos (by rw [Int.toNat_natCast];exact hi),Int.toNat_natCast]
   have e2:runE N ls gs os ins=0:=(by unfold runE;rw [if_pos hr,if_pos (by rw [Int.toNat_natCast];exact hi)])
   have el:(outs N ls gs os ins).length=ins.length:=(by simp [outs])
   rw [e1,e2,el];refine base.mono fun e w' h=>?_
   obtain ⟨v,he,hown,hb⟩:=h.2 hi
   rcases hown.2 with ⟨rfl,h0⟩ | ⟨g,cap,cur,rfl,_⟩
   ·have hnil:outs N ls gs os ins=[]:=List.eq_nil_of_length_eq_zero (by omega)
    rw [hnil]
    exact ⟨none,0,by rw [h0];exact he,.inl rfl,hb⟩
   ·exact ⟨_,cap,he,aD3 hown,hb⟩
theorem jD {w:World}{g:Nat}{xs:List Int}(h:w.rowIs g 3 (xs.length+8) (hInt xs)):IntsAt w (some ⟨g,0,none⟩) xs :=
 .inr ⟨g,0,rfl,h.lt,fun i hi=>by rw [Nat.zero_add,h.cell (by omega)];unfold hInt;rw [if_pos hi]⟩
theorem dM {w:World}{g t:Nat}{ps:List (Int×Int)}(h:w.rowIs g t ((ps.length+8)*2) (lW ps)):PairsAt w (some ⟨g,0,none⟩) ps :=
 .inr ⟨g,0,rfl,h.lt,fun i hi=>by
  have h1:i*2 / 2=i:=by omega
  have h2:(i*2+1) / 2=i:=by omega
  refine ⟨?_,?_⟩
  ·rw [Nat.zero_add,h.cell (by omega)];unfold lW tP;rw [if_pos (by omega),if_pos (by omega),h1]
  ·rw [Nat.zero_add,h.cell (by omega)];unfold lW tP;rw [if_pos (by omega),if_neg (by omega),h2]⟩
theorem aC {S:Nat→Prop}{w w':World}{b n:Nat}{t:TypeId}{f:Nat→Value}(h:w.rowIs b t n f) (K:Keeps S w w') (hb:¬S b):w'.rowIs b t n f:=h.of_block (K.block b h.lt hb)
theorem PairsIn.keeps {S:Nat→Prop}{B:Nat}{w w':World}{a:Option Addr}{ps:List (Int×Int)}(h:PairsIn B w a ps) (K:Keeps S w w') (hS:∀b o,a=some ⟨b,o,none⟩→ps≠[]→¬S b):PairsIn B w' a ps:=by
 by_cases h0:ps=[]
 ·exact .inl h0
 ·rcases h with h | ⟨b,off,ha,hb,hlt,hc⟩
  ·exact .inl h
  ·exact .inr ⟨b,off,ha,hb,Nat.lt_of_lt_of_le hlt K.size,fun i hi=>⟨(K.cell (p:=⟨b,_,none⟩) hlt (hS b off ha h0)).trans (hc i hi).1,(K.cell (p:=⟨b,_,none⟩) hlt (hS b off ha h0)).trans (hc i hi).2⟩⟩
theorem IntsIn.keeps {S:Nat→Prop}{B:Nat}{w w':World}{a:Option Addr}{xs:List Int}(h:IntsIn B w a xs) (K:Keeps S w w') (hS:∀b o,a=some ⟨b,o,none⟩→xs≠[]→¬S b):IntsIn B w' a xs:=by
 by_cases h0:xs=[]
 ·exact .inl h0
 ·rcases h with h | ⟨b,off,ha,hb,hlt,hc⟩
  ·exact .inl h
  ·exact .inr ⟨b,off,ha,hb,Nat.lt_of_lt_of_le hlt K.size,fun i hi=>(K.cell (p:=⟨b,_,none⟩) hlt (hS b off ha h0)).trans (hc i hi)⟩
end Go.Proofs.YtgpaajdfkekjiaaGreatDoor
namespace Go.Proofs.YtgpaajdfkekjiaaGreatDoor
set_option maxHeartbeats 8000000
set_option maxRecDepth 100000
open Go.RowKit Go.ChangeShapes Go.WideShapes Go.ChangeAt
theorem mK (b off i:Nat):(⟨b,off,none⟩:Addr).add i=⟨b,off+i,none⟩:=by unfold Addr.add;split<;>simp_all
theorem aB4 {x:Int}(h:(Lit.int .i64 x).wf=true):Fits x:=bounds_i64 h
theorem uL {H:Type}{enc:TypeId×Value→H}{W:World}{T E m:Nat}{f0 f1:Field}{v:Value}{y:DataW H×List MemPlace}(hT:Tryz.prog.underlying T=some (.slice E)) (hE:Tryz.prog.underlying E=some (.struct #[f0,f1]))
  (h0:f0.type=3∧f0.offset=0) (h1:f1.type=3∧f1.offset=1) (c2:Tryz.prog.cellsOf E=2) (c1:Tryz.prog.cellsOf 3=1)
  (h:DataW.trod enc Tryz.prog W 0 (fun _=>true) true m T [v]=some y) :
  ∃a ps cap,v=.slice a (List.length ps) cap∧PairsAt W a ps∧(∀i,i<ps.length→Fits (ps.getD i (0,0)).1∧Fits (ps.getD i (0,0)).2)∧
   ((y.1=.nil∧ps=[])∨∃elems spare,y.1=.slice elems spare∧elems.length=ps.length):=by
 rcases Deep.open_slice hT h with ⟨hcs,rfl⟩ | ⟨a,len,cap,mm,n,D,Pl,hcs,_,hl,hm,hmm,rfl,hel⟩
 ·simp only [List.cons.injEq,and_true] at hcs
  exact ⟨none,[],0,hcs,.inl rfl,fun i hi=>absurd hi (Nat.not_lt_zero i),.inl ⟨rfl,rfl⟩⟩
 ·simp only [List.cons.injEq,and_true] at hcs
  simp only [if_true] at hmm;subst hmm;have hcell:∀i,i<len→∃x:Int×Int,(W.cell? (a.add (i*2))=some (.int .i64 x.1)∧W.cell? ((a.add (i*2)).add 1)=some (.int .i64 x.2))∧Fits x.1∧Fits x.2:=by
   intro i hi;obtain ⟨cs',hc,ht⟩:=hel i (by omega);rw [c2] at hc;obtain ⟨_,hl2,hcc⟩:=World.cells?_some hc;obtain ⟨y0,y1,n',_,_,t0,t1⟩:=trod_struct2 hE ht;rw [h0.1,h0.2,c1] at t0;rw [h1.1,h1.2,c1] at t1
   match cs',hl2 with
   | [u0,u1],_ =>
    obtain ⟨x0,e0,_,w0⟩:=DataW.trod_int Tryz.underlying3 t0;obtain ⟨x1,e1,_,w1⟩:=DataW.trod_int Tryz.underlying3 t1;simp only [List.drop_zero,List.take_succ_cons,List.take_zero,List.cons.injEq,and_true,List.drop_succ_cons] at e0 e1;subst e0 e1;have k0:=hcc 0 (by omega);have k1:=hcc 1 (by omega);refine ⟨(x0,x1),⟨?_,?_⟩,aB4 w0,aB4 w1⟩
    ·simpa [Addr.add] using k0
    ·simpa using k1
  obtain ⟨f,hf⟩:=Deep.choose_lt hcell;have hlen:((List.range len).map f).length=len:=by simp
  have hget:∀i,i<len→((List.range len).map f).getD i (0,0)=f i:=fun i hi=>by simp [hi]
  refine ⟨some a,(List.range len).map f,_,by rw [hlen];exact hcs,?_,?_,.inr ⟨_,_,rfl,by simp⟩⟩
  ·by_cases h00:len=0
   ·left;subst h00;rfl
   ·obtain ⟨b,off,spot⟩:=a
    have hc0:=(hf 0 (by omega)).1.1;have hspot:spot=none:=(by simpa [Addr.add] using World.cell?_spot hc0)
    subst hspot;refine .inr ⟨b,off,rfl,by have:=block_lt_of_cell hc0;simpa [Addr.add] using this,fun i hi=>?_⟩;rw [hlen] at hi;have:=(hf i hi).1;rw [mK,mK] at this;rw [hget i hi]
    exact this
  ·intro i hi
   rw [hlen] at hi;rw [hget i hi]
   exact (hf i hi).2
theorem pN {H:Type}{enc:TypeId×Value→H}{W:World}{m:Nat}{v:Value}{y:DataW H×List MemPlace}(c1:Tryz.prog.cellsOf 3=1)
  (h:DataW.trod enc Tryz.prog W 0 (fun _=>true) true m 32 [v]=some y) :
  ∃a xs cap,v=.slice a (List.length xs) cap∧IntsAt W a xs∧(∀i,i<xs.length→Fits (xs.getD i 0))∧
   ((y.1=.nil∧xs=[])∨∃elems spare,y.1=.slice elems spare∧elems.length=xs.length):=by
 rcases Deep.open_slice Tryz.underlying32 h with ⟨hcs,rfl⟩ | ⟨a,len,cap,mm,n,D,Pl,hcs,_,hl,hm,hmm,rfl,hel⟩
 ·simp only [List.cons.injEq,and_true] at hcs
  exact ⟨none,[],0,hcs,.inl rfl,fun i hi=>absurd hi (Nat.not_lt_zero i),.inl ⟨rfl,rfl⟩⟩
 ·simp only [List.cons.injEq,and_true] at hcs
  simp only [if_true] at hmm;subst hmm;have hcell:∀i,i<len→∃x:Int,W.cell? (a.add i)=some (.int .i64 x)∧Fits x:=by
   intro i hi;obtain ⟨cs',hc,ht⟩:=hel i (by omega);rw [c1,Nat.mul_one] at hc;obtain ⟨_,hl2,hcc⟩:=World.cells?_some hc
   match cs',hl2 with
   | [u0],_ =>
    obtain ⟨x0,e0,_,w0⟩:=DataW.trod_int Tryz.underlying3 ht;simp only [List.cons.injEq,and_true] at e0;subst e0;have k0:=hcc 0 (by omega)
    exact ⟨x0,by simpa [Addr.add] using k0,aB4 w0⟩
  obtain ⟨f,hf⟩:=Deep.choose_lt hcell;have hlen:((List.range len).map f).length=len:=by simp
  have hget:∀i,i<len→((List.range len).map f).getD i 0=f i:=fun i hi=>by simp [hi]
  refine ⟨some a,(List.range len).map f,_,by rw [hlen];exact hcs,?_,?_,.inr ⟨_,_,rfl,by simp⟩⟩
  ·by_cases h00:len=0
   ·left;subst h00;rfl
   ·obtain ⟨b,off,spot⟩:=a
    have hc0:=(hf 0 (by omega)).1;have hspot:spot=none:=(by simpa [Addr.add] using World.cell?_spot hc0)
    subst hspot;refine .inr ⟨b,off,rfl,by have:=block_lt_of_cell hc0;simpa [Addr.add] using this,fun i hi=>?_⟩;rw [hlen] at hi;have:=(hf i hi).1;rw [mK] at this;rw [hget i hi]
    exact this
  ·intro i hi
   rw [hlen] at hi;rw [hget i hi]
   exact (hf i hi).2
end Go.Proofs.YtgpaajdfkekjiaaGreatDoor
namespace Go.Proofs.YtgpaajdfkekjiaaGreatDoor
set_option maxHeartbeats 8000000
set_option maxRecDepth 100000
open Go.RowKit Go.ChangeShapes Go.WideShapes Go.ChangeAt
structure CallD where
 k:Int
 S:ByteArray
 n:Int
 la:Option Addr
 ls:List (Int×Int)
 lc:Nat
 ga:Option Addr
 gs:List (Int×Int)
 gc:Nat
 oa:Option Addr
 os:List Int
 oc:Nat
 m:Int
 lb:Option Addr
 lt:List (Int×Int)
 ld:Nat
 gb:Option Addr
 gt:List (Int×Int)
 gd:Nat
 ob:Option Addr
 ot:List Int
 od:Nat
 ia:Option Addr
 ins:List Int
 ic:Nat
 nn:Int
def CallD.cells (c:CallD):Array Value :=
 #[.int .i64 c.k,.string c.S,.int .i64 c.n,.slice c.la c.ls.length c.lc,.slice c.ga c.gs.length c.gc,.slice c.oa c.os.length c.oc,.int .i64 c.m,.slice c.lb c.lt.length c.ld,.slice c.gb c.gt.length c.gd,.slice c.ob c.ot.length c.od,.slice c.ia c.ins.length c.ic,.int .i64 c.nn]
structure CallOk (W:World) (c:CallD):Prop where
 hS:c.S.size<9223372036854775808
 hml:c.ls.length*16≤140737488351232
 hmg:c.gs.length*16≤140737488351232
 hmo:c.os.length*8≤140737488351232
 hnl:c.lt.length*16≤140737488351232
 hng:c.gt.length*16≤140737488351232
 hno:c.ot.length*8≤140737488351232
 hmi:c.ins.length*8≤140737488351232
 hL:PairsAt W c.la c.ls
 hG:PairsAt W c.ga c.gs
 hO:IntsAt W c.oa c.os
 kL:PairsAt W c.lb c.lt
 kG:PairsAt W c.gb c.gt
 kO:IntsAt W c.ob c.ot
 hI:IntsAt W c.ia c.ins
 fL:∀i,i<c.ls.length→Fits (c.ls.getD i (0,0)).1
 fG:∀i,i<c.gs.length→Fits (c.gs.getD i (0,0)).1∧Fits (c.gs.getD i (0,0)).2
 fO:∀i,i<c.os.length→Fits (c.os.getD i 0)
 gL:∀i,i<c.lt.length→Fits (c.lt.getD i (0,0)).1
 gG:∀i,i<c.gt.length→Fits (c.gt.getD i (0,0)).1∧Fits (c.gt.getD i (0,0)).2
 gO:∀i,i<c.ot.length→Fits (c.ot.getD i 0)
theorem aInt:Tryz.prog.cellsOf 3=1:=by kernel_rfl
theorem aStr:Tryz.prog.cellsOf 9=1:=by kernel_rfl
theorem aLL:Tryz.prog.cellsOf 32=1:=by kernel_rfl
theorem aMI:Tryz.prog.cellsOf 30=1:=by kernel_rfl
theorem aMG:Tryz.prog.cellsOf 31=1:=by kernel_rfl
theorem aLM:Tryz.prog.cellsOf 54=2:=by kernel_rfl
theorem aMH:Tryz.prog.cellsOf 56=2:=by kernel_rfl
theorem aLK:Tryz.prog.cellsOf 34=4:=by kernel_rfl
theorem aMF:Tryz.prog.cellsOf 42=12:=by kernel_rfl
theorem yInt:Tryz.prog.bytesOf 3=8:=by kernel_rfl
theorem aMC:Tryz.prog.bytesOf 54=16:=by kernel_rfl
theorem aMQ:Tryz.prog.bytesOf 56=16:=by kernel_rfl
theorem aMP:Tryz.prog.bytesOf 42=216:=by kernel_rfl
theorem aJH {H:Type}{enc:TypeId×Value→H}{P:Program}{w:World}{base:Nat}{spare:Nat→Bool}{held:Bool}{t:TypeId}{f0 f1 f2 f3 f4 f5:Field}{fuel:Nat}{cs:List Value}{x:DataW H×List MemPlace}(ht:P.underlying t=some (.struct #[f0,f1,f2,f3,f4,f5]))
  (h:DataW.trod enc P w base spare held fuel t cs=some x) :
  ∃y0 y1 y2 y3 y4 y5 n,x.1=.agg [y0.1,y1.1,y2.1,y3.1,y4.1,y5.1]∧DataW.trod enc P w base spare held n f0.type ((cs.drop f0.offset).take (P.cellsOf f0.type))=some y0 ∧
   DataW.trod enc P w base spare held n f1.type ((cs.drop f1.offset).take (P.cellsOf f1.type))=some y1∧DataW.trod enc P w base spare held n f2.type ((cs.drop f2.offset).take (P.cellsOf f2.type))=some y2 ∧
   DataW.trod enc P w base spare held n f3.type ((cs.drop f3.offset).take (P.cellsOf f3.type))=some y3∧DataW.trod enc P w base spare held n f4.type ((cs.drop f4.offset).take (P.cellsOf f4.type))=some y4 ∧
   DataW.trod enc P w base spare held n f5.type ((cs.drop f5.offset).take (P.cellsOf f5.type))=some y5:=by
 obtain ⟨xs,n,_,rfl,_,hlen,hf⟩:=DataW.trod_struct ht h
 match xs,hlen with
 | [y0,y1,y2,y3,y4,y5],_=>exact ⟨y0,y1,y2,y3,y4,y5,n,by simp,by simpa using hf 0 f0 rfl,by simpa using hf 1 f1 rfl,by simpa using hf 2 f2 rfl,by simpa using hf 3 f3 rfl,by simpa using hf 4 f4 rfl,by simpa using hf 5 f5 rfl⟩
theorem kC {H:Type}{T E b n:Nat}{d:DataW H}(hT:Tryz.prog.underlying T=some (.slice E)) (hE:Tryz.prog.bytesOf E=b)
  (h:∀x∈DataW.weights Tryz.prog T d,x≤reachBytes) (y:(d=.nil∧n=0)∨∃elems spare,d=.slice elems spare∧elems.length=n):n*b≤140737488351232:=by
 rcases y with ⟨_,rfl⟩ | ⟨el,sp,rfl,rfl⟩
 ·omega
 ·have:=h ((el.length+sp.length)*b) (by rw [DataW.weights,hT];simp only [hE];exact List.mem_cons_self ..)
  have h2:el.length*b≤(el.length+sp.length)*b:=Nat.mul_le_mul_right _ (Nat.le_add_right _ _);have h3:reachBytes=140737488351232:=rfl
  omega
theorem qK {H:Type}{α:Type}{d:DataW H}{ls:List α}(y:(d=.nil∧ls=[])∨∃elems spare,d=.slice elems spare∧elems.length=ls.length):(d=.nil∧ls.length=0)∨∃elems spare,d=.slice elems spare∧elems.length=ls.length:=by
 rcases y with ⟨h,rfl⟩ | h
 ·exact .inl ⟨h,rfl⟩
 ·exact .inr h
theorem zT {H:Type}{enc:TypeId×Value→H}{W:World}{fuel:Nat}{v0 v1 v2 v3:Value}{y:DataW H×List MemPlace}
  (h:DataW.trod enc Tryz.prog W 0 (fun _=>true) true fuel 34 [v0,v1,v2,v3]=some y) (hw:∀x∈DataW.weights Tryz.prog 34 y.1,x≤reachBytes) :
  ∃(n:Int) (la ga oa:Option Addr) (ls gs:List (Int×Int)) (os:List Int) (lc gc oc:Nat),v0=.int .i64 n∧v1=.slice la ls.length lc∧v2=.slice ga gs.length gc∧v3=.slice oa os.length oc ∧
   PairsAt W la ls∧PairsAt W ga gs∧IntsAt W oa os∧(∀i,i<ls.length→Fits (ls.getD i (0,0)).1)∧(∀i,i<gs.length→Fits (gs.getD i (0,0)).1∧Fits (gs.getD i (0,0)).2)∧(∀i,i<os.length→Fits (os.getD i 0))∧
   ls.length*16≤140737488351232∧gs.length*16≤140737488351232∧os.length*8≤140737488351232:=by
 obtain ⟨y0,yl,yg,yo,n,rfl,_,t0,tl,tg,tu⟩:=Joins.trod_struct4 Tryz.underlying34 h;have t0:DataW.trod enc Tryz.prog W 0 (fun _=>true) true n 3 [v0]=some y0:=by simpa [aInt] using t0
 have tl:DataW.trod enc Tryz.prog W 0 (fun _=>true) true n 30 [v1]=some yl:=by simpa [aMI] using tl
 have tg:DataW.trod enc Tryz.prog W 0 (fun _=>true) true n 31 [v2]=some yg:=by simpa [aMG] using tg
 have tu:DataW.trod enc Tryz.prog W 0 (fun _=>true) true n 32 [v3]=some yo:=by simpa [aLL] using tu
 obtain ⟨x,e0,_,_⟩:=DataW.trod_int Tryz.underlying3 t0;simp only [List.cons.injEq,and_true] at e0;obtain ⟨la,ls,lc,el,hL,fL,yL⟩:=uL Tryz.underlying30 Tryz.underlying54 ⟨rfl,rfl⟩ ⟨rfl,rfl⟩ aLM aInt tl;obtain ⟨ga,gs,gc,eg,hG,fG,yG⟩:=uL Tryz.underlying31 Tryz.underlying56 ⟨rfl,rfl⟩ ⟨rfl,rfl⟩ aMH aInt tg;obtain ⟨oa,os,oc,eo,hO,fO,yO⟩:=pN aInt tu;have hfs:DataW.weights Tryz.prog 34 (.agg [y0.1,yl.1,yg.1,yo.1])=DataW.weights Tryz.prog 3 y0.1++(DataW.weights Tryz.prog 30 yl.1++(DataW.weights Tryz.prog 31 yg.1++(DataW.weights Tryz.prog 32 yo.1++[]))):=by
  rw [DataW.weights,Tryz.underlying34]
  rfl
 simp only [hfs,List.append_nil,List.mem_append] at hw
 exact ⟨x,la,ga,oa,ls,gs,os,lc,gc,oc,e0,el,eg,eo,hL,hG,hO,fun i hi=>(fL i hi).1,fG,fO,kC Tryz.underlying30 aMC (fun x hx=>hw x (.inr (.inl hx))) (qK yL),
  kC Tryz.underlying31 aMQ (fun x hx=>hw x (.inr (.inr (.inl hx)))) (qK yG),kC Tryz.underlying32 yInt (fun x hx=>hw x (.inr (.inr (.inr hx)))) (qK yO)⟩
theorem aLY {α:Type}{l:List α}(h:l.length=12):∃a0 a1 a2 a3 a4 a5 a6 a7 a8 a9 a10 a11,l=[a0,a1,a2,a3,a4,a5,a6,a7,a8,a9,a10,a11]:=by
 match l,h with
 | [a0,a1,a2,a3,a4,a5,a6,a7,a8,a9,a10,a11],_=>exact ⟨a0,a1,a2,a3,a4,a5,a6,a7,a8,a9,a10,a11,rfl⟩
theorem aG9 {H:Type}{enc:TypeId×Value→H}{W:World}{fuel:Nat}{cs:List Value}{y:DataW H×List MemPlace}(hl:cs.length=12)
  (h:DataW.trod enc Tryz.prog W 0 (fun _=>true) true fuel 42 cs=some y) (hw:∀x∈DataW.weights Tryz.prog 42 y.1,x≤reachBytes) :
  ∃c:CallD,cs=c.cells.toList∧CallOk W c:=by
 obtain ⟨a0,a1,a2,a3,a4,a5,a6,a7,a8,a9,a10,a11,rfl⟩:=aLY hl;obtain ⟨y0,y1,y2,y3,y4,y5,n,hy,t0,t1,t2,t3,t4,t5⟩:=aJH Tryz.underlying42 h;have t0:DataW.trod enc Tryz.prog W 0 (fun _=>true) true n 3 [a0]=some y0:=by simpa [aInt] using t0
 have t1:DataW.trod enc Tryz.prog W 0 (fun _=>true) true n 9 [a1]=some y1:=by simpa [aStr] using t1
 have t2:DataW.trod enc Tryz.prog W 0 (fun _=>true) true n 34 [a2,a3,a4,a5]=some y2:=by simpa [aLK] using t2
 have t3:DataW.trod enc Tryz.prog W 0 (fun _=>true) true n 34 [a6,a7,a8,a9]=some y3:=by simpa [aLK] using t3
 have t4:DataW.trod enc Tryz.prog W 0 (fun _=>true) true n 32 [a10]=some y4:=by simpa [aLL] using t4
 have t5:DataW.trod enc Tryz.prog W 0 (fun _=>true) true n 3 [a11]=some y5:=by simpa [aInt] using t5
 have hfs:DataW.weights Tryz.prog 42 (.agg [y0.1,y1.1,y2.1,y3.1,y4.1,y5.1])=DataW.weights Tryz.prog 3 y0.1++(DataW.weights Tryz.prog 9 y1.1++(DataW.weights Tryz.prog 34 y2.1++(DataW.weights Tryz.prog 34 y3.1++(DataW.weights Tryz.prog 32 y4.1++(DataW.weights Tryz.prog 3 y5.1++[]))))):=by
  rw [DataW.weights,Tryz.underlying42]
  rfl
 rw [hy] at hw;simp only [hfs,List.append_nil,List.mem_append] at hw;obtain ⟨k,e0,_,_⟩:=DataW.trod_int Tryz.underlying3 t0;obtain ⟨nn,e5,_,_⟩:=DataW.trod_int Tryz.underlying3 t5;simp only [List.cons.injEq,and_true] at e0 e5;obtain ⟨S,e1,_,hS⟩:=DataW.trod_string Tryz.underlying9 t1;simp only [List.cons.injEq,and_true] at e1;obtain ⟨n2,la,ga,oa,ls,gs,os,lc,gc,oc,q0,q1,q2,q3,hL,hG,hO,fL,fG,fO,s1,s2,s3⟩:=zT t2 (fun x hx=>hw x (.inr (.inr (.inl hx))));obtain ⟨m,lb,gb,ob,lt,gt,ot,ld,gd,od,r0,r1,r2,r3,kL,kG,kO,gL,gG,gO,z1,z2,z3⟩:=zT t3 (fun x hx=>hw x (.inr (.inr (.inr (.inl hx)))));obtain ⟨ia,ins,ic,e4,hI,fI,yI⟩:=pN aInt t4;have s4:=kC Tryz.underlying32 yInt (fun x hx=>hw x (.inr (.inr (.inr (.inr (.inl hx)))))) (qK yI);refine ⟨⟨k,S,n2,la,ls,lc,ga,gs,gc,oa,os,oc,m,lb,lt,ld,gb,gt,gd,ob,ot,od,ia,ins,ic,nn⟩,?_,⟨by unfold maxLen at hS;show S.size<9223372036854775808;omega,s1,s2,s3,z1,z2,z3,s4,hL,hG,hO,kL,kG,kO,hI,fL,fG,fO,gL,gG,gO⟩⟩;rw [e0,e1,q0,q1,q2,q3,r0,r1,r2,r3,e4,e5]
 rfl
theorem aCH {H:Type}(P:Program) (e:TypeId){l:List (DataW H)}{d:DataW H}(h:d∈l){x:Nat}(hx:x∈DataW.weights P e d):x∈DataW.weightsAll P e l:=by
 induction l with
 | nil=>cases h
 | cons a l ih =>
  rw [DataW.weightsAll,List.mem_append]
  rcases List.mem_cons.1 h with rfl | h
  ·exact .inl hx
  ·exact .inr (ih h)
theorem aEF {H:Type}{enc:TypeId×Value→H}{W:World}{fuel:Nat}{v:Value}{y:DataW H×List MemPlace}
  (h:DataW.trod enc Tryz.prog W 0 (fun _=>true) true fuel 50 [v]=some y) (hw:∀x∈DataW.weights Tryz.prog 50 y.1,x≤reachBytes) :
  ∃(a:Option Addr) (len cap:Nat) (C:Nat→CallD),v=.slice a len cap∧len*216≤140737488351232 ∧
   (len=0∨∃b off,a=some ⟨b,off,none⟩∧b<W.heap.size∧∀i,i<len→(∀j,j<12→W.cell? ⟨b,off+i*12+j,none⟩=(C i).cells[j]?)∧CallOk W (C i)):=by
 rcases Deep.open_slice Tryz.underlying50 h with ⟨hcs,rfl⟩ | ⟨a,len,cap,mm,n,D,Pl,hcs,_,hl,hm,hmm,rfl,hel⟩
 ·simp only [List.cons.injEq,and_true] at hcs
  exact ⟨none,0,0,fun _=>⟨0,⟨#[]⟩,0,none,[],0,none,[],0,none,[],0,0,none,[],0,none,[],0,none,[],0,none,[],0,0⟩,hcs,by omega,.inl rfl⟩
 ·simp only [List.cons.injEq,and_true] at hcs
  simp only [if_true] at hmm;subst hmm;have hsz:=kC Tryz.underlying50 aMP hw (n:=len) (.inr ⟨_,_,rfl,by simp⟩);have hcell:∀i,i<len→∃c:CallD,(∀j,j<12→W.cell? ((a.add (i*12)).add j)=c.cells[j]?)∧CallOk W c:=by
   intro i hi;obtain ⟨cs',hc,ht⟩:=hel i (by omega);rw [aMF] at hc;obtain ⟨_,hl2,hcc⟩:=World.cells?_some hc;obtain ⟨c,hce,hok⟩:=aG9 hl2 ht (fun x hx=>hw x (by
    rw [DataW.weights,Tryz.underlying50];refine List.mem_cons_of_mem _ (List.mem_append_left _ (aCH _ _ (List.mem_map.2 ⟨i,List.mem_range.2 hi,rfl⟩) hx))))
   refine ⟨c,fun j hj=>?_,hok⟩;have hk:=hcc j hj;rw [hce] at hk;rw [hk]
   simp
  have inh:Inhabited CallD:=⟨⟨0,⟨#[]⟩,0,none,[],0,none,[],0,none,[],0,0,none,[],0,none,[],0,none,[],0,none,[],0,0⟩⟩
  obtain ⟨f,hf⟩:=Deep.choose_lt hcell;refine ⟨some a,len,_,f,hcs,hsz,?_⟩
  by_cases h00:len=0
  ·exact .inl h00
  ·obtain ⟨b,off,spot⟩:=a
   have hc0:W.cell? (((⟨b,off,spot⟩:Addr).add (0*12)).add 0)=some (.int .i64 (f 0).k):=(hf 0 (by omega)).1 0 (by omega);have hspot:spot=none:=(by simpa [Addr.add] using World.cell?_spot hc0)
   subst hspot;refine .inr ⟨b,off,rfl,by have:=block_lt_of_cell hc0;simpa [Addr.add] using this,fun i hi=>⟨fun j hj=>?_,(hf i hi).2⟩⟩;have:=(hf i hi).1 j hj;rw [mK,mK] at this
   exact this
end Go.Proofs.YtgpaajdfkekjiaaGreatDoor
namespace Go.Proofs.YtgpaajdfkekjiaaGreatDoor
set_option maxHeartbeats 8000000
set_option maxRecDepth 100000
open Go.RowKit
theorem tkH {P:Program}{md:Region.Mode}{ops:Array Oper}{Q:Exit→Act→World→Prop}{S:World→Prop}{i:Nat}{oi:Oper}{v:Value}{fuel:Nat}{listed:Array Bool}{a:Act}{w:World}
 (hi:ops[i]?=some oi:=by simp only [List.getElem?_toArray,List.getElem?_cons_succ,List.getElem?_cons_zero];rfl)
 (hs:Region.noSelect ops=true:=by kernel_rfl) (hf:Region.free md ops listed i=true:=by kernel_rfl) (hr:(Region.ready md ops listed).contains i=true:=by kernel_rfl)
 (hQ:∀c a w,Q (.panic c) (a.put oi.dst v) w→Q (.panic c) a w:=by exact fun _ _ _ h=>h) (hy:YieldsIf P ops S oi v a) (hS:S w)
 (h:wpAnyH P md ops Q S fuel (listed.setIfInBounds i true) (a.put oi.dst v) w):wpAnyH P md ops Q S (fuel+1) listed a w:=wpAnyH_take hi hs hf hr hQ hy hS h
theorem sSet {α:Type}:(∀(l:List α) (i:Nat) (a:α),l.toArray.setIfInBounds i a=(l.set i a).toArray)∧(∀(x:α) (l:List α) (a:α),(x :: l).set 0 a=a :: l)∧(∀(x:α) (l:List α) (i:Nat) (a:α),(x :: l).set (i+1) a=x :: l.set i a) :=
 ⟨fun _ _ _=>List.setIfInBounds_toArray ..,fun _ _ _=>rfl,fun _ _ _ _=>rfl⟩
theorem aK {w:World}{b:Nat}{v0 v1 v2 v3:Value}{t:TypeId}{fr:Nat×Nat}(h:w.heap[b]?=some (.cells #[v0,v1,v2,v3] t fr)):w.cell? ⟨b,0,none⟩=some v0∧w.cell? ⟨b,1,none⟩=some v1∧w.cell? ⟨b,2,none⟩=some v2∧w.cell? ⟨b,3,none⟩=some v3:=by
 refine ⟨?_,?_,?_,?_⟩<;> (rw [cell_of_row _ _ _ _ _ _ h];rfl)
theorem oE {w:World}{b:Nat}{v0 v1 v2 v3 v4 v5 v6 v7 v8 v9 v10 v11 v12 v13 v14 v15:Value}{t:TypeId}{fr:Nat×Nat}(h:w.heap[b]?=some (.cells #[v0,v1,v2,v3,v4,v5,v6,v7,v8,v9,v10,v11,v12,v13,v14,v15] t fr)):w.cell? ⟨b,0,none⟩=some v0∧w.cell? ⟨b,1,none⟩=some v1∧w.cell? ⟨b,2,none⟩=some v2∧w.cell? ⟨b,3,none⟩=some v3∧w.cell? ⟨b,4,none⟩=some v4∧w.cell? ⟨b,5,none⟩=some v5∧w.cell? ⟨b,6,none⟩=some v6∧w.cell? ⟨b,7,none⟩=some v7∧w.cell? ⟨b,8,none⟩=some v8∧w.cell? ⟨b,9,none⟩=some v9∧w.cell? ⟨b,10,none⟩=some v10∧w.cell? ⟨b,11,none⟩=some v11∧w.cell? ⟨b,12,none⟩=some v12∧w.cell? ⟨b,13,none⟩=some v13∧w.cell? ⟨b,14,none⟩=some v14∧w.cell? ⟨b,15,none⟩=some v15:=by
 refine ⟨?_,?_,?_,?_,?_,?_,?_,?_,?_,?_,?_,?_,?_,?_,?_,?_⟩<;> (rw [cell_of_row _ _ _ _ _ _ h];rfl)
end Go.Proofs.YtgpaajdfkekjiaaGreatDoor
