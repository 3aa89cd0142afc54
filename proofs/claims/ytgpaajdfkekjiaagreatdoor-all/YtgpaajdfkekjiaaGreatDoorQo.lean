/-
  A part of the proof of the statement All: texts of ours, made small by program (blanks, names).
-/
import Derived.Test.YtgpaajdfkekjiaaGreatDoorPg
import Derived.Test.YtgpaajdfkekjiaaGreatDoorQn
import Derived.Test.YtgpaajdfkekjiaaGreatDoorPo
import Derived.Deep.DeepCutAuto
import Derived.Deep.RegionWith
namespace Go.Proofs.YtgpaajdfkekjiaaGreatDoor
set_option maxHeartbeats 8000000
set_option maxRecDepth 100000
open Go.RowKit
structure RdS (w wr:World) (C hk:Nat) (ho:Option Obj) (n:Nat) (lv gv ov:Value) (ls gs:List (Int×Int)) (os:List Int) (R:List UInt8) (line:Nat):Prop where
 q:QInv wr C (C+1) (.int .i64 n) lv gv ov ls gs os
 hk1:w.heap.size+2≤hk
 hk2:hk<C
 boxA:wr.heap[w.heap.size]?=some (.cells #[.int .i64 0,.slice none 0 0,.slice none 0 0,.slice none 0 0] 34 (0,0))
 hb:wr.heap[hk]?=ho
 rd:RdAt wr (w.heap.size+1) R line
 bel:Below w.heap.size w wr
section
variable {w wr wr':World}{C hk n line line':Nat}{ho:Option Obj}{lv gv ov:Value}{ls gs:List (Int×Int)}{os:List Int}{R R':List UInt8}
theorem QInv.keep (I:QInv wr C (C+1) (.int .i64 n) lv gv ov ls gs os) (h:∀q,C≤q→q<wr.heap.size→wr'.heap[q]?=wr.heap[q]?) (hs:wr.heap.size≤wr'.heap.size):QInv wr' C (C+1) (.int .i64 n) lv gv ov ls gs os:=by
 have h2:=I.bs
 exact ⟨I.cb,by omega,(h C (Nat.le_refl _) (by omega)).trans I.boxC,aL I.ownL (fun q hq=>h q (by have:=(I.ownL.lt q hq).1;omega) (I.ownL.lt q hq).2),aL I.ownG (fun q hq=>h q (by have:=(I.ownG.lt q hq).1;omega) (I.ownG.lt q hq).2),aL I.ownO (fun q hq=>h q (by have:=(I.ownO.lt q hq).1;omega) (I.ownO.lt q hq).2),I.lg,I.lo,I.go'⟩
theorem RdS.next (I:RdS w wr C hk ho n lv gv ov ls gs os R line) (sp:Span (w.heap.size+1) (w.heap.size+1+1) wr wr') (rd':RdAt wr' (w.heap.size+1) R' line'):RdS w wr' C hk ho n lv gv ov ls gs os R' line':=by
 have h1:=I.hk1;have h2:=I.hk2;have h3:=I.q.bs
 exact ⟨I.q.keep (fun q h h'=>sp.block q h' (by omega)) sp.size,h1,h2,(sp.block _ (by omega) (by omega)).trans I.boxA,(sp.block _ (by omega) (by omega)).trans I.hb,rd',I.bel.trans (sp.below (by omega) (by omega))⟩
theorem RdS.alloc (I:RdS w wr C hk ho n lv gv ov ls gs os R line) (o:Obj):RdS w (wr.alloc o) C hk ho n lv gv ov ls gs os R line :=
 I.next (Span.of_below ((Below.refl _ _).alloc (Nat.le_refl _) _)) (I.rd.below ((Below.refl _ _).alloc (Nat.le_refl _) _))
theorem RdS.drew (I:RdS w wr C hk ho n lv gv ov ls gs os R line):RdS w wr.drew C hk ho n lv gv ov ls gs os R line:=I.next (Span.refl _ _ _).drew ⟨I.rd.c0,I.rd.c1,I.rd.f0,I.rd.f1⟩
theorem RdS.set (I:RdS w wr C hk ho n lv gv ov ls gs os R line){v x:Value}{g' i:Nat}(G:Grew wr wr' v g') (hv:∀q,v.ownBlock=some q→C+1≤q):w.heap.size+2≤hk∧hk<C∧(wr'.setCell ⟨C,i,none⟩ x).heap[w.heap.size]?=some (.cells #[.int .i64 0,.slice none 0 0,.slice none 0 0,.slice none 0 0] 34 (0,0))∧(wr'.setCell ⟨C,i,none⟩ x).heap[hk]?=ho∧RdAt (wr'.setCell ⟨C,i,none⟩ x) (w.heap.size+1) R line∧Below w.heap.size w (wr'.setCell ⟨C,i,none⟩ x):=by
 have h1:=I.hk1;have h2:=I.hk2;have h3:=I.q.bs;have far:∀k,k<C→(wr'.setCell ⟨C,i,none⟩ x).heap[k]?=wr.heap[k]?:=fun k hk=>(Deep.blk_setCell_other _ _ _ _ (show k≠C by omega)).trans (G.blk k (by omega) (fun e=>by have:=hv k e;omega))
 refine ⟨h1,h2,(far _ (by omega)).trans I.boxA,(far _ h2).trans I.hb,I.rd.blk (far _ (by omega)),?_⟩;have b1:Below w.heap.size w wr':=I.bel.trans ⟨G.grow.os,G.grow.tape,G.grow.output,G.grow.size,fun k hk=>G.blk k (by omega) (fun e=>by have:=hv k e;omega)⟩
 exact b1.setCell (show w.heap.size≤C by omega) _
theorem RdS.addL (I:RdS w wr C hk ho n lv gv ov ls gs os R line){g' cap':Nat}{x y:Int}(own':wr'.ownsRow (C+1) 54 2 (.slice (some ⟨g',0,none⟩) (ls.length+1) cap') (ls.length+1) (flat ls++[.int .i64 x,.int .i64 y])) (G:Grew wr wr' lv g') :
  RdS w (wr'.setCell ⟨C,1,none⟩ (.slice (some ⟨g',0,none⟩) (ls.length+1) cap')) C hk ho n (.slice (some ⟨g',0,none⟩) (ls.length+1) cap') gv ov (ls++[(x,y)]) gs os R line:=by
 obtain ⟨h1,h2,h3,h4,h5,h6⟩:=I.set (i:=1) (x:=.slice (some ⟨g',0,none⟩) (ls.length+1) cap') G (fun q hq=>(I.q.ownL.lt q hq).1)
 exact ⟨I.q.addL own' G,h1,h2,h3,h4,h5,h6⟩
theorem RdS.addG (I:RdS w wr C hk ho n lv gv ov ls gs os R line){g' cap':Nat}{x y:Int}(own':wr'.ownsRow (C+1) 56 2 (.slice (some ⟨g',0,none⟩) (gs.length+1) cap') (gs.length+1) (flat gs++[.int .i64 x,.int .i64 y])) (G:Grew wr wr' gv g') :
  RdS w (wr'.setCell ⟨C,2,none⟩ (.slice (some ⟨g',0,none⟩) (gs.length+1) cap')) C hk ho n lv (.slice (some ⟨g',0,none⟩) (gs.length+1) cap') ov ls (gs++[(x,y)]) os R line:=by
 obtain ⟨h1,h2,h3,h4,h5,h6⟩:=I.set (i:=2) (x:=.slice (some ⟨g',0,none⟩) (gs.length+1) cap') G (fun q hq=>(I.q.ownG.lt q hq).1)
 exact ⟨I.q.addG own' G,h1,h2,h3,h4,h5,h6⟩
theorem RdS.addO (I:RdS w wr C hk ho n lv gv ov ls gs os R line){g' cap':Nat}{x:Int}(own':wr'.ownsRow (C+1) 3 1 (.slice (some ⟨g',0,none⟩) (os.length+1) cap') (os.length+1) (ivs os++[.int .i64 x])) (G:Grew wr wr' ov g') :
  RdS w (wr'.setCell ⟨C,3,none⟩ (.slice (some ⟨g',0,none⟩) (os.length+1) cap')) C hk ho n lv gv (.slice (some ⟨g',0,none⟩) (os.length+1) cap') ls gs (os++[x]) R line:=by
 obtain ⟨h1,h2,h3,h4,h5,h6⟩:=I.set (i:=3) (x:=.slice (some ⟨g',0,none⟩) (os.length+1) cap') G (fun q hq=>(I.q.ownO.lt q hq).1)
 exact ⟨I.q.addO own' G,h1,h2,h3,h4,h5,h6⟩
end
theorem eK {w:World}{b:Nat}{o:Option Obj}(h:w.heap[b]?=o):w.drew.heap[b]?=o:=h
theorem aFA {w:World}{p:Addr}{o:Option Value}(h:w.cell? p=o):w.drew.cell? p=o:=h
theorem cW {w:World}{b q i:Nat}{v:Value}(hq:q≠b) (h:w.cell? ⟨q,i,none⟩=some v) (v0 v1 v2 v3:Value):(box4 w b v0 v1 v2 v3).drew.cell? ⟨q,i,none⟩=some v :=
 aFA (by
  unfold box4;have hne:∀j,(⟨q,i,none⟩:Addr)≠⟨b,j,none⟩:=fun j e=>hq (congrArg Addr.block e)
  rw [World.cell?_setCell_other _ _ _ _ (hne 3).symm,World.cell?_setCell_other _ _ _ _ (hne 2).symm,World.cell?_setCell_other _ _ _ _ (hne 1).symm,World.cell?_setCell_other _ _ _ _ (hne 0).symm]
  exact h)
theorem jT {w:World}{base c n:Nat}{a:Option Addr}{ns:List Nat}(h:w.ownsRow base 3 1 (.slice a n c) n (aP ns)) (h0:0<n):∃g,a=some ⟨g,0,none⟩∧base≤g∧g<w.heap.size∧∀j,j<n→w.cell? ⟨g,j,none⟩=some (.int .i64 ((ns.getD j 0:Nat):Int)):=by
 rcases h.2 with ⟨_,h'⟩ | ⟨g,cap,cur,hv,_⟩
 ·omega
 ·simp only [Value.slice.injEq,true_and] at hv
  obtain ⟨rfl,rfl⟩:=hv;refine ⟨g,rfl,(h.lt g rfl).1,(h.lt g rfl).2,fun j hj=>?_⟩;have:=nE h j hj
  rwa [Nat.zero_add] at this
theorem cN {ns:List Nat}(h:∀n∈ns,n<1000000) (j:Nat):ns.getD j 0<1000000:=by
 rw [List.getD_eq_getElem?_getD]
 by_cases hk:j<ns.length
 ·rw [List.getElem?_eq_getElem hk];exact h _ (List.getElem_mem hk)
 ·rw [List.getElem?_eq_none (by omega)];simp
theorem bD {tmps:Array Value}{Q:Ending→World→Prop}{w:World}{b:Nat}{v0 v1 v2 v3 x y:Value}(h:w.heap[b]?=some (.cells #[v0,v1,v2,v3] 34 (0,0)))
  (h2:tmps[2]?.getD undef=.pointer (some ⟨b,0,none⟩)) (h3:tmps[3]?.getD undef=x) (h4:tmps[4]?.getD undef=y) (hQ:Q (.returned (.tuple #[.agg #[v0,v1,v2,v3],x,y])) w) :
  bodyPost Tryz.prog Tryz.f20 Q Exit.ret ⟨tmps,[]⟩ w:=by
 obtain ⟨c0,c1,c2,c3⟩:=aK h
 exact bodyPost_ret (by simp [results,Tryz.results20,go_sem,h2,h3,h4,c0,c1,c2,c3]) rfl hQ
def vM (w:World) (S:List UInt8) (e:Ending) (w':World):Prop :=
 Below w.heap.size w w'∧((∃line:Nat,Ans S none line∧e=.returned (.tuple #[.agg #[.int .i64 0,.slice none 0 0,.slice none 0 0,.slice none 0 0],.int .i64 line,.int .i64 1]))∨
  (∃(n:Nat) (ls gs:List (Int×Int)) (os:List Int) (la ga oa:Option Addr) (lc gc oc:Nat),Ans S (some ⟨n,ls,gs,os⟩) 0∧e=.returned (.tuple #[.agg #[.int .i64 n,.slice la ls.length lc,.slice ga gs.length gc,.slice oa os.length oc],.int .i64 0,.int .i64 0])∧
   w'.ownsRow w.heap.size 54 2 (.slice la ls.length lc) ls.length (flat ls)∧w'.ownsRow w.heap.size 56 2 (.slice ga gs.length gc) gs.length (flat gs)∧w'.ownsRow w.heap.size 3 1 (.slice oa os.length oc) os.length (ivs os)))
theorem wX (S:List UInt8) (w:World) (hS:S.length≤1000):Calls Tryz.prog 20 #[.string ⟨S.toArray⟩] w (vM w S):=by
 have hcS:((⟨S.toArray⟩:ByteArray).size:Int)=S.length:=by rw [rA]
 obtain ⟨W2,hW2⟩:∃W2,W2=(w.alloc (.cells #[.int .i64 0,.slice none 0 0,.slice none 0 0,.slice none 0 0] 34)).alloc (.cells #[.string ⟨S.toArray⟩,.int .i64 0] 103):=⟨_,rfl⟩
 have s2:W2.heap.size=w.heap.size+2:=by rw [hW2];simp
 have B2:Below w.heap.size w W2:=by rw [hW2];exact ((Below.refl _ _).alloc (Nat.le_refl _) _).alloc (by simp) _
 have bA2:W2.heap[w.heap.size]?=some (.cells #[.int .i64 0,.slice none 0 0,.slice none 0 0,.slice none 0 0] 34 (0,0)):=by rw [hW2];exact aA (aB _ _ _ rfl)
 have bR2:W2.heap[w.heap.size+1]?=some (.cells #[.string ⟨S.toArray⟩,.int .i64 0] 103 (0,0)):=by rw [hW2];exact aB _ _ _ (by simp)
 have rd2:RdAt W2 (w.heap.size+1) S 0:=⟨by rw [cell_of_row _ _ _ _ _ _ bR2];rfl,by rw [cell_of_row _ _ _ _ _ _ bR2];rfl,frozen_of_row _ _ _ _ _ bR2,frozen_of_row _ _ _ _ _ bR2⟩
 obtain ⟨iO,hiO,zO0,zO1,zO2⟩:=info_parts Tryz.infoInt;obtain ⟨iG,hiG,zG0,zG1,zG2⟩:=info_parts Tryz.infoGq;obtain ⟨iL,hiL,zL0,zL1,zL2⟩:=info_parts Tryz.infoLq;have hSI:¬((1000:Int)<(S.length:Int)):=by omega
 have call:=gV aag S 5 0 (w.heap.size+1) W2 rd2 hS (by simp [aag]) (by simp [aag]) (by omega) (by omega)
 go_enter Tryz.func20,Tryz.ntmps20
 go_upto_region 4 with fail
 rw [←hW2];clear hW2
 go_wp2_with fail
 refine call.mono ?_;rintro e w4 ⟨sp4,hres⟩;have bA4:=(sp4.block w.heap.size (by omega) (by omega)).trans bA2;have B4:Below w.heap.size w w4:=B2.trans (sp4.below (by omega) (by omega));have s4:=sp4.size
 rcases hres with ⟨ns,a4,cap4,R,hgot,hsm,rd4,hlen,rfl,own4⟩ | ⟨R,a4,n4,cap4,hno,rd4,rfl⟩
 ·have hl5:ns.length=5:=hgot.1
  obtain ⟨hk,rfl,hk1,hk2,hkc⟩:=jT own4 (by omega);have hstep:=pQ hgot;have y0:=hkc 0 (by omega);have y1:=hkc 1 (by omega);have y2:=hkc 2 (by omega);have y3:=hkc 3 (by omega);have y4:=hkc 4 (by omega);have z0:=cN hsm 0;have z1:=cN hsm 1;have z2:=cN hsm 2;have z3:=cN hsm 3;have z4:=cN hsm 4;obtain ⟨n0,e0⟩:∃n,n=ns.getD 0 0:=⟨_,rfl⟩
  obtain ⟨n1,e1⟩:∃n,n=ns.getD 1 0:=⟨_,rfl⟩
  obtain ⟨n2,e2⟩:∃n,n=ns.getD 2 0:=⟨_,rfl⟩
  obtain ⟨n3,e3⟩:∃n,n=ns.getD 3 0:=⟨_,rfl⟩
  obtain ⟨n4,e4⟩:∃n,n=ns.getD 4 0:=⟨_,rfl⟩
  rw [←e0] at y0 z0 hstep;rw [←e1] at y1 z1 hstep;rw [←e2] at y2 z2 hstep;rw [←e3] at y3 z3 hstep;rw [←e4] at y4 z4 hstep;rw [hl5];have HST:=hidN hstep;have HLEN:=hidN hlen;clear e0 e1 e2 e3 e4 hstep hlen hkc own4 hgot hsm hl5 call
  go_upto_region 5 with fail
  go_cut [77] (fun t wy=>t=.bool (!decide (n1≤4∧n2≤4∧n3≤4∧n4≤30∧n0=n1+n2+n4))∧∃d,wy=w4.drewN d)
  case first =>
   as_aux_lemma =>
    by_cases g1:4<n1
    ·have t1:decide ((4:Int)<(n1:Int))=true:=by simp;omega
     have HB:=hidN (show (!decide (n1≤4∧n2≤4∧n3≤4∧n4≤30∧n0=n1+n2+n4))=true by simp;omega);clear g1;go_wp2
     go_quiet (fail)
     go_wp2
     go_meet
     case rel=>exact ⟨by rw [HB.out],_,rfl⟩
    ·have t1:decide ((4:Int)<(n1:Int))=false:=by simp;omega
     by_cases g2:4<n2
     ·have t2:decide ((4:Int)<(n2:Int))=true:=by simp;omega
      have HB:=hidN (show (!decide (n1≤4∧n2≤4∧n3≤4∧n4≤30∧n0=n1+n2+n4))=true by simp;omega);clear g1 g2;go_wp2
      go_quiet (fail)
      go_wp2
      go_meet
      case rel=>exact ⟨by rw [HB.out],_,rfl⟩
     ·have t2:decide ((4:Int)<(n2:Int))=false:=by simp;omega
      by_cases g3:4<n3
      ·have t3:decide ((4:Int)<(n3:Int))=true:=by simp;omega
       have HB:=hidN (show (!decide (n1≤4∧n2≤4∧n3≤4∧n4≤30∧n0=n1+n2+n4))=true by simp;omega);clear g1 g2 g3;go_wp2
       go_quiet (fail)
       go_wp2
       go_meet
       case rel=>exact ⟨by rw [HB.out],_,rfl⟩
      ·have t3:decide ((4:Int)<(n3:Int))=false:=by simp;omega
       by_cases g4:30<n4
       ·have t4:decide ((30:Int)<(n4:Int))=true:=by simp;omega
        have HB:=hidN (show (!decide (n1≤4∧n2≤4∧n3≤4∧n4≤30∧n0=n1+n2+n4))=true by simp;omega);clear g1 g2 g3 g4;go_wp2
        go_quiet (fail)
        go_wp2
        go_meet
        case rel=>exact ⟨by rw [HB.out],_,rfl⟩
       ·have t4:decide ((30:Int)<(n4:Int))=false:=by simp;omega
        by_cases g5:n0=n1+n2+n4
        ·have t5:((n0:Int) != (n1:Int)+(n2:Int)+(n4:Int))=false:=by simp;omega
         have HB:=hidN (show (!decide (n1≤4∧n2≤4∧n3≤4∧n4≤30∧n0=n1+n2+n4))=false by simp;omega);clear g1 g2 g3 g4 g5;go_wp2
         go_quiet (fail)
         go_wp2
         go_meet
         case rel=>exact ⟨by rw [HB.out],_,rfl⟩
        ·have t5:((n0:Int) != (n1:Int)+(n2:Int)+(n4:Int))=true:=by simp;omega
         have HB:=hidN (show (!decide (n1≤4∧n2≤4∧n3≤4∧n4≤30∧n0=n1+n2+n4))=true by simp;omega);clear g1 g2 g3 g4 g5;go_wp2
         go_quiet (fail)
         go_wp2
         go_meet
         case rel=>exact ⟨by rw [HB.out],_,rfl⟩
  case rest =>
   obtain ⟨rfl,d,rfl⟩:=hcut;have bA5:(w4.drewN d).heap[w.heap.size]?=some (.cells #[.int .i64 0,.slice none 0 0,.slice none 0 0,.slice none 0 0] 34 (0,0)):=bA4;have rd5:=rd4.drewN d;have B5:Below w.heap.size w (w4.drewN d):=below_drewN B4 d;have s5:w4.heap.size=(w4.drewN d).heap.size:=rfl;have y0':(w4.drewN d).cell? ⟨hk,0,none⟩=some (.int .i64 (n0:Int)):=y0;have y1':(w4.drewN d).cell? ⟨hk,1,none⟩=some (.int .i64 (n1:Int)):=y1;have y2':(w4.drewN d).cell? ⟨hk,2,none⟩=some (.int .i64 (n2:Int)):=y2;have y3':(w4.drewN d).cell? ⟨hk,3,none⟩=some (.int .i64 (n3:Int)):=y3;have y4':(w4.drewN d).cell? ⟨hk,4,none⟩=some (.int .i64 (n4:Int)):=y4;obtain ⟨w5,hw5⟩:∃w5,w5=w4.drewN d:=⟨_,rfl⟩
   rw [←hw5] at bA5 rd5 B5 s5 y0' y1' y2' y3' y4' ⊢;clear hw5 y0 y1 y2 y3 y4 bA4 rd4 B4 sp4
   by_cases hbad:n1≤4∧n2≤4∧n3≤4∧n4≤30∧n0=n1+n2+n4
   ·have hb2:(!decide (n1≤4∧n2≤4∧n3≤4∧n4≤30∧n0=n1+n2+n4))=false:=by simp [hbad]
    rw [hb2];have hst:=HST.out;rw [if_pos hbad] at hst;obtain ⟨h1,h2,h3,h4,h5⟩:=hbad;have H5:=hidN h5;have run1:runN S 1=some ⟨some ⟨n1,n2,n3,n4⟩,0,[],[],[],R⟩:=eI (k:=0) rfl hst;have hok:Hd.Ok ⟨n1,n2,n3,n4⟩:=⟨h1,h2,h3,h4⟩
    obtain ⟨all,hall⟩:∃a,a=n0+1:=⟨_,rfl⟩
    have hallI:(n0:Int)+1=(all:Int):=(by omega)
    have HALL:=hidN (show all=n1+n2+n4+1 by omega);obtain ⟨W6,hW6⟩:∃W6,W6=w5.alloc (.cells #[.int .i64 n1,.slice none 0 0,.slice none 0 0,.slice none 0 0] 34):=⟨_,rfl⟩
    have B6:Below w5.heap.size w5 W6:=(by rw [hW6];exact (Below.refl _ _).alloc (Nat.le_refl _) _)
    obtain ⟨ho,hho⟩:∃ho,ho=w5.heap[hk]?:=⟨_,rfl⟩
    have hhc:∀(W:World),W.heap[hk]?=ho→W.cell? ⟨hk,1,none⟩=some (.int .i64 (n1:Int))∧W.cell? ⟨hk,2,none⟩=some (.int .i64 (n2:Int))∧W.cell? ⟨hk,3,none⟩=some (.int .i64 (n3:Int))∧W.cell? ⟨hk,4,none⟩=some (.int .i64 (n4:Int)):=fun W hW=>by
     rw [hho] at hW
     exact ⟨(World.cell?_of_block (w:=w5) hW).trans y1',(World.cell?_of_block (w:=w5) hW).trans y2',(World.cell?_of_block (w:=w5) hW).trans y3',(World.cell?_of_block (w:=w5) hW).trans y4'⟩
    have HC:=hidN hhc;have cR0:W6.cell? ⟨hk,0,none⟩=some (.int .i64 (n0:Int)):=(B6.cell (p:=⟨hk,0,none⟩) (show hk<w5.heap.size by omega)).trans y0';have I6:RdS w W6 w5.heap.size hk ho n1 (.slice none 0 0) (.slice none 0 0) (.slice none 0 0) [] [] [] R 1:=by
     refine ⟨⟨by omega,by rw [hW6];simp,by rw [hW6];exact aB _ _ _ rfl,World.ownsRow_nil _ _ _ _,World.ownsRow_nil _ _ _ _,World.ownsRow_nil _ _ _ _,(fun q e=>by cases e),(fun q e=>by cases e),(fun q e=>by cases e)⟩,by omega,by omega,(B6.block _ (by omega)).trans bA5,(B6.block _ (by omega)).trans hho.symm,rd5.below B6,B5.trans (B6.mono B5.size)⟩
    obtain ⟨C,hC⟩:∃C,C=w5.heap.size:=⟨_,rfl⟩
    have HL9:=HLEN.out;have hR:R.length≤1000:=(by omega)
    rw [hW6] at cR0;clear hst hhc hho HST HLEN HL9 h5 hall
    go_wp2_with fail
    rw [←hW6];rw [←hC] at I6 ⊢;clear hW6 B6 cR0 y0' y1' y2' y3' y4' bA5 rd5 B5 hallI hC H5
    go_loopw [10,11] (fun v i wr=>∃(k V ln:Nat) (R':List UInt8),k≤n1∧i=.int .i64 k∧v=.int .i64 V∧V=2*k+2∧ln≤1+k∧runN S ln=some ⟨some ⟨n1,n2,n3,n4⟩,k,[],[],[],R'⟩∧RdS w wr C hk ho n1 (.slice none 0 0) (.slice none 0 0) (.slice none 0 0) [] [] [] R' ln∧R'.length≤1000) (fun _ i _=>n1 - (intOf i).toNat)
    case atStart=>exact ⟨0,2,1,R,Nat.zero_le _,rfl,rfl,rfl,Nat.le_refl _,run1,I6,hR⟩
    case round =>
     clear I6 run1 hR R;obtain ⟨k,V,ln,R,hk9,rfl,rfl,hV,hln,hrun,I,hR⟩:=hrel;have y1:=(HC.out wr I.hb).1;have HV:=hidN hV;have HRUN:=hidN hrun;clear hrun
     by_cases hkn:k<n1
     ·as_aux_lemma =>
       have hknI:(k:Int)<(n1:Int):=by omega
       go_wp2_with fail
       refine (gV [] R 1 ln (w.heap.size+1) wr I.rd hR (by simp) (by simp) (by omega) (by omega)).mono ?_;rintro e w7 ⟨sp7,hres⟩
       rcases hres with ⟨ns,a7,cap7,R7,hgot,hsm,rd7,hlen,rfl,own7⟩ | ⟨R7,a7,m7,cap7,hno,rd7,rfl⟩
       ·have I7:=I.next sp7 rd7
        have hlc:ns.length=1:=hgot.1;obtain ⟨g7,rfl,g71,g72,hkc⟩:=jT own7 (by omega);have k0:=hkc 0 (by omega);have z0:=cN hsm 0;have hstep:=vH (h:=⟨n1,n2,n3,n4⟩) (i:=k) (ls:=[]) (os:=[]) (gs:=[]) hok hkn hgot;obtain ⟨x0,e0⟩:∃n,n=ns.getD 0 0:=⟨_,rfl⟩
        rw [←e0] at k0 z0 hstep;rw [hlc];have hrl:R7.length≤1000:=Nat.le_trans hlen hR;have HGE:=hidN (show wr.heap.size≤g7 from g71);clear e0 hkc own7 hgot hsm hlc hlen
        by_cases hx:x0=V
        ·have hx2:=hx.symm
         subst hx2;have hc0:((V:Int) != (V:Int))=false:=(by simp)
         rw [if_pos (by omega)] at hstep;have HR7:=hidN (eI HRUN.out hstep);clear hstep hV;go_wp2
         go_roundw
         case rel=>exact ⟨k+1,V+2,ln+1,R7,by omega,by go_num,by go_num,by have:=HV.out;omega,by omega,HR7.out,I7,hrl⟩
         case measure=>simp [intOf];omega
        ·have hc0:((x0:Int) != (V:Int))=true:=by simp;omega
         rw [if_neg (by omega)] at hstep;clear hV;have HA:=hidN (bI hS HRUN.out hstep (lY hkn));clear hstep hx;obtain ⟨l1,hl1⟩:∃l1,l1=ln+1:=⟨_,rfl⟩
         rw [←hl1] at I7 HA;have IA:=I7.boxA;have r1:=I7.rd.c1;have r1x:=cW (show w.heap.size+1≠w.heap.size by omega) r1 (.int .i64 0) (.slice none 0 0) (.slice none 0 0) (.slice none 0 0);unfold box4 at r1x;have IB:=eK (aS IA (.int .i64 0) (.slice none 0 0) (.slice none 0 0) (.slice none 0 0));unfold box4 at IB;have BB:=(aH I7.bel (Nat.le_refl _) (.int .i64 0) (.slice none 0 0) (.slice none 0 0) (.slice none 0 0)).drew;unfold box4 at BB;have RX:=hidN r1x;have RB:=hidN IB;have RE:=hidN BB;clear r1x IB BB;obtain ⟨u0,u1,u2,u3⟩:=aK IA;have v0:w7.frozen? ⟨w.heap.size,0,none⟩=false:=frozen_of_row _ _ _ _ _ IA;have v1:w7.frozen? ⟨w.heap.size,1,none⟩=false:=frozen_of_row _ _ _ _ _ IA;have v2:w7.frozen? ⟨w.heap.size,2,none⟩=false:=frozen_of_row _ _ _ _ _ IA;have v3:w7.frozen? ⟨w.heap.size,3,none⟩=false:=frozen_of_row _ _ _ _ _ IA;clear hl1
         go_upto_region 15 with fail
         refine wp_region_noPanic ?_;refine wp_region_any (by kernel_rfl) ?_;simp only [List.size_toArray,List.length_cons,List.length_nil,Nat.zero_add,Nat.reduceAdd];refine wpAny_of_held (S:=fun w'=>w'.cell? ⟨w.heap.size+1,1,none⟩=some (.int .i64 (l1:Int))) _ _ _ _ ?_;have hHeld:(fun w':World=>w'.cell? ⟨w.heap.size+1,1,none⟩=some (.int .i64 (l1:Int))) w7.drew:=r1;refine tkH (i:=0) (v:=?_) (hS:=hHeld) (hy:=Or.inl ⟨by rfl,?_⟩) (h:=?_)
         rotate_left 1
         ·(intro w0 hSw;(try dsimp only at hSw);go_simp;try (with_reducible rfl))
         simp only [Act.put,sSet];refine tkH (i:=1) (v:=?_) (hS:=hHeld) (hy:=Or.inl ⟨by rfl,?_⟩) (h:=?_)
         rotate_left 1
         ·(intro w0 hSw;(try dsimp only at hSw);go_simp;try (with_reducible rfl))
         simp only [Act.put,sSet];refine tkH (i:=2) (v:=?_) (hS:=hHeld) (hy:=Or.inl ⟨by rfl,?_⟩) (h:=?_)
         rotate_left 1
         ·(intro w0 hSw;(try dsimp only at hSw);go_simp;try (with_reducible rfl))
         simp only [Act.put,sSet];refine tkH (i:=3) (v:=?_) (hS:=hHeld) (hy:=Or.inl ⟨by rfl,?_⟩) (h:=?_)
         rotate_left 1
         ·(intro w0 hSw;(try dsimp only at hSw);go_simp;try (with_reducible rfl))
         simp only [Act.put,sSet];refine tkH (i:=4) (v:=?_) (hS:=hHeld) (hy:=Or.inl ⟨by rfl,?_⟩) (h:=?_)
         rotate_left 1
         ·(intro w0 hSw;(try dsimp only at hSw);go_simp;try (with_reducible rfl))
         simp only [Act.put,sSet];refine wpAnyH_ready (rs:=[5]) (by kernel_rfl) (by simp) (AllReadyH.cons (by simp only [List.getElem?_toArray,List.getElem?_cons_succ,List.getElem?_cons_zero];rfl) (fun K hK=>?_) AllReadyH.nil);go_simp;refine hK.out _ _ ?_ (fun hHeld=>?_)
         ·exact RX.out
         clear hK K
         try simp only [Act.put,sSet]
         refine tkH (i:=6) (v:=?_) (hS:=hHeld) (hy:=Or.inl ⟨by rfl,?_⟩) (h:=?_)
         rotate_left 1
         ·(intro w0 hSw;(try dsimp only at hSw);go_simp;try (with_reducible rfl))
         simp only [Act.put,sSet];refine tkH (i:=7) (v:=?_) (hS:=hHeld) (hy:=Or.inl ⟨by rfl,?_⟩) (h:=?_)
         rotate_left 1
         ·(intro w0 hSw;(try dsimp only at hSw);go_simp;try (with_reducible rfl))
         simp only [Act.put,sSet];refine wpAnyH_done (by kernel_rfl) ?_ _;refine NoPanic.normal ?_;clear hHeld;go_wp2;refine bD (b:=w.heap.size) (x:=.int .i64 l1) (y:=.int .i64 1) RB.out (by simp only [List.getElem?_toArray,List.getElem?_cons_succ,List.getElem?_cons_zero,Option.getD_some]) (by simp only [List.getElem?_toArray,List.getElem?_cons_succ,List.getElem?_cons_zero,Option.getD_some]) (by simp only [List.getElem?_toArray,List.getElem?_cons_succ,List.getElem?_cons_zero,Option.getD_some]) ?_
         exact ⟨RE.out,.inl ⟨l1,HA.out,rfl⟩⟩
       ·have I7:=I.next sp7 rd7
        have HA:=hidN (bI hS HRUN.out (aAG (h:=⟨n1,n2,n3,n4⟩) hkn hno) (lY hkn));clear hno hV;obtain ⟨l1,hl1⟩:∃l1,l1=ln+1:=⟨_,rfl⟩
        rw [←hl1] at I7 HA;have IA:=I7.boxA;have r1:=I7.rd.c1;have r1x:=cW (show w.heap.size+1≠w.heap.size by omega) r1 (.int .i64 0) (.slice none 0 0) (.slice none 0 0) (.slice none 0 0);unfold box4 at r1x;have IB:=eK (aS IA (.int .i64 0) (.slice none 0 0) (.slice none 0 0) (.slice none 0 0));unfold box4 at IB;have BB:=(aH I7.bel (Nat.le_refl _) (.int .i64 0) (.slice none 0 0) (.slice none 0 0) (.slice none 0 0)).drew;unfold box4 at BB;have RX:=hidN r1x;have RB:=hidN IB;have RE:=hidN BB;clear r1x IB BB;obtain ⟨u0,u1,u2,u3⟩:=aK IA;have v0:w7.frozen? ⟨w.heap.size,0,none⟩=false:=frozen_of_row _ _ _ _ _ IA;have v1:w7.frozen? ⟨w.heap.size,1,none⟩=false:=frozen_of_row _ _ _ _ _ IA;have v2:w7.frozen? ⟨w.heap.size,2,none⟩=false:=frozen_of_row _ _ _ _ _ IA;have v3:w7.frozen? ⟨w.heap.size,3,none⟩=false:=frozen_of_row _ _ _ _ _ IA;clear hl1
        go_upto_region 15 with fail
        refine wp_region_noPanic ?_;refine wp_region_any (by kernel_rfl) ?_;simp only [List.size_toArray,List.length_cons,List.length_nil,Nat.zero_add,Nat.reduceAdd];refine wpAny_of_held (S:=fun w'=>w'.cell? ⟨w.heap.size+1,1,none⟩=some (.int .i64 (l1:Int))) _ _ _ _ ?_;have hHeld:(fun w':World=>w'.cell? ⟨w.heap.size+1,1,none⟩=some (.int .i64 (l1:Int))) w7.drew:=r1;refine tkH (i:=0) (v:=?_) (hS:=hHeld) (hy:=Or.inl ⟨by rfl,?_⟩) (h:=?_)
        rotate_left 1
        ·(intro w0 hSw;(try dsimp only at hSw);go_simp;try (with_reducible rfl))
        simp only [Act.put,sSet];refine tkH (i:=1) (v:=?_) (hS:=hHeld) (hy:=Or.inl ⟨by rfl,?_⟩) (h:=?_)
        rotate_left 1
        ·(intro w0 hSw;(try dsimp only at hSw);go_simp;try (with_reducible rfl))
        simp only [Act.put,sSet];refine tkH (i:=2) (v:=?_) (hS:=hHeld) (hy:=Or.inl ⟨by rfl,?_⟩) (h:=?_)
        rotate_left 1
        ·(intro w0 hSw;(try dsimp only at hSw);go_simp;try (with_reducible rfl))
        simp only [Act.put,sSet];refine tkH (i:=3) (v:=?_) (hS:=hHeld) (hy:=Or.inl ⟨by rfl,?_⟩) (h:=?_)
        rotate_left 1
        ·(intro w0 hSw;(try dsimp only at hSw);go_simp;try (with_reducible rfl))
        simp only [Act.put,sSet];refine tkH (i:=4) (v:=?_) (hS:=hHeld) (hy:=Or.inl ⟨by rfl,?_⟩) (h:=?_)
        rotate_left 1
        ·(intro w0 hSw;(try dsimp only at hSw);go_simp;try (with_reducible rfl))
        simp only [Act.put,sSet];refine wpAnyH_ready (rs:=[5]) (by kernel_rfl) (by simp) (AllReadyH.cons (by simp only [List.getElem?_toArray,List.getElem?_cons_succ,List.getElem?_cons_zero];rfl) (fun K hK=>?_) AllReadyH.nil);go_simp;refine hK.out _ _ ?_ (fun hHeld=>?_)
        ·exact RX.out
        clear hK K
        try simp only [Act.put,sSet]
        refine tkH (i:=6) (v:=?_) (hS:=hHeld) (hy:=Or.inl ⟨by rfl,?_⟩) (h:=?_)
        rotate_left 1
        ·(intro w0 hSw;(try dsimp only at hSw);go_simp;try (with_reducible rfl))
        simp only [Act.put,sSet];refine tkH (i:=7) (v:=?_) (hS:=hHeld) (hy:=Or.inl ⟨by rfl,?_⟩) (h:=?_)
        rotate_left 1
        ·(intro w0 hSw;(try dsimp only at hSw);go_simp;try (with_reducible rfl))
        simp only [Act.put,sSet];refine wpAnyH_done (by kernel_rfl) ?_ _;refine NoPanic.normal ?_;clear hHeld;go_wp2;refine bD (b:=w.heap.size) (x:=.int .i64 l1) (y:=.int .i64 1) RB.out (by simp only [List.getElem?_toArray,List.getElem?_cons_succ,List.getElem?_cons_zero,Option.getD_some]) (by simp only [List.getElem?_toArray,List.getElem?_cons_succ,List.getElem?_cons_zero,Option.getD_some]) (by simp only [List.getElem?_toArray,List.getElem?_cons_succ,List.getElem?_cons_zero,Option.getD_some]) ?_
        exact ⟨RE.out,.inl ⟨l1,HA.out,rfl⟩⟩
     ·have hkN:k=n1:=by omega
      rw [hkN] at HRUN HV hln ⊢;have y2:=(HC.out wr I.hb).2.1;have hln5:ln≤5:=(by omega)
      clear hkN hkn hk9 hV hln
      go_wp2_with fail
      clear y1 y2
      go_loopw [10,14] (fun v i wr=>∃(ls:List (Int×Int)) (V ln:Nat) (R':List UInt8) (lv:Value),ls.length≤n2∧i=.int .i64 ls.length∧v=.int .i64 V∧V=2*(n1+ls.length)+2∧ln≤5+ls.length∧runN S ln=some ⟨some ⟨n1,n2,n3,n4⟩,n1,ls,[],[],R'⟩∧RdS w wr C hk ho n1 lv (.slice none 0 0) (.slice none 0 0) ls [] [] R' ln∧R'.length≤1000) (fun _ i _=>n2 - (intOf i).toNat)
      case atStart=>exact ⟨[],V,ln,R,_,Nat.zero_le _,rfl,rfl,by have:=HV.out;simp;omega,by simp;omega,HRUN.out,I,hR⟩
      case round =>
       clear I HRUN hR R HV;obtain ⟨ls,V,ln,R,lv,hk9,rfl,rfl,hV,hln,hrun,I,hR⟩:=hrel;have y2:=(HC.out wr I.hb).2.1;have HV:=hidN hV;have HRUN:=hidN hrun;clear hrun
       by_cases hkn:ls.length<n2
       ·as_aux_lemma =>
         have hknI:(ls.length:Int)<(n2:Int):=(by omega)
         have hl4:ls.length≤4:=by omega
         go_wp2_with fail
         refine (gV [] R 3 ln (w.heap.size+1) wr I.rd hR (by simp) (by simp) (by omega) (by omega)).mono ?_;rintro e w7 ⟨sp7,hres⟩
         rcases hres with ⟨ns,a7,cap7,R7,hgot,hsm,rd7,hlen,rfl,own7⟩ | ⟨R7,a7,m7,cap7,hno,rd7,rfl⟩
         ·have I7:=I.next sp7 rd7
          have hlc:ns.length=3:=hgot.1;obtain ⟨g7,rfl,g71,g72,hkc⟩:=jT own7 (by omega);have k0:=hkc 0 (by omega);have z0:=cN hsm 0;have k1:=hkc 1 (by omega);have z1:=cN hsm 1;have k2:=hkc 2 (by omega);have z2:=cN hsm 2;have hstep:=nP (h:=⟨n1,n2,n3,n4⟩) (i:=n1) (os:=[]) (gs:=[]) hok rfl hkn hgot;obtain ⟨x0,e0⟩:∃n,n=ns.getD 0 0:=⟨_,rfl⟩
          rw [←e0] at k0 z0 hstep;obtain ⟨x1,e1⟩:∃n,n=ns.getD 1 0:=⟨_,rfl⟩
          rw [←e1] at k1 z1 hstep;obtain ⟨x2,e2⟩:∃n,n=ns.getD 2 0:=⟨_,rfl⟩
          rw [←e2] at k2 z2 hstep;rw [hlc];have hrl:R7.length≤1000:=Nat.le_trans hlen hR;have HGE:=hidN (show wr.heap.size≤g7 from g71);clear e0 e1 e2 hkc own7 hgot hsm hlc hlen
          by_cases c0:x0=V
          ·have hx2:=c0.symm
           subst hx2;have d0:((V:Int) != (V:Int))=false:=by simp
           by_cases c1:x1 / 2<all
           ·have d1:decide ((all:Int)≤(x1:Int) / 2)=false:=by simp;omega
            by_cases c2:x2≤1
            ·have d2:decide ((1:Int)<(x2:Int))=false:=by simp;omega
             rw [if_pos (by have e1:=HALL.out;have e2:=HV.out;dsimp only at *;omega)] at hstep;have HR7:=hidN (eI HRUN.out hstep);clear hstep;have cC:w7.cell? ⟨C,1,none⟩=some lv:=(by rw [cell_of_row _ _ _ _ _ _ I7.q.boxC];rfl)
             have fC:w7.frozen? ⟨C,1,none⟩=false:=frozen_of_row _ _ _ _ _ I7.q.boxC;have yC:C<w7.heap.size:=(by have:=I7.q.bs;omega)
             have hbs7:=I7.q.bs;clear c1 c2 hV
             go_upto_region 23 with fail
             refine wp_region_noPanic ?_;refine bO (by kernel_rfl) (by kernel_rfl) ?_;simp only [List.pop_toArray,List.dropLast_cons_cons,List.dropLast_singleton,List.size_toArray,List.length_cons,List.length_nil,Nat.zero_add,Nat.reduceAdd];refine wpAny_of_held (S:=fun w'=>w'.cell? ⟨C,1,none⟩=some lv∧w'.cell? ⟨g7,1,none⟩=some (.int .i64 (x1:Int))∧w'.cell? ⟨g7,2,none⟩=some (.int .i64 (x2:Int))) _ _ _ _ ?_;have hHeld:(fun w':World=>w'.cell? ⟨C,1,none⟩=some lv∧w'.cell? ⟨g7,1,none⟩=some (.int .i64 (x1:Int))∧w'.cell? ⟨g7,2,none⟩=some (.int .i64 (x2:Int))) w7.drew:=⟨cC,k1,k2⟩
             refine tkH (i:=0) (v:=?_) (hS:=hHeld) (hy:=Or.inl ⟨by rfl,?_⟩) (h:=?_)
             rotate_left 1
             ·(intro w0 hSw;(try dsimp only at hSw);go_simp;try (with_reducible rfl))
             simp only [Act.put,sSet];refine tkH (i:=1) (v:=?_) (hS:=hHeld) (hy:=Or.inl ⟨by rfl,?_⟩) (h:=?_)
             rotate_left 1
             ·(intro w0 hSw;(try dsimp only at hSw);go_simp;try (with_reducible rfl))
             simp only [Act.put,sSet];refine tkH (i:=2) (v:=?_) (hS:=hHeld) (hy:=Or.inl ⟨by rfl,?_⟩) (h:=?_)
             rotate_left 1
             ·(intro w0 hSw;(try dsimp only at hSw);go_simp;try (with_reducible rfl))
             simp only [Act.put,sSet];refine tkH (i:=3) (v:=?_) (hS:=hHeld) (hy:=Or.inl ⟨by rfl,?_⟩) (h:=?_)
             rotate_left 1
             ·(intro w0 hSw;(try dsimp only at hSw);go_simp;try (with_reducible rfl))
             simp only [Act.put,sSet];refine tkH (i:=4) (v:=?_) (hS:=hHeld) (hy:=Or.inl ⟨by rfl,?_⟩) (h:=?_)
             rotate_left 1
             ·(intro w0 hSw;(try dsimp only at hSw);go_simp;try (with_reducible rfl))
             simp only [Act.put,sSet];refine tkH (i:=5) (v:=?_) (hS:=hHeld) (hy:=Or.inl ⟨by rfl,?_⟩) (h:=?_)
             rotate_left 1
             ·(intro w0 hSw;(try dsimp only at hSw);go_simp;try (with_reducible rfl))
             simp only [Act.put,sSet];refine tkH (i:=6) (v:=?_) (hS:=hHeld) (hy:=Or.inl ⟨by rfl,?_⟩) (h:=?_)
             rotate_left 1
             ·(intro w0 hSw;(try dsimp only at hSw);go_simp;try (with_reducible rfl))
             simp only [Act.put,sSet];refine tkH (i:=7) (v:=?_) (hS:=hHeld) (hy:=Or.inl ⟨by rfl,?_⟩) (h:=?_)
             rotate_left 1
             ·(intro w0 hSw;(try dsimp only at hSw);go_simp;try (with_reducible rfl))
             simp only [Act.put,sSet];refine tkH (i:=8) (v:=?_) (hS:=hHeld) (hy:=Or.inl ⟨by rfl,?_⟩) (h:=?_)
             rotate_left 1
             ·(intro w0 hSw;(try dsimp only at hSw);go_simp;try (with_reducible rfl))
             simp only [Act.put,sSet];refine wpAnyH_ready (rs:=[9]) (by kernel_rfl) (by simp) (AllReadyH.cons (by simp only [List.getElem?_toArray,List.getElem?_cons_succ,List.getElem?_cons_zero];rfl) (fun K hK=>?_) AllReadyH.nil);go_simp;refine hK.out _ _ ?_ (fun hHeld=>?_)
             ·simp [go_sem,World.cell?_alloc_past,yC,g72,cC,k1,k2]
             clear hK K
             try simp only [Act.put,sSet]
             refine wpAnyH_ready (rs:=[10]) (by kernel_rfl) (by simp) (AllReadyH.cons (by simp only [List.getElem?_toArray,List.getElem?_cons_succ,List.getElem?_cons_zero];rfl) (fun K hK=>?_) AllReadyH.nil);refine step_append_lies _ (by rfl) (.tmp 156) (.tmp 164) 30 (by rfl) (C+1) 54 iL (.agg #[.int .i64 0,.int .i64 0]) 2 16 Tryz.underlying30 hiL zL0 zL1 zL2 rfl (by omega) lv ls.length (flat ls) (by rfl) ((I7.q.ownL.alloc _).drew) ⟨w7.heap.size,0,none⟩ 1 1 [.int .i64 (x1:Int),.int .i64 (x2:Int)] (by rfl) rfl (aK3 _ _ _ _) (by simp [Value.oneCell']) (by omega) (by unfold maxLen;omega) (by omega) (by simp;omega) _ rfl ?_;intro g' cap' w8 hown8 hgrow hat hlt8;have G8:Grew _ w8 lv g':=⟨hgrow,hat⟩
             have hblkC:w8.heap[C]?=w7.heap[C]?:=(G8.blk C (by show C<(w7.heap.push _).size;simp;omega) (fun e=>by have:=(I7.q.ownL.lt _ e).1;omega)).trans (Deep.blk_alloc_lt _ _ _ (by omega));have hblk7:w8.heap[g7]?=w7.heap[g7]?:=(G8.blk g7 (by show g7<(w7.heap.push _).size;simp;omega) (fun e=>by have:=(I.q.ownL.lt _ e).2;have:=HGE.out;omega)).trans (Deep.blk_alloc_lt _ _ _ (by omega));have cC1:w8.cell? ⟨C,1,none⟩=some lv:=(World.cell?_of_block (w:=w7) hblkC).trans cC;have fC1:w8.frozen? ⟨C,1,none⟩=false:=(World.frozen?_of_block (w:=w7) hblkC).trans fC;refine hK.out _ _ ?_ (fun hHeld=>?_)
             ·exact ⟨cC1,(World.cell?_of_block (w:=w7) (hblk7)).trans k1,(World.cell?_of_block (w:=w7) (hblk7)).trans k2⟩
             clear hK K
             try simp only [Act.put,sSet]
             refine tkH (i:=11) (v:=?_) (hS:=hHeld) (hy:=Or.inl ⟨by rfl,?_⟩) (h:=?_)
             rotate_left 1
             ·(intro w0 hSw;(try dsimp only at hSw);go_simp;try (with_reducible rfl))
             simp only [Act.put,sSet];refine wpAnyH_done (by kernel_rfl) ?_ _;refine dR (by simp only [List.size_toArray,List.length_cons,List.length_nil,Nat.zero_add,Nat.reduceAdd,Nat.reduceSub,List.getElem?_toArray,List.getElem?_cons_succ,List.getElem?_cons_zero];rfl) (fun K hK=>?_);go_simp;refine hK _ _ (NoPanic.normal ?_);clear hK K hHeld;have X8:=hidN (((I7.alloc (.cells #[.int .i64 (x1:Int),.int .i64 (x2:Int)] 54)).drew).addL hown8 G8);clear hgrow hown8 G8 hat hlt8 hblkC hblk7;go_wp2
             go_roundw
             case rel=>exact ⟨ls++[((x1:Int),(x2:Int))],V+2,ln+1,R7,_,by rw [List.length_append];simp;omega,by rw [List.length_append];go_num,by go_num,by have:=HV.out;rw [List.length_append];simp;omega,by rw [List.length_append];simp;omega,HR7.out,X8.out,hrl⟩
             case measure=>simp [intOf];omega
            ·have d2:decide ((1:Int)<(x2:Int))=true:=by simp;omega
             rw [if_neg (by have e1:=HALL.out;have e2:=HV.out;dsimp only at *;omega)] at hstep;have HA:=hidN (bI hS HRUN.out hstep (eH hkn));clear hstep;obtain ⟨l1,hl1⟩:∃l1,l1=ln+1:=⟨_,rfl⟩
             rw [←hl1] at I7 HA;have IA:=I7.boxA;have r1:=I7.rd.c1;have r1x:=cW (show w.heap.size+1≠w.heap.size by omega) r1 (.int .i64 0) (.slice none 0 0) (.slice none 0 0) (.slice none 0 0);unfold box4 at r1x;have IB:=eK (aS IA (.int .i64 0) (.slice none 0 0) (.slice none 0 0) (.slice none 0 0));unfold box4 at IB;have BB:=(aH I7.bel (Nat.le_refl _) (.int .i64 0) (.slice none 0 0) (.slice none 0 0) (.slice none 0 0)).drew;unfold box4 at BB;have RX:=hidN r1x;have RB:=hidN IB;have RE:=hidN BB;clear r1x IB BB;obtain ⟨u0,u1,u2,u3⟩:=aK IA;have v0:w7.frozen? ⟨w.heap.size,0,none⟩=false:=frozen_of_row _ _ _ _ _ IA;have v1:w7.frozen? ⟨w.heap.size,1,none⟩=false:=frozen_of_row _ _ _ _ _ IA;have v2:w7.frozen? ⟨w.heap.size,2,none⟩=false:=frozen_of_row _ _ _ _ _ IA;have v3:w7.frozen? ⟨w.heap.size,3,none⟩=false:=frozen_of_row _ _ _ _ _ IA;clear hl1
             go_upto_region 22 with fail
             refine wp_region_noPanic ?_;refine wp_region_any (by kernel_rfl) ?_;simp only [List.size_toArray,List.length_cons,List.length_nil,Nat.zero_add,Nat.reduceAdd];refine wpAny_of_held (S:=fun w'=>w'.cell? ⟨w.heap.size+1,1,none⟩=some (.int .i64 (l1:Int))) _ _ _ _ ?_;have hHeld:(fun w':World=>w'.cell? ⟨w.heap.size+1,1,none⟩=some (.int .i64 (l1:Int))) w7.drew:=r1;refine tkH (i:=0) (v:=?_) (hS:=hHeld) (hy:=Or.inl ⟨by rfl,?_⟩) (h:=?_)
             rotate_left 1
             ·(intro w0 hSw;(try dsimp only at hSw);go_simp;try (with_reducible rfl))
             simp only [Act.put,sSet];refine tkH (i:=1) (v:=?_) (hS:=hHeld) (hy:=Or.inl ⟨by rfl,?_⟩) (h:=?_)
             rotate_left 1
             ·(intro w0 hSw;(try dsimp only at hSw);go_simp;try (with_reducible rfl))
             simp only [Act.put,sSet];refine tkH (i:=2) (v:=?_) (hS:=hHeld) (hy:=Or.inl ⟨by rfl,?_⟩) (h:=?_)
             rotate_left 1
             ·(intro w0 hSw;(try dsimp only at hSw);go_simp;try (with_reducible rfl))
             simp only [Act.put,sSet];refine tkH (i:=3) (v:=?_) (hS:=hHeld) (hy:=Or.inl ⟨by rfl,?_⟩) (h:=?_)
             rotate_left 1
             ·(intro w0 hSw;(try dsimp only at hSw);go_simp;try (with_reducible rfl))
             simp only [Act.put,sSet];refine tkH (i:=4) (v:=?_) (hS:=hHeld) (hy:=Or.inl ⟨by rfl,?_⟩) (h:=?_)
             rotate_left 1
             ·(intro w0 hSw;(try dsimp only at hSw);go_simp;try (with_reducible rfl))
             simp only [Act.put,sSet];refine wpAnyH_ready (rs:=[5]) (by kernel_rfl) (by simp) (AllReadyH.cons (by simp only [List.getElem?_toArray,List.getElem?_cons_succ,List.getElem?_cons_zero];rfl) (fun K hK=>?_) AllReadyH.nil);go_simp;refine hK.out _ _ ?_ (fun hHeld=>?_)
             ·exact RX.out
             clear hK K
             try simp only [Act.put,sSet]
             refine tkH (i:=6) (v:=?_) (hS:=hHeld) (hy:=Or.inl ⟨by rfl,?_⟩) (h:=?_)
             rotate_left 1
             ·(intro w0 hSw;(try dsimp only at hSw);go_simp;try (with_reducible rfl))
             simp only [Act.put,sSet];refine tkH (i:=7) (v:=?_) (hS:=hHeld) (hy:=Or.inl ⟨by rfl,?_⟩) (h:=?_)
             rotate_left 1
             ·(intro w0 hSw;(try dsimp only at hSw);go_simp;try (with_reducible rfl))
             simp only [Act.put,sSet];refine wpAnyH_done (by kernel_rfl) ?_ _;refine NoPanic.normal ?_;clear hHeld;go_wp2;refine bD (b:=w.heap.size) (x:=.int .i64 l1) (y:=.int .i64 1) RB.out (by simp only [List.getElem?_toArray,List.getElem?_cons_succ,List.getElem?_cons_zero,Option.getD_some]) (by simp only [List.getElem?_toArray,List.getElem?_cons_succ,List.getElem?_cons_zero,Option.getD_some]) (by simp only [List.getElem?_toArray,List.getElem?_cons_succ,List.getElem?_cons_zero,Option.getD_some]) ?_
             exact ⟨RE.out,.inl ⟨l1,HA.out,rfl⟩⟩
           ·have d1:decide ((all:Int)≤(x1:Int) / 2)=true:=by simp;omega
            rw [if_neg (by have e1:=HALL.out;have e2:=HV.out;dsimp only at *;omega)] at hstep;have HA:=hidN (bI hS HRUN.out hstep (eH hkn));clear hstep;obtain ⟨l1,hl1⟩:∃l1,l1=ln+1:=⟨_,rfl⟩
            rw [←hl1] at I7 HA;have IA:=I7.boxA;have r1:=I7.rd.c1;have r1x:=cW (show w.heap.size+1≠w.heap.size by omega) r1 (.int .i64 0) (.slice none 0 0) (.slice none 0 0) (.slice none 0 0);unfold box4 at r1x;have IB:=eK (aS IA (.int .i64 0) (.slice none 0 0) (.slice none 0 0) (.slice none 0 0));unfold box4 at IB;have BB:=(aH I7.bel (Nat.le_refl _) (.int .i64 0) (.slice none 0 0) (.slice none 0 0) (.slice none 0 0)).drew;unfold box4 at BB;have RX:=hidN r1x;have RB:=hidN IB;have RE:=hidN BB;clear r1x IB BB;obtain ⟨u0,u1,u2,u3⟩:=aK IA;have v0:w7.frozen? ⟨w.heap.size,0,none⟩=false:=frozen_of_row _ _ _ _ _ IA;have v1:w7.frozen? ⟨w.heap.size,1,none⟩=false:=frozen_of_row _ _ _ _ _ IA;have v2:w7.frozen? ⟨w.heap.size,2,none⟩=false:=frozen_of_row _ _ _ _ _ IA;have v3:w7.frozen? ⟨w.heap.size,3,none⟩=false:=frozen_of_row _ _ _ _ _ IA;clear hl1
            go_upto_region 22 with fail
            refine wp_region_noPanic ?_;refine wp_region_any (by kernel_rfl) ?_;simp only [List.size_toArray,List.length_cons,List.length_nil,Nat.zero_add,Nat.reduceAdd];refine wpAny_of_held (S:=fun w'=>w'.cell? ⟨w.heap.size+1,1,none⟩=some (.int .i64 (l1:Int))) _ _ _ _ ?_;have hHeld:(fun w':World=>w'.cell? ⟨w.heap.size+1,1,none⟩=some (.int .i64 (l1:Int))) w7.drew:=r1;refine tkH (i:=0) (v:=?_) (hS:=hHeld) (hy:=Or.inl ⟨by rfl,?_⟩) (h:=?_)
            rotate_left 1
            ·(intro w0 hSw;(try dsimp only at hSw);go_simp;try (with_reducible rfl))
            simp only [Act.put,sSet];refine tkH (i:=1) (v:=?_) (hS:=hHeld) (hy:=Or.inl ⟨by rfl,?_⟩) (h:=?_)
            rotate_left 1
            ·(intro w0 hSw;(try dsimp only at hSw);go_simp;try (with_reducible rfl))
            simp only [Act.put,sSet];refine tkH (i:=2) (v:=?_) (hS:=hHeld) (hy:=Or.inl ⟨by rfl,?_⟩) (h:=?_)
            rotate_left 1
            ·(intro w0 hSw;(try dsimp only at hSw);go_simp;try (with_reducible rfl))
            simp only [Act.put,sSet];refine tkH (i:=3) (v:=?_) (hS:=hHeld) (hy:=Or.inl ⟨by rfl,?_⟩) (h:=?_)
            rotate_left 1
            ·(intro w0 hSw;(try dsimp only at hSw);go_simp;try (with_reducible rfl))
            simp only [Act.put,sSet];refine tkH (i:=4) (v:=?_) (hS:=hHeld) (hy:=Or.inl ⟨by rfl,?_⟩) (h:=?_)
            rotate_left 1
            ·(intro w0 hSw;(try dsimp only at hSw);go_simp;try (with_reducible rfl))
            simp only [Act.put,sSet];refine wpAnyH_ready (rs:=[5]) (by kernel_rfl) (by simp) (AllReadyH.cons (by simp only [List.getElem?_toArray,List.getElem?_cons_succ,List.getElem?_cons_zero];rfl) (fun K hK=>?_) AllReadyH.nil);go_simp;refine hK.out _ _ ?_ (fun hHeld=>?_)
            ·exact RX.out
            clear hK K
            try simp only [Act.put,sSet]
            refine tkH (i:=6) (v:=?_) (hS:=hHeld) (hy:=Or.inl ⟨by rfl,?_⟩) (h:=?_)
            rotate_left 1
            ·(intro w0 hSw;(try dsimp only at hSw);go_simp;try (with_reducible rfl))
            simp only [Act.put,sSet];refine tkH (i:=7) (v:=?_) (hS:=hHeld) (hy:=Or.inl ⟨by rfl,?_⟩) (h:=?_)
            rotate_left 1
            ·(intro w0 hSw;(try dsimp only at hSw);go_simp;try (with_reducible rfl))
            simp only [Act.put,sSet];refine wpAnyH_done (by kernel_rfl) ?_ _;refine NoPanic.normal ?_;clear hHeld;go_wp2;refine bD (b:=w.heap.size) (x:=.int .i64 l1) (y:=.int .i64 1) RB.out (by simp only [List.getElem?_toArray,List.getElem?_cons_succ,List.getElem?_cons_zero,Option.getD_some]) (by simp only [List.getElem?_toArray,List.getElem?_cons_succ,List.getElem?_cons_zero,Option.getD_some]) (by simp only [List.getElem?_toArray,List.getElem?_cons_succ,List.getElem?_cons_zero,Option.getD_some]) ?_
            exact ⟨RE.out,.inl ⟨l1,HA.out,rfl⟩⟩
          ·have d0:((x0:Int) != (V:Int))=true:=by simp;omega
           rw [if_neg (by have e1:=HALL.out;have e2:=HV.out;dsimp only at *;omega)] at hstep;have HA:=hidN (bI hS HRUN.out hstep (eH hkn));clear hstep;obtain ⟨l1,hl1⟩:∃l1,l1=ln+1:=⟨_,rfl⟩
           rw [←hl1] at I7 HA;have IA:=I7.boxA;have r1:=I7.rd.c1;have r1x:=cW (show w.heap.size+1≠w.heap.size by omega) r1 (.int .i64 0) (.slice none 0 0) (.slice none 0 0) (.slice none 0 0);unfold box4 at r1x;have IB:=eK (aS IA (.int .i64 0) (.slice none 0 0) (.slice none 0 0) (.slice none 0 0));unfold box4 at IB;have BB:=(aH I7.bel (Nat.le_refl _) (.int .i64 0) (.slice none 0 0) (.slice none 0 0) (.slice none 0 0)).drew;unfold box4 at BB;have RX:=hidN r1x;have RB:=hidN IB;have RE:=hidN BB;clear r1x IB BB;obtain ⟨u0,u1,u2,u3⟩:=aK IA;have v0:w7.frozen? ⟨w.heap.size,0,none⟩=false:=frozen_of_row _ _ _ _ _ IA;have v1:w7.frozen? ⟨w.heap.size,1,none⟩=false:=frozen_of_row _ _ _ _ _ IA;have v2:w7.frozen? ⟨w.heap.size,2,none⟩=false:=frozen_of_row _ _ _ _ _ IA;have v3:w7.frozen? ⟨w.heap.size,3,none⟩=false:=frozen_of_row _ _ _ _ _ IA;clear hl1
           go_upto_region 22 with fail
           refine wp_region_noPanic ?_;refine wp_region_any (by kernel_rfl) ?_;simp only [List.size_toArray,List.length_cons,List.length_nil,Nat.zero_add,Nat.reduceAdd];refine wpAny_of_held (S:=fun w'=>w'.cell? ⟨w.heap.size+1,1,none⟩=some (.int .i64 (l1:Int))) _ _ _ _ ?_;have hHeld:(fun w':World=>w'.cell? ⟨w.heap.size+1,1,none⟩=some (.int .i64 (l1:Int))) w7.drew:=r1;refine tkH (i:=0) (v:=?_) (hS:=hHeld) (hy:=Or.inl ⟨by rfl,?_⟩) (h:=?_)
           rotate_left 1
           ·(intro w0 hSw;(try dsimp only at hSw);go_simp;try (with_reducible rfl))
           simp only [Act.put,sSet];refine tkH (i:=1) (v:=?_) (hS:=hHeld) (hy:=Or.inl ⟨by rfl,?_⟩) (h:=?_)
           rotate_left 1
           ·(intro w0 hSw;(try dsimp only at hSw);go_simp;try (with_reducible rfl))
           simp only [Act.put,sSet];refine tkH (i:=2) (v:=?_) (hS:=hHeld) (hy:=Or.inl ⟨by rfl,?_⟩) (h:=?_)
           rotate_left 1
           ·(intro w0 hSw;(try dsimp only at hSw);go_simp;try (with_reducible rfl))
           simp only [Act.put,sSet];refine tkH (i:=3) (v:=?_) (hS:=hHeld) (hy:=Or.inl ⟨by rfl,?_⟩) (h:=?_)
           rotate_left 1
           ·(intro w0 hSw;(try dsimp only at hSw);go_simp;try (with_reducible rfl))
           simp only [Act.put,sSet];refine tkH (i:=4) (v:=?_) (hS:=hHeld) (hy:=Or.inl ⟨by rfl,?_⟩) (h:=?_)
           rotate_left 1
           ·(intro w0 hSw;(try dsimp only at hSw);go_simp;try (with_reducible rfl))
           simp only [Act.put,sSet];refine wpAnyH_ready (rs:=[5]) (by kernel_rfl) (by simp) (AllReadyH.cons (by simp only [List.getElem?_toArray,List.getElem?_cons_succ,List.getElem?_cons_zero];rfl) (fun K hK=>?_) AllReadyH.nil);go_simp;refine hK.out _ _ ?_ (fun hHeld=>?_)
           ·exact RX.out
           clear hK K
           try simp only [Act.put,sSet]
           refine tkH (i:=6) (v:=?_) (hS:=hHeld) (hy:=Or.inl ⟨by rfl,?_⟩) (h:=?_)
           rotate_left 1
           ·(intro w0 hSw;(try dsimp only at hSw);go_simp;try (with_reducible rfl))
           simp only [Act.put,sSet];refine tkH (i:=7) (v:=?_) (hS:=hHeld) (hy:=Or.inl ⟨by rfl,?_⟩) (h:=?_)
           rotate_left 1
           ·(intro w0 hSw;(try dsimp only at hSw);go_simp;try (with_reducible rfl))
           simp only [Act.put,sSet];refine wpAnyH_done (by kernel_rfl) ?_ _;refine NoPanic.normal ?_;clear hHeld;go_wp2;refine bD (b:=w.heap.size) (x:=.int .i64 l1) (y:=.int .i64 1) RB.out (by simp only [List.getElem?_toArray,List.getElem?_cons_succ,List.getElem?_cons_zero,Option.getD_some]) (by simp only [List.getElem?_toArray,List.getElem?_cons_succ,List.getElem?_cons_zero,Option.getD_some]) (by simp only [List.getElem?_toArray,List.getElem?_cons_succ,List.getElem?_cons_zero,Option.getD_some]) ?_
           exact ⟨RE.out,.inl ⟨l1,HA.out,rfl⟩⟩
         ·have I7:=I.next sp7 rd7
          have HA:=hidN (bI hS HRUN.out (pR (h:=⟨n1,n2,n3,n4⟩) rfl hkn hno) (eH hkn));clear hno hV;obtain ⟨l1,hl1⟩:∃l1,l1=ln+1:=⟨_,rfl⟩
          rw [←hl1] at I7 HA;have IA:=I7.boxA;have r1:=I7.rd.c1;have r1x:=cW (show w.heap.size+1≠w.heap.size by omega) r1 (.int .i64 0) (.slice none 0 0) (.slice none 0 0) (.slice none 0 0);unfold box4 at r1x;have IB:=eK (aS IA (.int .i64 0) (.slice none 0 0) (.slice none 0 0) (.slice none 0 0));unfold box4 at IB;have BB:=(aH I7.bel (Nat.le_refl _) (.int .i64 0) (.slice none 0 0) (.slice none 0 0) (.slice none 0 0)).drew;unfold box4 at BB;have RX:=hidN r1x;have RB:=hidN IB;have RE:=hidN BB;clear r1x IB BB;obtain ⟨u0,u1,u2,u3⟩:=aK IA;have v0:w7.frozen? ⟨w.heap.size,0,none⟩=false:=frozen_of_row _ _ _ _ _ IA;have v1:w7.frozen? ⟨w.heap.size,1,none⟩=false:=frozen_of_row _ _ _ _ _ IA;have v2:w7.frozen? ⟨w.heap.size,2,none⟩=false:=frozen_of_row _ _ _ _ _ IA;have v3:w7.frozen? ⟨w.heap.size,3,none⟩=false:=frozen_of_row _ _ _ _ _ IA;clear hl1
          go_upto_region 22 with fail
          refine wp_region_noPanic ?_;refine wp_region_any (by kernel_rfl) ?_;simp only [List.size_toArray,List.length_cons,List.length_nil,Nat.zero_add,Nat.reduceAdd];refine wpAny_of_held (S:=fun w'=>w'.cell? ⟨w.heap.size+1,1,none⟩=some (.int .i64 (l1:Int))) _ _ _ _ ?_;have hHeld:(fun w':World=>w'.cell? ⟨w.heap.size+1,1,none⟩=some (.int .i64 (l1:Int))) w7.drew:=r1;refine tkH (i:=0) (v:=?_) (hS:=hHeld) (hy:=Or.inl ⟨by rfl,?_⟩) (h:=?_)
          rotate_left 1
          ·(intro w0 hSw;(try dsimp only at hSw);go_simp;try (with_reducible rfl))
          simp only [Act.put,sSet];refine tkH (i:=1) (v:=?_) (hS:=hHeld) (hy:=Or.inl ⟨by rfl,?_⟩) (h:=?_)
          rotate_left 1
          ·(intro w0 hSw;(try dsimp only at hSw);go_simp;try (with_reducible rfl))
          simp only [Act.put,sSet];refine tkH (i:=2) (v:=?_) (hS:=hHeld) (hy:=Or.inl ⟨by rfl,?_⟩) (h:=?_)
          rotate_left 1
          ·(intro w0 hSw;(try dsimp only at hSw);go_simp;try (with_reducible rfl))
          simp only [Act.put,sSet];refine tkH (i:=3) (v:=?_) (hS:=hHeld) (hy:=Or.inl ⟨by rfl,?_⟩) (h:=?_)
          rotate_left 1
          ·(intro w0 hSw;(try dsimp only at hSw);go_simp;try (with_reducible rfl))
          simp only [Act.put,sSet];refine tkH (i:=4) (v:=?_) (hS:=hHeld) (hy:=Or.inl ⟨by rfl,?_⟩) (h:=?_)
          rotate_left 1
          ·(intro w0 hSw;(try dsimp only at hSw);go_simp;try (with_reducible rfl))
          simp only [Act.put,sSet];refine wpAnyH_ready (rs:=[5]) (by kernel_rfl) (by simp) (AllReadyH.cons (by simp only [List.getElem?_toArray,List.getElem?_cons_succ,List.getElem?_cons_zero];rfl) (fun K hK=>?_) AllReadyH.nil);go_simp;refine hK.out _ _ ?_ (fun hHeld=>?_)
          ·exact RX.out
          clear hK K
          try simp only [Act.put,sSet]
          refine tkH (i:=6) (v:=?_) (hS:=hHeld) (hy:=Or.inl ⟨by rfl,?_⟩) (h:=?_)
          rotate_left 1
          ·(intro w0 hSw;(try dsimp only at hSw);go_simp;try (with_reducible rfl))
          simp only [Act.put,sSet];refine tkH (i:=7) (v:=?_) (hS:=hHeld) (hy:=Or.inl ⟨by rfl,?_⟩) (h:=?_)
          rotate_left 1
          ·(intro w0 hSw;(try dsimp only at hSw);go_simp;try (with_reducible rfl))
          simp only [Act.put,sSet];refine wpAnyH_done (by kernel_rfl) ?_ _;refine NoPanic.normal ?_;clear hHeld;go_wp2;refine bD (b:=w.heap.size) (x:=.int .i64 l1) (y:=.int .i64 1) RB.out (by simp only [List.getElem?_toArray,List.getElem?_cons_succ,List.getElem?_cons_zero,Option.getD_some]) (by simp only [List.getElem?_toArray,List.getElem?_cons_succ,List.getElem?_cons_zero,Option.getD_some]) (by simp only [List.getElem?_toArray,List.getElem?_cons_succ,List.getElem?_cons_zero,Option.getD_some]) ?_
          exact ⟨RE.out,.inl ⟨l1,HA.out,rfl⟩⟩
       ·have HKL:=hidN (show ls.length=n2 by omega)
        have hknN:¬((ls.length:Int)<(n2:Int)):=(by omega)
        have y3:=(HC.out wr I.hb).2.2.1;have hln9:ln≤9:=(by omega)
        have HV2:=hidN (show V=2*(n1+n2)+2 by omega);clear hkn hk9 hV hln HV
        go_wp2_with fail
        clear y2 y3 hknN
        go_loopw [17] (fun i wr=>∃(os:List Int) (ln:Nat) (R':List UInt8) (ov:Value),os.length≤n3∧i=.int .i64 os.length∧ln≤9+os.length∧runN S ln=some ⟨some ⟨n1,n2,n3,n4⟩,n1,ls,os,[],R'⟩∧RdS w wr C hk ho n1 lv (.slice none 0 0) ov ls [] os R' ln∧R'.length≤1000) (fun i _=>n3 - (intOf i).toNat)
        case atStart=>exact ⟨[],ln,R,_,Nat.zero_le _,rfl,by simp;omega,HRUN.out,I,hR⟩
        case round =>
         clear I HRUN hR R;obtain ⟨os,ln,R,ov,hk9,rfl,hln,hrun,I,hR⟩:=hrel;have y3:=(HC.out wr I.hb).2.2.1;have HRUN:=hidN hrun;clear hrun
         by_cases hkn:os.length<n3
         ·as_aux_lemma =>
           have hknI:(os.length:Int)<(n3:Int):=(by omega)
           have hl4:os.length≤4:=by omega
           go_wp2_with fail
           refine (gV [] R 1 ln (w.heap.size+1) wr I.rd hR (by simp) (by simp) (by omega) (by omega)).mono ?_;rintro e w7 ⟨sp7,hres⟩
           rcases hres with ⟨ns,a7,cap7,R7,hgot,hsm,rd7,hlen,rfl,own7⟩ | ⟨R7,a7,m7,cap7,hno,rd7,rfl⟩
           ·have I7:=I.next sp7 rd7
            have hlc:ns.length=1:=hgot.1;obtain ⟨g7,rfl,g71,g72,hkc⟩:=jT own7 (by omega);have k0:=hkc 0 (by omega);have z0:=cN hsm 0;have hstep:=sS (h:=⟨n1,n2,n3,n4⟩) (i:=n1) (gs:=[]) hok rfl HKL.out hkn hgot;obtain ⟨x0,e0⟩:∃n,n=ns.getD 0 0:=⟨_,rfl⟩
            rw [←e0] at k0 z0 hstep;rw [hlc];have hrl:R7.length≤1000:=Nat.le_trans hlen hR;have HGE:=hidN (show wr.heap.size≤g7 from g71);clear e0 hkc own7 hgot hsm hlc hlen
            by_cases c0:x0 / 2<all
            ·have d0:decide ((all:Int)≤(x0:Int) / 2)=false:=by simp;omega
             rw [if_pos (by have e1:=HALL.out;dsimp only at *;omega)] at hstep;have HR7:=hidN (eI HRUN.out hstep);clear hstep c0;have cC:w7.cell? ⟨C,3,none⟩=some ov:=(by rw [cell_of_row _ _ _ _ _ _ I7.q.boxC];rfl)
             have fC:w7.frozen? ⟨C,3,none⟩=false:=frozen_of_row _ _ _ _ _ I7.q.boxC;have yC:C<w7.heap.size:=(by have:=I7.q.bs;omega)
             have hbs7:=I7.q.bs
             go_upto_region 31 with fail
             refine wp_region_noPanic ?_;refine bO (by kernel_rfl) (by kernel_rfl) ?_;simp only [List.pop_toArray,List.dropLast_cons_cons,List.dropLast_singleton,List.size_toArray,List.length_cons,List.length_nil,Nat.zero_add,Nat.reduceAdd];refine wpAny_of_held (S:=fun w'=>w'.cell? ⟨C,3,none⟩=some ov∧w'.cell? ⟨g7,0,none⟩=some (.int .i64 (x0:Int))) _ _ _ _ ?_;have hHeld:(fun w':World=>w'.cell? ⟨C,3,none⟩=some ov∧w'.cell? ⟨g7,0,none⟩=some (.int .i64 (x0:Int))) w7.drew:=⟨cC,k0⟩
             refine tkH (i:=0) (v:=?_) (hS:=hHeld) (hy:=Or.inl ⟨by rfl,?_⟩) (h:=?_)
             rotate_left 1
             ·(intro w0 hSw;(try dsimp only at hSw);go_simp;try (with_reducible rfl))
             simp only [Act.put,sSet];refine tkH (i:=1) (v:=?_) (hS:=hHeld) (hy:=Or.inl ⟨by rfl,?_⟩) (h:=?_)
             rotate_left 1
             ·(intro w0 hSw;(try dsimp only at hSw);go_simp;try (with_reducible rfl))
             simp only [Act.put,sSet];refine tkH (i:=2) (v:=?_) (hS:=hHeld) (hy:=Or.inl ⟨by rfl,?_⟩) (h:=?_)
             rotate_left 1
             ·(intro w0 hSw;(try dsimp only at hSw);go_simp;try (with_reducible rfl))
             simp only [Act.put,sSet];refine tkH (i:=3) (v:=?_) (hS:=hHeld) (hy:=Or.inl ⟨by rfl,?_⟩) (h:=?_)
             rotate_left 1
             ·(intro w0 hSw;(try dsimp only at hSw);go_simp;try (with_reducible rfl))
             simp only [Act.put,sSet];refine tkH (i:=4) (v:=?_) (hS:=hHeld) (hy:=Or.inl ⟨by rfl,?_⟩) (h:=?_)
             rotate_left 1
             ·(intro w0 hSw;(try dsimp only at hSw);go_simp;try (with_reducible rfl))
             simp only [Act.put,sSet];refine wpAnyH_ready (rs:=[5]) (by kernel_rfl) (by simp) (AllReadyH.cons (by simp only [List.getElem?_toArray,List.getElem?_cons_succ,List.getElem?_cons_zero];rfl) (fun K hK=>?_) AllReadyH.nil);go_simp;refine hK.out _ _ ?_ (fun hHeld=>?_)
             ·simp [go_sem,World.cell?_alloc_past,yC,g72,cC,k0]
             clear hK K
             try simp only [Act.put,sSet]
             refine wpAnyH_ready (rs:=[6]) (by kernel_rfl) (by simp) (AllReadyH.cons (by simp only [List.getElem?_toArray,List.getElem?_cons_succ,List.getElem?_cons_zero];rfl) (fun K hK=>?_) AllReadyH.nil);refine step_append_lies _ (by rfl) (.tmp 197) (.tmp 201) 32 (by rfl) (C+1) 3 iO (.int .i64 0) 1 8 Tryz.underlying32 hiO zO0 zO1 zO2 rfl (by omega) ov os.length (ivs os) (by rfl) ((I7.q.ownO.alloc _).drew) ⟨w7.heap.size,0,none⟩ 1 1 [.int .i64 (x0:Int)] (by rfl) rfl (aLZ _ _ _) (by simp [Value.oneCell']) (by omega) (by unfold maxLen;omega) (by omega) (by simp;omega) _ rfl ?_;intro g' cap' w8 hown8 hgrow hat hlt8;have G8:Grew _ w8 ov g':=⟨hgrow,hat⟩
             have hblkC:w8.heap[C]?=w7.heap[C]?:=(G8.blk C (by show C<(w7.heap.push _).size;simp;omega) (fun e=>by have:=(I7.q.ownO.lt _ e).1;omega)).trans (Deep.blk_alloc_lt _ _ _ (by omega));have hblk7:w8.heap[g7]?=w7.heap[g7]?:=(G8.blk g7 (by show g7<(w7.heap.push _).size;simp;omega) (fun e=>by have:=(I.q.ownO.lt _ e).2;have:=HGE.out;omega)).trans (Deep.blk_alloc_lt _ _ _ (by omega));have cC1:w8.cell? ⟨C,3,none⟩=some ov:=(World.cell?_of_block (w:=w7) hblkC).trans cC;have fC1:w8.frozen? ⟨C,3,none⟩=false:=(World.frozen?_of_block (w:=w7) hblkC).trans fC;refine hK.out _ _ ?_ (fun hHeld=>?_)
             ·exact ⟨cC1,(World.cell?_of_block (w:=w7) (hblk7)).trans k0⟩
             clear hK K
             try simp only [Act.put,sSet]
             refine tkH (i:=7) (v:=?_) (hS:=hHeld) (hy:=Or.inl ⟨by rfl,?_⟩) (h:=?_)
             rotate_left 1
             ·(intro w0 hSw;(try dsimp only at hSw);go_simp;try (with_reducible rfl))
             simp only [Act.put,sSet];refine wpAnyH_done (by kernel_rfl) ?_ _;refine dR (by simp only [List.size_toArray,List.length_cons,List.length_nil,Nat.zero_add,Nat.reduceAdd,Nat.reduceSub,List.getElem?_toArray,List.getElem?_cons_succ,List.getElem?_cons_zero];rfl) (fun K hK=>?_);go_simp;refine hK _ _ (NoPanic.normal ?_);clear hK K hHeld;have X8:=hidN (((I7.alloc (.cells #[.int .i64 (x0:Int)] 3)).drew).addO hown8 G8);clear hgrow hown8 G8 hat hlt8 hblkC hblk7;go_wp2
             go_roundw
             case rel=>exact ⟨os++[(x0:Int)],ln+1,R7,_,by rw [List.length_append];simp;omega,by rw [List.length_append];go_num,by rw [List.length_append];simp;omega,HR7.out,X8.out,hrl⟩
             case measure=>simp [intOf];omega
            ·have d0:decide ((all:Int)≤(x0:Int) / 2)=true:=by simp;omega
             rw [if_neg (by have e1:=HALL.out;dsimp only at *;omega)] at hstep;have HA:=hidN (bI hS HRUN.out hstep (jR hkn));clear hstep c0;obtain ⟨l1,hl1⟩:∃l1,l1=ln+1:=⟨_,rfl⟩
             rw [←hl1] at I7 HA;have IA:=I7.boxA;have r1:=I7.rd.c1;have r1x:=cW (show w.heap.size+1≠w.heap.size by omega) r1 (.int .i64 0) (.slice none 0 0) (.slice none 0 0) (.slice none 0 0);unfold box4 at r1x;have IB:=eK (aS IA (.int .i64 0) (.slice none 0 0) (.slice none 0 0) (.slice none 0 0));unfold box4 at IB;have BB:=(aH I7.bel (Nat.le_refl _) (.int .i64 0) (.slice none 0 0) (.slice none 0 0) (.slice none 0 0)).drew;unfold box4 at BB;have RX:=hidN r1x;have RB:=hidN IB;have RE:=hidN BB;clear r1x IB BB;obtain ⟨u0,u1,u2,u3⟩:=aK IA;have v0:w7.frozen? ⟨w.heap.size,0,none⟩=false:=frozen_of_row _ _ _ _ _ IA;have v1:w7.frozen? ⟨w.heap.size,1,none⟩=false:=frozen_of_row _ _ _ _ _ IA;have v2:w7.frozen? ⟨w.heap.size,2,none⟩=false:=frozen_of_row _ _ _ _ _ IA;have v3:w7.frozen? ⟨w.heap.size,3,none⟩=false:=frozen_of_row _ _ _ _ _ IA;clear hl1
             go_upto_region 30 with fail
             refine wp_region_noPanic ?_;refine wp_region_any (by kernel_rfl) ?_;simp only [List.size_toArray,List.length_cons,List.length_nil,Nat.zero_add,Nat.reduceAdd];refine wpAny_of_held (S:=fun w'=>w'.cell? ⟨w.heap.size+1,1,none⟩=some (.int .i64 (l1:Int))) _ _ _ _ ?_;have hHeld:(fun w':World=>w'.cell? ⟨w.heap.size+1,1,none⟩=some (.int .i64 (l1:Int))) w7.drew:=r1;refine tkH (i:=0) (v:=?_) (hS:=hHeld) (hy:=Or.inl ⟨by rfl,?_⟩) (h:=?_)
             rotate_left 1
             ·(intro w0 hSw;(try dsimp only at hSw);go_simp;try (with_reducible rfl))
             simp only [Act.put,sSet];refine tkH (i:=1) (v:=?_) (hS:=hHeld) (hy:=Or.inl ⟨by rfl,?_⟩) (h:=?_)
             rotate_left 1
             ·(intro w0 hSw;(try dsimp only at hSw);go_simp;try (with_reducible rfl))
             simp only [Act.put,sSet];refine tkH (i:=2) (v:=?_) (hS:=hHeld) (hy:=Or.inl ⟨by rfl,?_⟩) (h:=?_)
             rotate_left 1
             ·(intro w0 hSw;(try dsimp only at hSw);go_simp;try (with_reducible rfl))
             simp only [Act.put,sSet];refine tkH (i:=3) (v:=?_) (hS:=hHeld) (hy:=Or.inl ⟨by rfl,?_⟩) (h:=?_)
             rotate_left 1
             ·(intro w0 hSw;(try dsimp only at hSw);go_simp;try (with_reducible rfl))
             simp only [Act.put,sSet];refine tkH (i:=4) (v:=?_) (hS:=hHeld) (hy:=Or.inl ⟨by rfl,?_⟩) (h:=?_)
             rotate_left 1
             ·(intro w0 hSw;(try dsimp only at hSw);go_simp;try (with_reducible rfl))
             simp only [Act.put,sSet];refine wpAnyH_ready (rs:=[5]) (by kernel_rfl) (by simp) (AllReadyH.cons (by simp only [List.getElem?_toArray,List.getElem?_cons_succ,List.getElem?_cons_zero];rfl) (fun K hK=>?_) AllReadyH.nil);go_simp;refine hK.out _ _ ?_ (fun hHeld=>?_)
             ·exact RX.out
             clear hK K
             try simp only [Act.put,sSet]
             refine tkH (i:=6) (v:=?_) (hS:=hHeld) (hy:=Or.inl ⟨by rfl,?_⟩) (h:=?_)
             rotate_left 1
             ·(intro w0 hSw;(try dsimp only at hSw);go_simp;try (with_reducible rfl))
             simp only [Act.put,sSet];refine tkH (i:=7) (v:=?_) (hS:=hHeld) (hy:=Or.inl ⟨by rfl,?_⟩) (h:=?_)
             rotate_left 1
             ·(intro w0 hSw;(try dsimp only at hSw);go_simp;try (with_reducible rfl))
             simp only [Act.put,sSet];refine wpAnyH_done (by kernel_rfl) ?_ _;refine NoPanic.normal ?_;clear hHeld;go_wp2;refine bD (b:=w.heap.size) (x:=.int .i64 l1) (y:=.int .i64 1) RB.out (by simp only [List.getElem?_toArray,List.getElem?_cons_succ,List.getElem?_cons_zero,Option.getD_some]) (by simp only [List.getElem?_toArray,List.getElem?_cons_succ,List.getElem?_cons_zero,Option.getD_some]) (by simp only [List.getElem?_toArray,List.getElem?_cons_succ,List.getElem?_cons_zero,Option.getD_some]) ?_
             exact ⟨RE.out,.inl ⟨l1,HA.out,rfl⟩⟩
           ·have I7:=I.next sp7 rd7
            have HA:=hidN (bI hS HRUN.out (vI (h:=⟨n1,n2,n3,n4⟩) rfl HKL.out hkn hno) (jR hkn));clear hno;obtain ⟨l1,hl1⟩:∃l1,l1=ln+1:=⟨_,rfl⟩
            rw [←hl1] at I7 HA;have IA:=I7.boxA;have r1:=I7.rd.c1;have r1x:=cW (show w.heap.size+1≠w.heap.size by omega) r1 (.int .i64 0) (.slice none 0 0) (.slice none 0 0) (.slice none 0 0);unfold box4 at r1x;have IB:=eK (aS IA (.int .i64 0) (.slice none 0 0) (.slice none 0 0) (.slice none 0 0));unfold box4 at IB;have BB:=(aH I7.bel (Nat.le_refl _) (.int .i64 0) (.slice none 0 0) (.slice none 0 0) (.slice none 0 0)).drew;unfold box4 at BB;have RX:=hidN r1x;have RB:=hidN IB;have RE:=hidN BB;clear r1x IB BB;obtain ⟨u0,u1,u2,u3⟩:=aK IA;have v0:w7.frozen? ⟨w.heap.size,0,none⟩=false:=frozen_of_row _ _ _ _ _ IA;have v1:w7.frozen? ⟨w.heap.size,1,none⟩=false:=frozen_of_row _ _ _ _ _ IA;have v2:w7.frozen? ⟨w.heap.size,2,none⟩=false:=frozen_of_row _ _ _ _ _ IA;have v3:w7.frozen? ⟨w.heap.size,3,none⟩=false:=frozen_of_row _ _ _ _ _ IA;clear hl1
            go_upto_region 30 with fail
            refine wp_region_noPanic ?_;refine wp_region_any (by kernel_rfl) ?_;simp only [List.size_toArray,List.length_cons,List.length_nil,Nat.zero_add,Nat.reduceAdd];refine wpAny_of_held (S:=fun w'=>w'.cell? ⟨w.heap.size+1,1,none⟩=some (.int .i64 (l1:Int))) _ _ _ _ ?_;have hHeld:(fun w':World=>w'.cell? ⟨w.heap.size+1,1,none⟩=some (.int .i64 (l1:Int))) w7.drew:=r1;refine tkH (i:=0) (v:=?_) (hS:=hHeld) (hy:=Or.inl ⟨by rfl,?_⟩) (h:=?_)
            rotate_left 1
            ·(intro w0 hSw;(try dsimp only at hSw);go_simp;try (with_reducible rfl))
            simp only [Act.put,sSet];refine tkH (i:=1) (v:=?_) (hS:=hHeld) (hy:=Or.inl ⟨by rfl,?_⟩) (h:=?_)
            rotate_left 1
            ·(intro w0 hSw;(try dsimp only at hSw);go_simp;try (with_reducible rfl))
            simp only [Act.put,sSet];refine tkH (i:=2) (v:=?_) (hS:=hHeld) (hy:=Or.inl ⟨by rfl,?_⟩) (h:=?_)
            rotate_left 1
            ·(intro w0 hSw;(try dsimp only at hSw);go_simp;try (with_reducible rfl))
            simp only [Act.put,sSet];refine tkH (i:=3) (v:=?_) (hS:=hHeld) (hy:=Or.inl ⟨by rfl,?_⟩) (h:=?_)
            rotate_left 1
            ·(intro w0 hSw;(try dsimp only at hSw);go_simp;try (with_reducible rfl))
            simp only [Act.put,sSet];refine tkH (i:=4) (v:=?_) (hS:=hHeld) (hy:=Or.inl ⟨by rfl,?_⟩) (h:=?_)
            rotate_left 1
            ·(intro w0 hSw;(try dsimp only at hSw);go_simp;try (with_reducible rfl))
            simp only [Act.put,sSet];refine wpAnyH_ready (rs:=[5]) (by kernel_rfl) (by simp) (AllReadyH.cons (by simp only [List.getElem?_toArray,List.getElem?_cons_succ,List.getElem?_cons_zero];rfl) (fun K hK=>?_) AllReadyH.nil);go_simp;refine hK.out _ _ ?_ (fun hHeld=>?_)
            ·exact RX.out
            clear hK K
            try simp only [Act.put,sSet]
            refine tkH (i:=6) (v:=?_) (hS:=hHeld) (hy:=Or.inl ⟨by rfl,?_⟩) (h:=?_)
            rotate_left 1
            ·(intro w0 hSw;(try dsimp only at hSw);go_simp;try (with_reducible rfl))
            simp only [Act.put,sSet];refine tkH (i:=7) (v:=?_) (hS:=hHeld) (hy:=Or.inl ⟨by rfl,?_⟩) (h:=?_)
            rotate_left 1
            ·(intro w0 hSw;(try dsimp only at hSw);go_simp;try (with_reducible rfl))
            simp only [Act.put,sSet];refine wpAnyH_done (by kernel_rfl) ?_ _;refine NoPanic.normal ?_;clear hHeld;go_wp2;refine bD (b:=w.heap.size) (x:=.int .i64 l1) (y:=.int .i64 1) RB.out (by simp only [List.getElem?_toArray,List.getElem?_cons_succ,List.getElem?_cons_zero,Option.getD_some]) (by simp only [List.getElem?_toArray,List.getElem?_cons_succ,List.getElem?_cons_zero,Option.getD_some]) (by simp only [List.getElem?_toArray,List.getElem?_cons_succ,List.getElem?_cons_zero,Option.getD_some]) ?_
            exact ⟨RE.out,.inl ⟨l1,HA.out,rfl⟩⟩
         ·have HKO:=hidN (show os.length=n3 by omega)
          have hknN:¬((os.length:Int)<(n3:Int)):=(by omega)
          have y4:=(HC.out wr I.hb).2.2.2;have hln13:ln≤13:=(by omega)
          clear hkn hk9 hln
          go_wp2_with fail
          clear y3 y4 hknN
          go_loopw [10,20] (fun v i wr=>∃(gs:List (Int×Int)) (V ln:Nat) (R':List UInt8) (gv:Value),gs.length≤n4∧i=.int .i64 gs.length∧v=.int .i64 V∧V=2*(n1+n2+gs.length)+2∧ln≤13+gs.length∧runN S ln=some ⟨some ⟨n1,n2,n3,n4⟩,n1,ls,os,gs,R'⟩∧RdS w wr C hk ho n1 lv gv ov ls gs os R' ln∧R'.length≤1000) (fun _ i _=>n4 - (intOf i).toNat)
          case atStart=>exact ⟨[],V,ln,R,_,Nat.zero_le _,rfl,rfl,by have:=HV2.out;simp;omega,by simp;omega,HRUN.out,I,hR⟩
          case round =>
           clear I HRUN hR R HV2 hln13;obtain ⟨gs,V,ln,R,gv,hk9,rfl,rfl,hV,hln,hrun,I,hR⟩:=hrel;have y4:=(HC.out wr I.hb).2.2.2;have HV:=hidN hV;have HRUN:=hidN hrun;clear hrun
           by_cases hkn:gs.length<n4
           ·as_aux_lemma =>
             have hknI:(gs.length:Int)<(n4:Int):=(by omega)
             have hl30:gs.length≤30:=(by omega)
             have hV100:V≤100:=by omega
             go_wp2_with fail
             refine (gV [] R 3 ln (w.heap.size+1) wr I.rd hR (by simp) (by simp) (by omega) (by omega)).mono ?_;rintro e w7 ⟨sp7,hres⟩
             rcases hres with ⟨ns,a7,cap7,R7,hgot,hsm,rd7,hlen,rfl,own7⟩ | ⟨R7,a7,m7,cap7,hno,rd7,rfl⟩
             ·have I7:=I.next sp7 rd7
              have hlc:ns.length=3:=hgot.1;obtain ⟨g7,rfl,g71,g72,hkc⟩:=jT own7 (by omega);have k0:=hkc 0 (by omega);have z0:=cN hsm 0;have k1:=hkc 1 (by omega);have z1:=cN hsm 1;have k2:=hkc 2 (by omega);have z2:=cN hsm 2;have hstep:=pP (h:=⟨n1,n2,n3,n4⟩) (i:=n1) hok rfl HKL.out HKO.out hkn hgot;obtain ⟨x0,e0⟩:∃n,n=ns.getD 0 0:=⟨_,rfl⟩
              rw [←e0] at k0 z0 hstep;obtain ⟨x1,e1⟩:∃n,n=ns.getD 1 0:=⟨_,rfl⟩
              rw [←e1] at k1 z1 hstep;obtain ⟨x2,e2⟩:∃n,n=ns.getD 2 0:=⟨_,rfl⟩
              rw [←e2] at k2 z2 hstep;rw [hlc];have hrl:R7.length≤1000:=Nat.le_trans hlen hR;have HGE:=hidN (show wr.heap.size≤g7 from g71);clear e0 e1 e2 hkc own7 hgot hsm hlc hlen
              by_cases c0:x0=V
              ·have hx2:=c0.symm
               subst hx2;have d0:((V:Int) != (V:Int))=false:=by simp
               by_cases c1:x1 / 2<V / 2
               ·have d1:decide ((V:Int) / 2≤(x1:Int) / 2)=false:=by simp;omega
                by_cases c2:x2 / 2<V / 2
                ·have d2:decide ((V:Int) / 2≤(x2:Int) / 2)=false:=by simp;omega
                 rw [if_pos (by have e2:=HV.out;dsimp only at *;omega)] at hstep;have HR7:=hidN (eI HRUN.out hstep);clear hstep;have cC:w7.cell? ⟨C,2,none⟩=some gv:=(by rw [cell_of_row _ _ _ _ _ _ I7.q.boxC];rfl)
                 have fC:w7.frozen? ⟨C,2,none⟩=false:=frozen_of_row _ _ _ _ _ I7.q.boxC;have yC:C<w7.heap.size:=(by have:=I7.q.bs;omega)
                 have hbs7:=I7.q.bs;clear c1 c2 hV
                 go_upto_region 38 with fail
                 refine wp_region_noPanic ?_;refine bO (by kernel_rfl) (by kernel_rfl) ?_;simp only [List.pop_toArray,List.dropLast_cons_cons,List.dropLast_singleton,List.size_toArray,List.length_cons,List.length_nil,Nat.zero_add,Nat.reduceAdd];refine wpAny_of_held (S:=fun w'=>w'.cell? ⟨C,2,none⟩=some gv∧w'.cell? ⟨g7,1,none⟩=some (.int .i64 (x1:Int))∧w'.cell? ⟨g7,2,none⟩=some (.int .i64 (x2:Int))) _ _ _ _ ?_;have hHeld:(fun w':World=>w'.cell? ⟨C,2,none⟩=some gv∧w'.cell? ⟨g7,1,none⟩=some (.int .i64 (x1:Int))∧w'.cell? ⟨g7,2,none⟩=some (.int .i64 (x2:Int))) w7.drew:=⟨cC,k1,k2⟩
                 refine tkH (i:=0) (v:=?_) (hS:=hHeld) (hy:=Or.inl ⟨by rfl,?_⟩) (h:=?_)
                 rotate_left 1
                 ·(intro w0 hSw;(try dsimp only at hSw);go_simp;try (with_reducible rfl))
                 simp only [Act.put,sSet];refine tkH (i:=1) (v:=?_) (hS:=hHeld) (hy:=Or.inl ⟨by rfl,?_⟩) (h:=?_)
                 rotate_left 1
                 ·(intro w0 hSw;(try dsimp only at hSw);go_simp;try (with_reducible rfl))
                 simp only [Act.put,sSet];refine tkH (i:=2) (v:=?_) (hS:=hHeld) (hy:=Or.inl ⟨by rfl,?_⟩) (h:=?_)
                 rotate_left 1
                 ·(intro w0 hSw;(try dsimp only at hSw);go_simp;try (with_reducible rfl))
                 simp only [Act.put,sSet];refine tkH (i:=3) (v:=?_) (hS:=hHeld) (hy:=Or.inl ⟨by rfl,?_⟩) (h:=?_)
                 rotate_left 1
                 ·(intro w0 hSw;(try dsimp only at hSw);go_simp;try (with_reducible rfl))
                 simp only [Act.put,sSet];refine tkH (i:=4) (v:=?_) (hS:=hHeld) (hy:=Or.inl ⟨by rfl,?_⟩) (h:=?_)
                 rotate_left 1
                 ·(intro w0 hSw;(try dsimp only at hSw);go_simp;try (with_reducible rfl))
                 simp only [Act.put,sSet];refine tkH (i:=5) (v:=?_) (hS:=hHeld) (hy:=Or.inl ⟨by rfl,?_⟩) (h:=?_)
                 rotate_left 1
                 ·(intro w0 hSw;(try dsimp only at hSw);go_simp;try (with_reducible rfl))
                 simp only [Act.put,sSet];refine tkH (i:=6) (v:=?_) (hS:=hHeld) (hy:=Or.inl ⟨by rfl,?_⟩) (h:=?_)
                 rotate_left 1
                 ·(intro w0 hSw;(try dsimp only at hSw);go_simp;try (with_reducible rfl))
                 simp only [Act.put,sSet];refine tkH (i:=7) (v:=?_) (hS:=hHeld) (hy:=Or.inl ⟨by rfl,?_⟩) (h:=?_)
                 rotate_left 1
                 ·(intro w0 hSw;(try dsimp only at hSw);go_simp;try (with_reducible rfl))
                 simp only [Act.put,sSet];refine tkH (i:=8) (v:=?_) (hS:=hHeld) (hy:=Or.inl ⟨by rfl,?_⟩) (h:=?_)
                 rotate_left 1
                 ·(intro w0 hSw;(try dsimp only at hSw);go_simp;try (with_reducible rfl))
                 simp only [Act.put,sSet];refine wpAnyH_ready (rs:=[9]) (by kernel_rfl) (by simp) (AllReadyH.cons (by simp only [List.getElem?_toArray,List.getElem?_cons_succ,List.getElem?_cons_zero];rfl) (fun K hK=>?_) AllReadyH.nil);go_simp;refine hK.out _ _ ?_ (fun hHeld=>?_)
                 ·simp [go_sem,World.cell?_alloc_past,yC,g72,cC,k1,k2]
                 clear hK K
                 try simp only [Act.put,sSet]
                 refine wpAnyH_ready (rs:=[10]) (by kernel_rfl) (by simp) (AllReadyH.cons (by simp only [List.getElem?_toArray,List.getElem?_cons_succ,List.getElem?_cons_zero];rfl) (fun K hK=>?_) AllReadyH.nil);refine step_append_lies _ (by rfl) (.tmp 249) (.tmp 257) 31 (by rfl) (C+1) 56 iG (.agg #[.int .i64 0,.int .i64 0]) 2 16 Tryz.underlying31 hiG zG0 zG1 zG2 rfl (by omega) gv gs.length (flat gs) (by rfl) ((I7.q.ownG.alloc _).drew) ⟨w7.heap.size,0,none⟩ 1 1 [.int .i64 (x1:Int),.int .i64 (x2:Int)] (by rfl) rfl (aK3 _ _ _ _) (by simp [Value.oneCell']) (by omega) (by unfold maxLen;omega) (by omega) (by simp;omega) _ rfl ?_;intro g' cap' w8 hown8 hgrow hat hlt8;have G8:Grew _ w8 gv g':=⟨hgrow,hat⟩
                 have hblkC:w8.heap[C]?=w7.heap[C]?:=(G8.blk C (by show C<(w7.heap.push _).size;simp;omega) (fun e=>by have:=(I7.q.ownG.lt _ e).1;omega)).trans (Deep.blk_alloc_lt _ _ _ (by omega));have hblk7:w8.heap[g7]?=w7.heap[g7]?:=(G8.blk g7 (by show g7<(w7.heap.push _).size;simp;omega) (fun e=>by have:=(I.q.ownG.lt _ e).2;have:=HGE.out;omega)).trans (Deep.blk_alloc_lt _ _ _ (by omega));have cC1:w8.cell? ⟨C,2,none⟩=some gv:=(World.cell?_of_block (w:=w7) hblkC).trans cC;have fC1:w8.frozen? ⟨C,2,none⟩=false:=(World.frozen?_of_block (w:=w7) hblkC).trans fC;refine hK.out _ _ ?_ (fun hHeld=>?_)
                 ·exact ⟨cC1,(World.cell?_of_block (w:=w7) (hblk7)).trans k1,(World.cell?_of_block (w:=w7) (hblk7)).trans k2⟩
                 clear hK K
                 try simp only [Act.put,sSet]
                 refine tkH (i:=11) (v:=?_) (hS:=hHeld) (hy:=Or.inl ⟨by rfl,?_⟩) (h:=?_)
                 rotate_left 1
                 ·(intro w0 hSw;(try dsimp only at hSw);go_simp;try (with_reducible rfl))
                 simp only [Act.put,sSet];refine wpAnyH_done (by kernel_rfl) ?_ _;refine dR (by simp only [List.size_toArray,List.length_cons,List.length_nil,Nat.zero_add,Nat.reduceAdd,Nat.reduceSub,List.getElem?_toArray,List.getElem?_cons_succ,List.getElem?_cons_zero];rfl) (fun K hK=>?_);go_simp;refine hK _ _ (NoPanic.normal ?_);clear hK K hHeld;have X8:=hidN (((I7.alloc (.cells #[.int .i64 (x1:Int),.int .i64 (x2:Int)] 56)).drew).addG hown8 G8);clear hgrow hown8 G8 hat hlt8 hblkC hblk7;go_wp2
                 go_roundw
                 case rel=>exact ⟨gs++[((x1:Int),(x2:Int))],V+2,ln+1,R7,_,by rw [List.length_append];simp;omega,by rw [List.length_append];go_num,by go_num,by have:=HV.out;rw [List.length_append];simp;omega,by rw [List.length_append];simp;omega,HR7.out,X8.out,hrl⟩
                 case measure=>simp [intOf];omega
                ·have d2:decide ((V:Int) / 2≤(x2:Int) / 2)=true:=by simp;omega
                 rw [if_neg (by have e2:=HV.out;dsimp only at *;omega)] at hstep;have HA:=hidN (bI hS HRUN.out hstep (eX hkn));clear hstep;obtain ⟨l1,hl1⟩:∃l1,l1=ln+1:=⟨_,rfl⟩
                 rw [←hl1] at I7 HA;have IA:=I7.boxA;have r1:=I7.rd.c1;have r1x:=cW (show w.heap.size+1≠w.heap.size by omega) r1 (.int .i64 0) (.slice none 0 0) (.slice none 0 0) (.slice none 0 0);unfold box4 at r1x;have IB:=eK (aS IA (.int .i64 0) (.slice none 0 0) (.slice none 0 0) (.slice none 0 0));unfold box4 at IB;have BB:=(aH I7.bel (Nat.le_refl _) (.int .i64 0) (.slice none 0 0) (.slice none 0 0) (.slice none 0 0)).drew;unfold box4 at BB;have RX:=hidN r1x;have RB:=hidN IB;have RE:=hidN BB;clear r1x IB BB;obtain ⟨u0,u1,u2,u3⟩:=aK IA;have v0:w7.frozen? ⟨w.heap.size,0,none⟩=false:=frozen_of_row _ _ _ _ _ IA;have v1:w7.frozen? ⟨w.heap.size,1,none⟩=false:=frozen_of_row _ _ _ _ _ IA;have v2:w7.frozen? ⟨w.heap.size,2,none⟩=false:=frozen_of_row _ _ _ _ _ IA;have v3:w7.frozen? ⟨w.heap.size,3,none⟩=false:=frozen_of_row _ _ _ _ _ IA;clear hl1
                 go_upto_region 37 with fail
                 refine wp_region_noPanic ?_;refine wp_region_any (by kernel_rfl) ?_;simp only [List.size_toArray,List.length_cons,List.length_nil,Nat.zero_add,Nat.reduceAdd];refine wpAny_of_held (S:=fun w'=>w'.cell? ⟨w.heap.size+1,1,none⟩=some (.int .i64 (l1:Int))) _ _ _ _ ?_;have hHeld:(fun w':World=>w'.cell? ⟨w.heap.size+1,1,none⟩=some (.int .i64 (l1:Int))) w7.drew:=r1;refine tkH (i:=0) (v:=?_) (hS:=hHeld) (hy:=Or.inl ⟨by rfl,?_⟩) (h:=?_)
                 rotate_left 1
                 ·(intro w0 hSw;(try dsimp only at hSw);go_simp;try (with_reducible rfl))
                 simp only [Act.put,sSet];refine tkH (i:=1) (v:=?_) (hS:=hHeld) (hy:=Or.inl ⟨by rfl,?_⟩) (h:=?_)
                 rotate_left 1
                 ·(intro w0 hSw;(try dsimp only at hSw);go_simp;try (with_reducible rfl))
                 simp only [Act.put,sSet];refine tkH (i:=2) (v:=?_) (hS:=hHeld) (hy:=Or.inl ⟨by rfl,?_⟩) (h:=?_)
                 rotate_left 1
                 ·(intro w0 hSw;(try dsimp only at hSw);go_simp;try (with_reducible rfl))
                 simp only [Act.put,sSet];refine tkH (i:=3) (v:=?_) (hS:=hHeld) (hy:=Or.inl ⟨by rfl,?_⟩) (h:=?_)
                 rotate_left 1
                 ·(intro w0 hSw;(try dsimp only at hSw);go_simp;try (with_reducible rfl))
                 simp only [Act.put,sSet];refine tkH (i:=4) (v:=?_) (hS:=hHeld) (hy:=Or.inl ⟨by rfl,?_⟩) (h:=?_)
                 rotate_left 1
                 ·(intro w0 hSw;(try dsimp only at hSw);go_simp;try (with_reducible rfl))
                 simp only [Act.put,sSet];refine wpAnyH_ready (rs:=[5]) (by kernel_rfl) (by simp) (AllReadyH.cons (by simp only [List.getElem?_toArray,List.getElem?_cons_succ,List.getElem?_cons_zero];rfl) (fun K hK=>?_) AllReadyH.nil);go_simp;refine hK.out _ _ ?_ (fun hHeld=>?_)
                 ·exact RX.out
                 clear hK K
                 try simp only [Act.put,sSet]
                 refine tkH (i:=6) (v:=?_) (hS:=hHeld) (hy:=Or.inl ⟨by rfl,?_⟩) (h:=?_)
                 rotate_left 1
                 ·(intro w0 hSw;(try dsimp only at hSw);go_simp;try (with_reducible rfl))
                 simp only [Act.put,sSet];refine tkH (i:=7) (v:=?_) (hS:=hHeld) (hy:=Or.inl ⟨by rfl,?_⟩) (h:=?_)
                 rotate_left 1
                 ·(intro w0 hSw;(try dsimp only at hSw);go_simp;try (with_reducible rfl))
                 simp only [Act.put,sSet];refine wpAnyH_done (by kernel_rfl) ?_ _;refine NoPanic.normal ?_;clear hHeld;go_wp2;refine bD (b:=w.heap.size) (x:=.int .i64 l1) (y:=.int .i64 1) RB.out (by simp only [List.getElem?_toArray,List.getElem?_cons_succ,List.getElem?_cons_zero,Option.getD_some]) (by simp only [List.getElem?_toArray,List.getElem?_cons_succ,List.getElem?_cons_zero,Option.getD_some]) (by simp only [List.getElem?_toArray,List.getElem?_cons_succ,List.getElem?_cons_zero,Option.getD_some]) ?_
                 exact ⟨RE.out,.inl ⟨l1,HA.out,rfl⟩⟩
               ·have d1:decide ((V:Int) / 2≤(x1:Int) / 2)=true:=by simp;omega
                rw [if_neg (by have e2:=HV.out;dsimp only at *;omega)] at hstep;have HA:=hidN (bI hS HRUN.out hstep (eX hkn));clear hstep;obtain ⟨l1,hl1⟩:∃l1,l1=ln+1:=⟨_,rfl⟩
                rw [←hl1] at I7 HA;have IA:=I7.boxA;have r1:=I7.rd.c1;have r1x:=cW (show w.heap.size+1≠w.heap.size by omega) r1 (.int .i64 0) (.slice none 0 0) (.slice none 0 0) (.slice none 0 0);unfold box4 at r1x;have IB:=eK (aS IA (.int .i64 0) (.slice none 0 0) (.slice none 0 0) (.slice none 0 0));unfold box4 at IB;have BB:=(aH I7.bel (Nat.le_refl _) (.int .i64 0) (.slice none 0 0) (.slice none 0 0) (.slice none 0 0)).drew;unfold box4 at BB;have RX:=hidN r1x;have RB:=hidN IB;have RE:=hidN BB;clear r1x IB BB;obtain ⟨u0,u1,u2,u3⟩:=aK IA;have v0:w7.frozen? ⟨w.heap.size,0,none⟩=false:=frozen_of_row _ _ _ _ _ IA;have v1:w7.frozen? ⟨w.heap.size,1,none⟩=false:=frozen_of_row _ _ _ _ _ IA;have v2:w7.frozen? ⟨w.heap.size,2,none⟩=false:=frozen_of_row _ _ _ _ _ IA;have v3:w7.frozen? ⟨w.heap.size,3,none⟩=false:=frozen_of_row _ _ _ _ _ IA;clear hl1
                go_upto_region 37 with fail
                refine wp_region_noPanic ?_;refine wp_region_any (by kernel_rfl) ?_;simp only [List.size_toArray,List.length_cons,List.length_nil,Nat.zero_add,Nat.reduceAdd];refine wpAny_of_held (S:=fun w'=>w'.cell? ⟨w.heap.size+1,1,none⟩=some (.int .i64 (l1:Int))) _ _ _ _ ?_;have hHeld:(fun w':World=>w'.cell? ⟨w.heap.size+1,1,none⟩=some (.int .i64 (l1:Int))) w7.drew:=r1;refine tkH (i:=0) (v:=?_) (hS:=hHeld) (hy:=Or.inl ⟨by rfl,?_⟩) (h:=?_)
                rotate_left 1
                ·(intro w0 hSw;(try dsimp only at hSw);go_simp;try (with_reducible rfl))
                simp only [Act.put,sSet];refine tkH (i:=1) (v:=?_) (hS:=hHeld) (hy:=Or.inl ⟨by rfl,?_⟩) (h:=?_)
                rotate_left 1
                ·(intro w0 hSw;(try dsimp only at hSw);go_simp;try (with_reducible rfl))
                simp only [Act.put,sSet];refine tkH (i:=2) (v:=?_) (hS:=hHeld) (hy:=Or.inl ⟨by rfl,?_⟩) (h:=?_)
                rotate_left 1
                ·(intro w0 hSw;(try dsimp only at hSw);go_simp;try (with_reducible rfl))
                simp only [Act.put,sSet];refine tkH (i:=3) (v:=?_) (hS:=hHeld) (hy:=Or.inl ⟨by rfl,?_⟩) (h:=?_)
                rotate_left 1
                ·(intro w0 hSw;(try dsimp only at hSw);go_simp;try (with_reducible rfl))
                simp only [Act.put,sSet];refine tkH (i:=4) (v:=?_) (hS:=hHeld) (hy:=Or.inl ⟨by rfl,?_⟩) (h:=?_)
                rotate_left 1
                ·(intro w0 hSw;(try dsimp only at hSw);go_simp;try (with_reducible rfl))
                simp only [Act.put,sSet];refine wpAnyH_ready (rs:=[5]) (by kernel_rfl) (by simp) (AllReadyH.cons (by simp only [List.getElem?_toArray,List.getElem?_cons_succ,List.getElem?_cons_zero];rfl) (fun K hK=>?_) AllReadyH.nil);go_simp;refine hK.out _ _ ?_ (fun hHeld=>?_)
                ·exact RX.out
                clear hK K
                try simp only [Act.put,sSet]
                refine tkH (i:=6) (v:=?_) (hS:=hHeld) (hy:=Or.inl ⟨by rfl,?_⟩) (h:=?_)
                rotate_left 1
                ·(intro w0 hSw;(try dsimp only at hSw);go_simp;try (with_reducible rfl))
                simp only [Act.put,sSet];refine tkH (i:=7) (v:=?_) (hS:=hHeld) (hy:=Or.inl ⟨by rfl,?_⟩) (h:=?_)
                rotate_left 1
                ·(intro w0 hSw;(try dsimp only at hSw);go_simp;try (with_reducible rfl))
                simp only [Act.put,sSet];refine wpAnyH_done (by kernel_rfl) ?_ _;refine NoPanic.normal ?_;clear hHeld;go_wp2;refine bD (b:=w.heap.size) (x:=.int .i64 l1) (y:=.int .i64 1) RB.out (by simp only [List.getElem?_toArray,List.getElem?_cons_succ,List.getElem?_cons_zero,Option.getD_some]) (by simp only [List.getElem?_toArray,List.getElem?_cons_succ,List.getElem?_cons_zero,Option.getD_some]) (by simp only [List.getElem?_toArray,List.getElem?_cons_succ,List.getElem?_cons_zero,Option.getD_some]) ?_
                exact ⟨RE.out,.inl ⟨l1,HA.out,rfl⟩⟩
              ·have d0:((x0:Int) != (V:Int))=true:=by simp;omega
               rw [if_neg (by have e2:=HV.out;dsimp only at *;omega)] at hstep;have HA:=hidN (bI hS HRUN.out hstep (eX hkn));clear hstep;obtain ⟨l1,hl1⟩:∃l1,l1=ln+1:=⟨_,rfl⟩
               rw [←hl1] at I7 HA;have IA:=I7.boxA;have r1:=I7.rd.c1;have r1x:=cW (show w.heap.size+1≠w.heap.size by omega) r1 (.int .i64 0) (.slice none 0 0) (.slice none 0 0) (.slice none 0 0);unfold box4 at r1x;have IB:=eK (aS IA (.int .i64 0) (.slice none 0 0) (.slice none 0 0) (.slice none 0 0));unfold box4 at IB;have BB:=(aH I7.bel (Nat.le_refl _) (.int .i64 0) (.slice none 0 0) (.slice none 0 0) (.slice none 0 0)).drew;unfold box4 at BB;have RX:=hidN r1x;have RB:=hidN IB;have RE:=hidN BB;clear r1x IB BB;obtain ⟨u0,u1,u2,u3⟩:=aK IA;have v0:w7.frozen? ⟨w.heap.size,0,none⟩=false:=frozen_of_row _ _ _ _ _ IA;have v1:w7.frozen? ⟨w.heap.size,1,none⟩=false:=frozen_of_row _ _ _ _ _ IA;have v2:w7.frozen? ⟨w.heap.size,2,none⟩=false:=frozen_of_row _ _ _ _ _ IA;have v3:w7.frozen? ⟨w.heap.size,3,none⟩=false:=frozen_of_row _ _ _ _ _ IA;clear hl1
               go_upto_region 37 with fail
               refine wp_region_noPanic ?_;refine wp_region_any (by kernel_rfl) ?_;simp only [List.size_toArray,List.length_cons,List.length_nil,Nat.zero_add,Nat.reduceAdd];refine wpAny_of_held (S:=fun w'=>w'.cell? ⟨w.heap.size+1,1,none⟩=some (.int .i64 (l1:Int))) _ _ _ _ ?_;have hHeld:(fun w':World=>w'.cell? ⟨w.heap.size+1,1,none⟩=some (.int .i64 (l1:Int))) w7.drew:=r1;refine tkH (i:=0) (v:=?_) (hS:=hHeld) (hy:=Or.inl ⟨by rfl,?_⟩) (h:=?_)
               rotate_left 1
               ·(intro w0 hSw;(try dsimp only at hSw);go_simp;try (with_reducible rfl))
               simp only [Act.put,sSet];refine tkH (i:=1) (v:=?_) (hS:=hHeld) (hy:=Or.inl ⟨by rfl,?_⟩) (h:=?_)
               rotate_left 1
               ·(intro w0 hSw;(try dsimp only at hSw);go_simp;try (with_reducible rfl))
               simp only [Act.put,sSet];refine tkH (i:=2) (v:=?_) (hS:=hHeld) (hy:=Or.inl ⟨by rfl,?_⟩) (h:=?_)
               rotate_left 1
               ·(intro w0 hSw;(try dsimp only at hSw);go_simp;try (with_reducible rfl))
               simp only [Act.put,sSet];refine tkH (i:=3) (v:=?_) (hS:=hHeld) (hy:=Or.inl ⟨by rfl,?_⟩) (h:=?_)
               rotate_left 1
               ·(intro w0 hSw;(try dsimp only at hSw);go_simp;try (with_reducible rfl))
               simp only [Act.put,sSet];refine tkH (i:=4) (v:=?_) (hS:=hHeld) (hy:=Or.inl ⟨by rfl,?_⟩) (h:=?_)
               rotate_left 1
               ·(intro w0 hSw;(try dsimp only at hSw);go_simp;try (with_reducible rfl))
               simp only [Act.put,sSet];refine wpAnyH_ready (rs:=[5]) (by kernel_rfl) (by simp) (AllReadyH.cons (by simp only [List.getElem?_toArray,List.getElem?_cons_succ,List.getElem?_cons_zero];rfl) (fun K hK=>?_) AllReadyH.nil);go_simp;refine hK.out _ _ ?_ (fun hHeld=>?_)
               ·exact RX.out
               clear hK K
               try simp only [Act.put,sSet]
               refine tkH (i:=6) (v:=?_) (hS:=hHeld) (hy:=Or.inl ⟨by rfl,?_⟩) (h:=?_)
               rotate_left 1
               ·(intro w0 hSw;(try dsimp only at hSw);go_simp;try (with_reducible rfl))
               simp only [Act.put,sSet];refine tkH (i:=7) (v:=?_) (hS:=hHeld) (hy:=Or.inl ⟨by rfl,?_⟩) (h:=?_)
               rotate_left 1
               ·(intro w0 hSw;(try dsimp only at hSw);go_simp;try (with_reducible rfl))
               simp only [Act.put,sSet];refine wpAnyH_done (by kernel_rfl) ?_ _;refine NoPanic.normal ?_;clear hHeld;go_wp2;refine bD (b:=w.heap.size) (x:=.int .i64 l1) (y:=.int .i64 1) RB.out (by simp only [List.getElem?_toArray,List.getElem?_cons_succ,List.getElem?_cons_zero,Option.getD_some]) (by simp only [List.getElem?_toArray,List.getElem?_cons_succ,List.getElem?_cons_zero,Option.getD_some]) (by simp only [List.getElem?_toArray,List.getElem?_cons_succ,List.getElem?_cons_zero,Option.getD_some]) ?_
               exact ⟨RE.out,.inl ⟨l1,HA.out,rfl⟩⟩
             ·have I7:=I.next sp7 rd7
              have HA:=hidN (bI hS HRUN.out (sQ (h:=⟨n1,n2,n3,n4⟩) rfl HKL.out HKO.out hkn hno) (eX hkn));clear hno hV;obtain ⟨l1,hl1⟩:∃l1,l1=ln+1:=⟨_,rfl⟩
              rw [←hl1] at I7 HA;have IA:=I7.boxA;have r1:=I7.rd.c1;have r1x:=cW (show w.heap.size+1≠w.heap.size by omega) r1 (.int .i64 0) (.slice none 0 0) (.slice none 0 0) (.slice none 0 0);unfold box4 at r1x;have IB:=eK (aS IA (.int .i64 0) (.slice none 0 0) (.slice none 0 0) (.slice none 0 0));unfold box4 at IB;have BB:=(aH I7.bel (Nat.le_refl _) (.int .i64 0) (.slice none 0 0) (.slice none 0 0) (.slice none 0 0)).drew;unfold box4 at BB;have RX:=hidN r1x;have RB:=hidN IB;have RE:=hidN BB;clear r1x IB BB;obtain ⟨u0,u1,u2,u3⟩:=aK IA;have v0:w7.frozen? ⟨w.heap.size,0,none⟩=false:=frozen_of_row _ _ _ _ _ IA;have v1:w7.frozen? ⟨w.heap.size,1,none⟩=false:=frozen_of_row _ _ _ _ _ IA;have v2:w7.frozen? ⟨w.heap.size,2,none⟩=false:=frozen_of_row _ _ _ _ _ IA;have v3:w7.frozen? ⟨w.heap.size,3,none⟩=false:=frozen_of_row _ _ _ _ _ IA;clear hl1
              go_upto_region 37 with fail
              refine wp_region_noPanic ?_;refine wp_region_any (by kernel_rfl) ?_;simp only [List.size_toArray,List.length_cons,List.length_nil,Nat.zero_add,Nat.reduceAdd];refine wpAny_of_held (S:=fun w'=>w'.cell? ⟨w.heap.size+1,1,none⟩=some (.int .i64 (l1:Int))) _ _ _ _ ?_;have hHeld:(fun w':World=>w'.cell? ⟨w.heap.size+1,1,none⟩=some (.int .i64 (l1:Int))) w7.drew:=r1;refine tkH (i:=0) (v:=?_) (hS:=hHeld) (hy:=Or.inl ⟨by rfl,?_⟩) (h:=?_)
              rotate_left 1
              ·(intro w0 hSw;(try dsimp only at hSw);go_simp;try (with_reducible rfl))
              simp only [Act.put,sSet];refine tkH (i:=1) (v:=?_) (hS:=hHeld) (hy:=Or.inl ⟨by rfl,?_⟩) (h:=?_)
              rotate_left 1
              ·(intro w0 hSw;(try dsimp only at hSw);go_simp;try (with_reducible rfl))
              simp only [Act.put,sSet];refine tkH (i:=2) (v:=?_) (hS:=hHeld) (hy:=Or.inl ⟨by rfl,?_⟩) (h:=?_)
              rotate_left 1
              ·(intro w0 hSw;(try dsimp only at hSw);go_simp;try (with_reducible rfl))
              simp only [Act.put,sSet];refine tkH (i:=3) (v:=?_) (hS:=hHeld) (hy:=Or.inl ⟨by rfl,?_⟩) (h:=?_)
              rotate_left 1
              ·(intro w0 hSw;(try dsimp only at hSw);go_simp;try (with_reducible rfl))
              simp only [Act.put,sSet];refine tkH (i:=4) (v:=?_) (hS:=hHeld) (hy:=Or.inl ⟨by rfl,?_⟩) (h:=?_)
              rotate_left 1
              ·(intro w0 hSw;(try dsimp only at hSw);go_simp;try (with_reducible rfl))
              simp only [Act.put,sSet];refine wpAnyH_ready (rs:=[5]) (by kernel_rfl) (by simp) (AllReadyH.cons (by simp only [List.getElem?_toArray,List.getElem?_cons_succ,List.getElem?_cons_zero];rfl) (fun K hK=>?_) AllReadyH.nil);go_simp;refine hK.out _ _ ?_ (fun hHeld=>?_)
              ·exact RX.out
              clear hK K
              try simp only [Act.put,sSet]
              refine tkH (i:=6) (v:=?_) (hS:=hHeld) (hy:=Or.inl ⟨by rfl,?_⟩) (h:=?_)
              rotate_left 1
              ·(intro w0 hSw;(try dsimp only at hSw);go_simp;try (with_reducible rfl))
              simp only [Act.put,sSet];refine tkH (i:=7) (v:=?_) (hS:=hHeld) (hy:=Or.inl ⟨by rfl,?_⟩) (h:=?_)
              rotate_left 1
              ·(intro w0 hSw;(try dsimp only at hSw);go_simp;try (with_reducible rfl))
              simp only [Act.put,sSet];refine wpAnyH_done (by kernel_rfl) ?_ _;refine NoPanic.normal ?_;clear hHeld;go_wp2;refine bD (b:=w.heap.size) (x:=.int .i64 l1) (y:=.int .i64 1) RB.out (by simp only [List.getElem?_toArray,List.getElem?_cons_succ,List.getElem?_cons_zero,Option.getD_some]) (by simp only [List.getElem?_toArray,List.getElem?_cons_succ,List.getElem?_cons_zero,Option.getD_some]) (by simp only [List.getElem?_toArray,List.getElem?_cons_succ,List.getElem?_cons_zero,Option.getD_some]) ?_
              exact ⟨RE.out,.inl ⟨l1,HA.out,rfl⟩⟩
           ·have HKG:=hidN (show gs.length=n4 by omega)
            have hknN:¬((gs.length:Int)<(n4:Int)):=(by omega)
            have hend:=aH0 (h:=⟨n1,n2,n3,n4⟩) (i:=n1) (r:=R) rfl HKL.out HKO.out HKG.out;have r0:=I.rd.c0;have r1:=I.rd.c1;have IA:=I.boxA;obtain ⟨u0,u1,u2,u3⟩:=aK IA;have v0:wr.frozen? ⟨w.heap.size,0,none⟩=false:=frozen_of_row _ _ _ _ _ IA;have v1:wr.frozen? ⟨w.heap.size,1,none⟩=false:=frozen_of_row _ _ _ _ _ IA;have v2:wr.frozen? ⟨w.heap.size,2,none⟩=false:=frozen_of_row _ _ _ _ _ IA;have v3:wr.frozen? ⟨w.heap.size,3,none⟩=false:=frozen_of_row _ _ _ _ _ IA
            by_cases he:R=[]
            ·subst he
             obtain ⟨z0,z1,z2,z3⟩:=aK I.q.boxC;have hans:Ans S (some ⟨n1,ls,gs,os⟩) 0:=.inr ⟨hS,_,_,HRUN.out,hend,.inl ⟨⟨_,rfl,rfl,HKL.out,HKO.out,HKG.out,rfl⟩,rfl,rfl⟩⟩;obtain ⟨la,lc,rfl⟩:=dA I.q.ownL;obtain ⟨ga,gc,rfl⟩:=dA I.q.ownG;obtain ⟨oa,oc,rfl⟩:=dA I.q.ownO;have h1:=I.hk1;have h2:=I.hk2;have HANS:=hidN hans;clear hend hans hV hkn hk9;go_wp2;refine bD (b:=w.heap.size) (x:=.int .i64 0) (y:=.int .i64 0) (aS IA _ _ _ _) (by simp only [List.getElem?_toArray,List.getElem?_cons_succ,List.getElem?_cons_zero,Option.getD_some]) (by simp only [List.getElem?_toArray,List.getElem?_cons_succ,List.getElem?_cons_zero,Option.getD_some]) (by simp only [List.getElem?_toArray,List.getElem?_cons_succ,List.getElem?_cons_zero,Option.getD_some]) ?_
             exact ⟨aH I.bel (Nat.le_refl _) _ _ _ _,.inr ⟨n1,ls,gs,os,la,ga,oa,lc,gc,oc,HANS.out,rfl,bG I.q.ownL (by omega) (by omega) _ _ _ _,bG I.q.ownG (by omega) (by omega) _ _ _ _,bG I.q.ownO (by omega) (by omega) _ _ _ _⟩⟩
            ·have HA:=hidN (bI hS HRUN.out hend (nC he))
             have heB:(R==[])=false:=(by simp [he])
             obtain ⟨l1,hl1⟩:∃l1,l1=ln+1:=⟨_,rfl⟩
             have hl1I:(ln:Int)+1=(l1:Int):=(by omega)
             have hl100:l1≤100:=(by omega)
             rw [←hl1] at HA;clear hend he hV hkn hk9 hl1;go_wp2
             go_region
             go_wp2;refine bD (b:=w.heap.size) (x:=.int .i64 l1) (y:=.int .i64 1) (aS IA _ _ _ _) (by simp only [List.getElem?_toArray,List.getElem?_cons_succ,List.getElem?_cons_zero,Option.getD_some]) (by simp only [List.getElem?_toArray,List.getElem?_cons_succ,List.getElem?_cons_zero,Option.getD_some]) (by simp only [List.getElem?_toArray,List.getElem?_cons_succ,List.getElem?_cons_zero,Option.getD_some]) ?_
             exact ⟨(aH I.bel (Nat.le_refl _) _ _ _ _).drew,.inl ⟨l1,HA.out,rfl⟩⟩
   ·have hb2:(!decide (n1≤4∧n2≤4∧n3≤4∧n4≤30∧n0=n1+n2+n4))=true:=by simp [hbad]
    rw [hb2];have hst:=HST.out;rw [if_neg hbad] at hst;have HA:=hidN (bI (k:=0) hS rfl hst (sB S));obtain ⟨u0,u1,u2,u3⟩:=aK bA5;have v0:w5.frozen? ⟨w.heap.size,0,none⟩=false:=frozen_of_row _ _ _ _ _ bA5;have v1:w5.frozen? ⟨w.heap.size,1,none⟩=false:=frozen_of_row _ _ _ _ _ bA5;have v2:w5.frozen? ⟨w.heap.size,2,none⟩=false:=frozen_of_row _ _ _ _ _ bA5;have v3:w5.frozen? ⟨w.heap.size,3,none⟩=false:=frozen_of_row _ _ _ _ _ bA5;clear hst HST hbad;go_wp2;refine bD (b:=w.heap.size) (x:=.int .i64 1) (y:=.int .i64 1) (aS bA5 _ _ _ _) (by simp only [List.getElem?_toArray,List.getElem?_cons_succ,List.getElem?_cons_zero,Option.getD_some]) (by simp only [List.getElem?_toArray,List.getElem?_cons_succ,List.getElem?_cons_zero,Option.getD_some]) (by simp only [List.getElem?_toArray,List.getElem?_cons_succ,List.getElem?_cons_zero,Option.getD_some]) ?_
    exact ⟨aH B5 (Nat.le_refl _) _ _ _ _,.inl ⟨1,HA.out,rfl⟩⟩
 ·have HA:=hidN (bI (k:=0) hS rfl (sR hno) (sB S))
  obtain ⟨u0,u1,u2,u3⟩:=aK bA4;have v0:w4.frozen? ⟨w.heap.size,0,none⟩=false:=frozen_of_row _ _ _ _ _ bA4;have v1:w4.frozen? ⟨w.heap.size,1,none⟩=false:=frozen_of_row _ _ _ _ _ bA4;have v2:w4.frozen? ⟨w.heap.size,2,none⟩=false:=frozen_of_row _ _ _ _ _ bA4;have v3:w4.frozen? ⟨w.heap.size,3,none⟩=false:=frozen_of_row _ _ _ _ _ bA4;go_wp2
  go_quiet (fail)
  go_wp2;refine bD (b:=w.heap.size) (x:=.int .i64 1) (y:=.int .i64 1) (aS (w:=w4.drewN _) bA4 _ _ _ _) (by simp only [List.getElem?_toArray,List.getElem?_cons_succ,List.getElem?_cons_zero,Option.getD_some]) (by simp only [List.getElem?_toArray,List.getElem?_cons_succ,List.getElem?_cons_zero,Option.getD_some]) (by simp only [List.getElem?_toArray,List.getElem?_cons_succ,List.getElem?_cons_zero,Option.getD_some]) ?_
  exact ⟨aH (below_drewN B4 _) (Nat.le_refl _) _ _ _ _,.inl ⟨1,HA.out,rfl⟩⟩
end Go.Proofs.YtgpaajdfkekjiaaGreatDoor
