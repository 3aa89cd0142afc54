/-
  A part of the proof of the statement All: texts of ours, made small by program (blanks, names).
-/
import Derived.Test.YtgpaajdfkekjiaaGreatDoorPg
import Derived.Test.YtgpaajdfkekjiaaGreatDoorQp
import Derived.Test.YtgpaajdfkekjiaaGreatDoorQn
import Derived.Test.YtgpaajdfkekjiaaGreatDoorPi
import Derived.WalkMore
import Derived.ScopeJumps
import Derived.Handy
namespace Go.Proofs.YtgpaajdfkekjiaaGreatDoor
set_option maxHeartbeats 8000000
set_option maxRecDepth 100000
open Go.RowKit
theorem Tryz.infoL:(Tryz.prog.info? 54).map (fun i=>(i.zero,i.size,i.bytes))=some (some (.agg #[.int .i64 0,.int .i64 0]),2,16):=by kernel_rfl
theorem Tryz.infoG:(Tryz.prog.info? 56).map (fun i=>(i.zero,i.size,i.bytes))=some (some (.agg #[.int .i64 0,.int .i64 0]),2,16):=by kernel_rfl
def JAt (w:World) (S:List UInt8) (a:Act) (w':World):Prop :=
 a.defers=[]∧a.tmps.size=108∧a.tmps[2]?=some (.pointer (some ⟨w.heap.size,0,none⟩))∧a.tmps[7]?=some (.pointer (some ⟨w.heap.size+1+1,0,none⟩))∧
 w'.heap[w.heap.size]?=some (.cells #[.int .i64 0,.slice none 0 0,.slice none 0 0,.slice none 0 0] 34 (0,0))∧(∃R line,RdAt w' (w.heap.size+2) R line∧Ans S none line)∧Below w.heap.size w w'
def vN (w:World) (S:List UInt8) (e:Ending) (w':World):Prop :=
 Below w.heap.size w w'∧((∃line:Nat,Ans S none line∧e=.returned (.tuple #[.agg #[.int .i64 0,.slice none 0 0,.slice none 0 0,.slice none 0 0],.int .i64 line,.int .i64 1]))∨
  (∃(n:Nat) (ls gs:List (Int×Int)) (os:List Int) (lv gv ov:Value),Ans S (some ⟨n,ls,gs,os⟩) 0∧e=.returned (.tuple #[.agg #[.int .i64 n,lv,gv,ov],.int .i64 0,.int .i64 0])∧
   w'.ownsRow w.heap.size 54 2 lv ls.length (flat ls)∧w'.ownsRow w.heap.size 56 2 gv gs.length (flat gs)∧w'.ownsRow w.heap.size 3 1 ov os.length (ivs os)∧
   (∀q,lv.ownBlock=some q→gv.ownBlock≠some q)∧(∀q,lv.ownBlock=some q→ov.ownBlock≠some q)∧(∀q,gv.ownBlock=some q→ov.ownBlock≠some q)))
def aHG:Prop:=∀(line rb:Nat) (R:List UInt8) (w:World),Lib0 w→¬jO rb→RdAt w rb R line→R.length≤1000→line≤100 →
  Calls Tryz.prog 39 #[.pointer (some ⟨rb,0,none⟩)] w fun e w' =>
   StepRes (st0 R) line rb w w' (fun st'=>∃h:Hd,h.Ok∧st'=⟨some h,0,[],[],[],st'.rest⟩∧e=.returned (.tuple #[.agg #[.int .i64 ((h.n:Int)+h.l+h.g),.int .i64 h.n,.int .i64 h.l,.int .i64 h.o,.int .i64 h.g],.bool true])) (∃a b c d f:Int,e=.returned (.tuple #[.agg #[.int .i64 a,.int .i64 b,.int .i64 c,.int .i64 d,.int .i64 f],.bool false]))
theorem aGF (R:List UInt8) (line rb:Nat) (w:World) (hr:RdAt w rb R line) (hl:line≤100) :
  Calls Tryz.prog 44 #[.pointer (some ⟨rb,0,none⟩)] w fun e w'=>Span rb (rb+1) w w'∧RdAt w' rb R (line+1)∧e=.returned (.bool (decide (R=[]))):=by
 have hcast:((line+1:Nat):Int)=(line:Int)+1:=by omega
 have hn:=hr.next;rw [hcast] at hn;have c0:=hr.c0;have c1:=hr.c1;have f1:=hr.f1;have n0:=hn.c0
 by_cases he:R=[]
 ·subst he
  go_enter Tryz.func44,Tryz.ntmps44
  go_wp2
  go_ret
  exact ⟨Span.set1 _ _ _ _,hn,rfl⟩
 ·go_enter Tryz.func44,Tryz.ntmps44
  go_wp2
  go_ret
  exact ⟨Span.set1 _ _ _ _,hn,aU (by simp [he])⟩
theorem aGI (hHead:aHG) (S:List UInt8) (w:World) (hL:Lib0 w) (hS:S.length≤1000) :
  Calls Tryz.prog 16 #[.string ⟨S.toArray⟩] w (vN w S):=by
 have hc:((⟨S.toArray⟩:ByteArray).size:Int)=S.length:=by rw [rA]
 go_enter Tryz.func16,Tryz.ntmps16
 go_wp2_with fail
 refine wp_scope_jumps 0 (JAt w S) (fun _ _=>0) rfl ?_ ?_
 ·go_wp2_with fail
  obtain ⟨W3,hW3⟩:∃W3,W3=((w.alloc (.cells #[.int .i64 0,.slice none 0 0,.slice none 0 0,.slice none 0 0] 34)).alloc (.cells #[.int .i64 0,.slice none 0 0,.slice none 0 0,.slice none 0 0] 34)).alloc (.cells #[.string ⟨S.toArray⟩,.int .i64 0] 89):=⟨_,rfl⟩
  rw [←hW3];have s3:W3.heap.size=w.heap.size+3:=by rw [hW3];simp
  have B3:Below w.heap.size w W3:=by rw [hW3];exact (((Below.refl _ _).alloc (Nat.le_refl _) _).alloc (by simp) _).alloc (by simp;omega) _
  have bA:W3.heap[w.heap.size]?=some (.cells #[.int .i64 0,.slice none 0 0,.slice none 0 0,.slice none 0 0] 34 (0,0)):=by rw [hW3];exact aA (aA (aB _ _ _ rfl))
  have bC:W3.heap[w.heap.size+1]?=some (.cells #[.int .i64 0,.slice none 0 0,.slice none 0 0,.slice none 0 0] 34 (0,0)):=by rw [hW3];exact aA (aB _ _ _ (by simp))
  have bR:W3.heap[w.heap.size+2]?=some (.cells #[.string ⟨S.toArray⟩,.int .i64 0] 89 (0,0)):=by rw [hW3];exact aB _ _ _ (by simp)
  have rd3:RdAt W3 (w.heap.size+2) S 0:=⟨by rw [cell_of_row _ _ _ _ _ _ bR];rfl,by rw [cell_of_row _ _ _ _ _ _ bR];rfl,frozen_of_row _ _ _ _ _ bR,frozen_of_row _ _ _ _ _ bR⟩
  have hg:¬jO (w.heap.size+2):=fun e=>by have:=hL.lt e;omega
  have L3:=hL.below B3;clear hW3 bR;refine (hHead 0 (w.heap.size+2) S W3 L3 hg rd3 hS (by omega)).mono ?_;rintro e w4 ⟨sp4,hres⟩;have bA4:w4.heap[w.heap.size]?=_:=(sp4.block w.heap.size (by omega) (by omega)).trans bA;have bC4:w4.heap[w.heap.size+1]?=_:=(sp4.block (w.heap.size+1) (by omega) (by omega)).trans bC;have B4:Below w.heap.size w w4:=B3.trans (sp4.below (by omega) (by omega));have s4:w.heap.size+3≤w4.heap.size:=by have:=sp4.size;omega
  have L4:=hL.below B4
  rcases hres with ⟨st',hst,rd4,hlen,h,hok,hst',rfl⟩ | ⟨R',hst,rd4,va,vb,vc,vd,vf,rfl⟩
  ·obtain ⟨h',i',ls',os',gs',R⟩:=st'
   simp only [St.mk.injEq] at hst';obtain ⟨rfl,rfl,rfl,rfl,rfl,_⟩:=hst';simp only at rd4 hlen;have hR:R.length≤1000:=Nat.le_trans hlen hS;have run1:runN S 1=some ⟨some h,0,[],[],[],R⟩:=eI (k:=0) rfl hst;obtain ⟨hh1,hh2,hh3,hh4⟩:=id hok;obtain ⟨W5,hW5⟩:∃W5,W5=w4.alloc (.cells #[.int .i64 ((h.n:Int)+h.l+h.g),.int .i64 h.n,.int .i64 h.l,.int .i64 h.o,.int .i64 h.g] 91):=⟨_,rfl⟩
   have cC:W5.cell? ⟨w.heap.size+1,0,none⟩=some (.int .i64 0):=(by rw [hW5,cell_of_row _ _ _ _ _ _ (aA bC4)];rfl)
   have fC:W5.frozen? ⟨w.heap.size+1,0,none⟩=false:=(by rw [hW5];exact frozen_of_row _ _ _ _ _ (aA bC4))
   rw [hW5] at cC fC;have cH1:W5.cell? ⟨w4.heap.size,1,none⟩=some (.int .i64 h.n):=(by rw [hW5,cell_of_row _ _ _ _ _ _ (aB _ _ _ rfl)];rfl)
   rw [hW5] at cH1;have I6:CInv w (W5.setCell ⟨w.heap.size+1,0,none⟩ (.int .i64 h.n)) w.heap.size w4.heap.size h (.slice none 0 0) (.slice none 0 0) (.slice none 0 0) [] [] []:=by
    rw [hW5];refine ⟨rfl,by omega,by rw [Deep.nblk_setCell];simp,?_,?_,?_,?_,World.ownsRow_nil _ _ _ _,World.ownsRow_nil _ _ _ _,World.ownsRow_nil _ _ _ _,(fun q e=>by cases e),(fun q e=>by cases e),(fun q e=>by cases e)⟩
    ·exact (B4.alloc (by omega) _).setCell (show w.heap.size≤w.heap.size+1 by omega) _
    ·rw [Deep.blk_setCell_other _ _ _ _ (show w.heap.size≠w.heap.size+1 by omega)];exact aA bA4
    ·exact aM (aA bC4) _ _
    ·rw [Deep.blk_setCell_other _ _ _ _ (show w4.heap.size≠w.heap.size+1 by omega)];exact aB _ _ _ rfl
   have rd6:RdAt (W5.setCell ⟨w.heap.size+1,0,none⟩ (.int .i64 h.n)) (w.heap.size+2) R 1:=(by rw [hW5];exact (rd4.below ((Below.refl _ _).alloc (Nat.le_refl _) _)).set_other (by omega) _)
   rw [hW5] at I6 rd6
   go_wp2_with fail
   obtain ⟨W6,hW6⟩:∃W6,W6=(w4.alloc (.cells #[.int .i64 ((h.n:Int)+h.l+h.g),.int .i64 h.n,.int .i64 h.l,.int .i64 h.o,.int .i64 h.g] 91)).setCell ⟨w.heap.size+1,0,none⟩ (.int .i64 h.n):=⟨_,rfl⟩
   rw [←hW6] at I6 rd6 ⊢;obtain ⟨hb,hhb⟩:∃hb,hb=w4.heap.size:=⟨_,rfl⟩
   rw [←hhb] at I6 ⊢;clear hhb hW6 cH1 cC fC hW5 hst rd4 hlen bA4 bC4 B4 s4 L4 sp4 bA bC rd3 L3 B3 s3
   go_loopw [6,33] (fun sg i wr=>∃(k:Nat) (R':List UInt8),k≤h.n∧i=.int .i64 k∧sg=.int .i64 (2*(k:Int))∧runN S (1+k)=some ⟨some h,k,[],[],[],R'⟩∧CInv w wr w.heap.size hb h (.slice none 0 0) (.slice none 0 0) (.slice none 0 0) [] [] []∧RdAt wr (w.heap.size+2) R' (1+k)∧R'.length≤1000)
    (fun _ i _=>h.n - (intOf i).toNat)
   case atStart=>exact ⟨0,R,Nat.zero_le _,rfl,rfl,run1,I6,rd6,hR⟩
   case round =>
    clear I6 rd6 run1 hR R;obtain ⟨k,R,hk,rfl,rfl,hrun,I,rd,hR⟩:=hrel;have Lr:=hL.below I.bel
    by_cases hk2:k<h.n
    ·go_wp2_with fail
     refine (aBT h k (1+k) (w.heap.size+2) _ R [] [] [] wr Lr hg rd hR (by omega) hok hk2 rfl).mono ?_;rintro e w7 ⟨sp7,hres⟩;have I7:=I.span sp7
     rcases hres with ⟨st',hst,rd7,hlen,hst',rfl⟩ | ⟨R',hst,rd7,rfl⟩
     ·obtain ⟨h',i',ls',os',gs',R7⟩:=st'
      simp only [St.mk.injEq] at hst';obtain ⟨rfl,rfl,rfl,rfl,rfl,_⟩:=hst';simp only at rd7 hlen;have hrun7:=eI hrun hst;go_wp2
      go_roundw
      case rel=>exact ⟨k+1,R7,by omega,by go_num,by go_num,hrun7,I7,rd7,Nat.le_trans hlen hR⟩
      case measure=>simp [intOf];omega
     ·go_wp2_with fail
      apply wp_goto
      show (0:Nat)=0∧JAt w S _ _
      exact ⟨rfl,rfl,rfl,rfl,rfl,I7.boxA,⟨_,_,rd7,bI hS hrun hst (lY hk2)⟩,I7.bel⟩
    ·obtain rfl:k=h.n:=by omega
     have cH2:wr.cell? ⟨hb,2,none⟩=some (.int .i64 h.l):=by rw [cell_of_row _ _ _ _ _ _ I.boxH];rfl
     go_wp2_with fail
     clear cH2
     go_loopw [6,43] (fun sg i wr=>∃(ls:List (Int×Int)) (R':List UInt8) (lv:Value),ls.length≤h.l∧i=.int .i64 ls.length∧sg=.int .i64 (2*((h.n:Int)+ls.length))∧runN S (1+h.n+ls.length)=some ⟨some h,h.n,ls,[],[],R'⟩∧CInv w wr w.heap.size hb h lv (.slice none 0 0) (.slice none 0 0) ls [] []∧RdAt wr (w.heap.size+2) R' (1+h.n+ls.length)∧R'.length≤1000)
      (fun _ i _=>h.l - (intOf i).toNat)
     case atStart=>exact ⟨[],R,_,Nat.zero_le _,rfl,by simp,hrun,I,rd,hR⟩
     case round =>
      clear I rd hrun hR R Lr;obtain ⟨ls,R,lv,hk,rfl,rfl,hrun,I,rd,hR⟩:=hrel;have Lr:=hL.below I.bel
      by_cases hk2:ls.length<h.l
      ·have cH0:wr.cell? ⟨hb,0,none⟩=some (.int .i64 ((h.n:Int)+h.l+h.g)):=by rw [cell_of_row _ _ _ _ _ _ I.boxH];rfl
       go_wp2_with fail
       refine (aBU h h.n (1+h.n+ls.length) (w.heap.size+2) _ _ R ls [] [] wr Lr hg rd hR (by omega) hok rfl hk2 rfl rfl).mono ?_;rintro e w7 ⟨sp7,hres⟩;have I7:=I.span sp7
       rcases hres with ⟨st',hst,rd7,hlen,a,b,hst',rfl⟩ | ⟨R',hst,rd7,rfl⟩
       ·obtain ⟨h',i',ls',os',gs',R7⟩:=st'
        simp only [St.mk.injEq] at hst';obtain ⟨rfl,rfl,rfl,rfl,rfl,_⟩:=hst';simp only at rd7 hlen;have hrun7:=eI hrun hst;obtain ⟨o1,ho1⟩:∃o1,o1=Obj.cells #[.int .i64 a,.int .i64 b] 54 (0,0):=⟨_,rfl⟩
        have I8:=I7.alloc o1;have cC1:(w7.alloc o1).cell? ⟨w.heap.size+1,1,none⟩=some lv:=(by rw [cell_of_row _ _ _ _ _ _ I8.boxC];rfl)
        obtain ⟨i0,hi0,hz0,hz1,hz2⟩:=info_parts Tryz.infoL;have I9:=I8.alloc o1;have rd9:=(rd7.below ((Below.refl _ _).alloc (Nat.le_refl _) o1)).below ((Below.refl _ _).alloc (Nat.le_refl _) o1);have hl9:=I9.hbl;have hb9:=I9.hb2;have hbnd:ls.length≤4:=(by omega)
        rw [ho1] at cC1 I9 rd9 hl9
        go_wp2_with (first
         | (
           at_builtin;refine wpList_append_lies _ rfl (.tmp 57) (.tmp 59) 30 rfl (hb+1) 54 i0 (.agg #[.int .i64 0,.int .i64 0]) 2 16 Tryz.underlying30 hi0 hz0 hz1 hz2 rfl (by omega) lv ls.length (flat ls) rfl I9.ownL ⟨_,0,none⟩ 1 1 [.int .i64 a,.int .i64 b] rfl rfl (World.news_of_block (aB _ _ _ (by simp))) (by simp [Value.oneCell']) (by omega) (by unfold maxLen;omega) (by omega) (by omega) _ rfl ?_
           intro g' cap' w8 own8 grow8 hat8 hlt8;have G8:Grew _ w8 lv g':=⟨grow8,hat8⟩
           have x8:=I9.addL own8 G8;have cC8:w8.cell? ⟨w.heap.size+1,1,none⟩=some lv:=(by rw [cell_of_row _ _ _ _ _ _ ((G8.blk (w.heap.size+1) (by omega) (fun e=>by have:=(I9.ownL.lt _ e).1;omega)).trans I9.boxC)];rfl)
           have fC8:w8.frozen? ⟨w.heap.size+1,1,none⟩=false:=frozen_of_row _ _ _ _ _ ((G8.blk (w.heap.size+1) (by omega) (fun e=>by have:=(I9.ownL.lt _ e).1;omega)).trans I9.boxC);have rd8:RdAt w8 (w.heap.size+2) R7 (1+h.n+ls.length+1):=rd9.blk (G8.blk (w.heap.size+2) (by omega) (fun e=>by have:=(I9.ownL.lt _ e).1;omega)))
         | fail)
        go_roundw
        case rel=>exact ⟨ls++[((a:Int),(b:Int))],R7,_,by simp;omega,by simp,by simp;omega,by rw [List.length_append];exact hrun7,x8,by rw [List.length_append];exact rd8.set_other (by omega) _,Nat.le_trans hlen hR⟩
        case measure=>simp [intOf];omega
       ·go_wp2_with fail
        apply wp_goto
        show (0:Nat)=0∧JAt w S _ _
        exact ⟨rfl,rfl,rfl,rfl,rfl,aA I7.boxA,⟨_,_,rd7.below ((Below.refl _ _).alloc (Nat.le_refl _) _),bI hS hrun hst (eH hk2)⟩,I7.bel.alloc (by have:=I7.hbl;have:=I7.hb2;omega) _⟩
      ·have HKL:Hid (ls.length=h.l):=(by omega:ls.length=h.l)
       have cH3:wr.cell? ⟨hb,3,none⟩=some (.int .i64 h.o):=by rw [cell_of_row _ _ _ _ _ _ I.boxH];rfl
       go_wp2_with fail
       clear cH3
       go_loopw [65] (fun i wr=>∃(os:List Int) (R':List UInt8) (ov:Value),os.length≤h.o∧i=.int .i64 os.length∧runN S (1+h.n+ls.length+os.length)=some ⟨some h,h.n,ls,os,[],R'⟩∧CInv w wr w.heap.size hb h lv (.slice none 0 0) ov ls [] os∧RdAt wr (w.heap.size+2) R' (1+h.n+ls.length+os.length)∧R'.length≤1000)
        (fun i _=>h.o - (intOf i).toNat)
       case atStart=>exact ⟨[],R,_,Nat.zero_le _,rfl,hrun,I,rd,hR⟩
       case round =>
        clear I rd hrun hR R Lr;obtain ⟨os,R,ov,hk,rfl,hrun,I,rd,hR⟩:=hrel;have Lr:=hL.below I.bel
        by_cases hk2:os.length<h.o
        ·have cH0:wr.cell? ⟨hb,0,none⟩=some (.int .i64 ((h.n:Int)+h.l+h.g)):=by rw [cell_of_row _ _ _ _ _ _ I.boxH];rfl
         go_wp2_with fail
         refine (aGG h h.n (1+h.n+ls.length+os.length) (w.heap.size+2) _ R ls [] os wr Lr hg rd hR (by have:=HKL.out;omega) hok rfl HKL.out hk2 rfl).mono ?_;rintro e w7 ⟨sp7,hres⟩;have I7:=I.span sp7
         rcases hres with ⟨st',hst,rd7,hlen,a,hst',rfl⟩ | ⟨R',hst,rd7,rfl⟩
         ·obtain ⟨h',i',ls',os',gs',R7⟩:=st'
          simp only [St.mk.injEq] at hst';obtain ⟨e1,e2,e3,e4,e5,_⟩:=hst';obtain rfl:=e1.symm;obtain rfl:=e2.symm;obtain rfl:=e3.symm;obtain rfl:=e4.symm;obtain rfl:=e5.symm;simp only at rd7 hlen;have hrun7:=eI hrun hst;obtain ⟨o1,ho1⟩:∃o1,o1=Obj.cells #[.int .i64 a] 3 (0,0):=⟨_,rfl⟩
          have cC1:w7.cell? ⟨w.heap.size+1,3,none⟩=some ov:=(by rw [cell_of_row _ _ _ _ _ _ I7.boxC];rfl)
          obtain ⟨i0,hi0,hz0,hz1,hz2⟩:=info_parts Tryz.infoInt;have I9:=I7.alloc o1;have rd9:=rd7.below ((Below.refl _ _).alloc (Nat.le_refl _) o1);have hl9:=I9.hbl;have hb9:=I9.hb2;have hbnd:os.length≤4:=(by omega)
          rw [ho1] at I9 rd9 hl9
          go_wp2_with (first
           | (
             at_builtin;refine wpList_append_lies _ rfl (.tmp 76) (.tmp 78) 32 rfl (hb+1) 3 i0 (.int .i64 0) 1 8 Tryz.underlying32 hi0 hz0 hz1 hz2 rfl (by omega) ov os.length (ivs os) rfl I9.ownO ⟨_,0,none⟩ 1 1 [.int .i64 a] rfl rfl (World.news_of_block (aB _ _ _ (by simp))) (by simp [Value.oneCell']) (by omega) (by unfold maxLen;omega) (by omega) (by omega) _ rfl ?_
             intro g' cap' w8 own8 grow8 hat8 hlt8;have G8:Grew _ w8 ov g':=⟨grow8,hat8⟩
             have x8:=I9.addO own8 G8;have cC8:w8.cell? ⟨w.heap.size+1,3,none⟩=some ov:=(by rw [cell_of_row _ _ _ _ _ _ ((G8.blk (w.heap.size+1) (by omega) (fun e=>by have:=(I9.ownO.lt _ e).1;omega)).trans I9.boxC)];rfl)
             have fC8:w8.frozen? ⟨w.heap.size+1,3,none⟩=false:=frozen_of_row _ _ _ _ _ ((G8.blk (w.heap.size+1) (by omega) (fun e=>by have:=(I9.ownO.lt _ e).1;omega)).trans I9.boxC);have rd8:RdAt w8 (w.heap.size+2) R7 (1+h.n+ls.length+os.length+1):=rd9.blk (G8.blk (w.heap.size+2) (by omega) (fun e=>by have:=(I9.ownO.lt _ e).1;omega)))
           | fail)
          go_roundw
          case rel=>exact ⟨os++[(a:Int)],R7,_,by simp;omega,by simp,by rw [List.length_append];exact hrun7,x8,by rw [List.length_append];exact rd8.set_other (by omega) _,Nat.le_trans hlen hR⟩
          case measure=>simp [intOf];omega
         ·go_wp2_with fail
          apply wp_goto
          show (0:Nat)=0∧JAt w S _ _
          exact ⟨rfl,rfl,rfl,rfl,rfl,I7.boxA,⟨_,_,rd7,bI hS hrun hst (jR hk2)⟩,I7.bel⟩
        ·have HKO:Hid (os.length=h.o):=(by omega:os.length=h.o)
         have cH4:wr.cell? ⟨hb,4,none⟩=some (.int .i64 h.g):=by rw [cell_of_row _ _ _ _ _ _ I.boxH];rfl
         go_wp2_with fail
         clear cH4
         go_loopw [6,84] (fun sg i wr=>∃(gs:List (Int×Int)) (R':List UInt8) (gv:Value),gs.length≤h.g∧i=.int .i64 gs.length∧sg=.int .i64 (2*((h.n:Int)+ls.length+gs.length))∧runN S (1+h.n+ls.length+os.length+gs.length)=some ⟨some h,h.n,ls,os,gs,R'⟩∧CInv w wr w.heap.size hb h lv gv ov ls gs os∧RdAt wr (w.heap.size+2) R' (1+h.n+ls.length+os.length+gs.length)∧R'.length≤1000)
          (fun _ i _=>h.g - (intOf i).toNat)
         case atStart=>exact ⟨[],R,_,Nat.zero_le _,rfl,by simp,by rw [List.length_nil,Nat.add_zero];exact hrun,I,by rw [List.length_nil,Nat.add_zero];exact rd,hR⟩
         case round =>
          clear I rd hrun hR R Lr;obtain ⟨gs,R,gv,hk,rfl,rfl,hrun,I,rd,hR⟩:=hrel;have Lr:=hL.below I.bel
          by_cases hk2:gs.length<h.g
          ·have HVV:Hid (2*((h.n:Int)+ls.length+gs.length)+2=2*((h.n:Int)+h.l+gs.length)+2):=(by have:=HKL.out;omega:2*((h.n:Int)+ls.length+gs.length)+2=2*((h.n:Int)+h.l+gs.length)+2)
           go_wp2_with fail
           refine (aEK h h.n (1+h.n+ls.length+os.length+gs.length) (w.heap.size+2) _ R ls gs os wr Lr hg rd hR (by have:=HKL.out;have:=HKO.out;omega) hok rfl HKL.out HKO.out hk2 HVV.out).mono ?_;rintro e w7 ⟨sp7,hres⟩;have I7:=I.span sp7
           rcases hres with ⟨st',hst,rd7,hlen,a,b,hst',rfl⟩ | ⟨R',hst,rd7,rfl⟩
           ·obtain ⟨h',i',ls',os',gs',R7⟩:=st'
            simp only [St.mk.injEq] at hst';obtain ⟨e1,e2,e3,e4,e5,_⟩:=hst';obtain rfl:=e1.symm;obtain rfl:=e2.symm;obtain rfl:=e3.symm;obtain rfl:=e4.symm;obtain rfl:=e5.symm;simp only at rd7 hlen;have hrun7:=eI hrun hst;obtain ⟨o1,ho1⟩:∃o1,o1=Obj.cells #[.int .i64 a,.int .i64 b] 56 (0,0):=⟨_,rfl⟩
            have I8:=I7.alloc o1;have cC1:(w7.alloc o1).cell? ⟨w.heap.size+1,2,none⟩=some gv:=(by rw [cell_of_row _ _ _ _ _ _ I8.boxC];rfl)
            obtain ⟨i0,hi0,hz0,hz1,hz2⟩:=info_parts Tryz.infoG;have I9:=I8.alloc o1;have rd9:=(rd7.below ((Below.refl _ _).alloc (Nat.le_refl _) o1)).below ((Below.refl _ _).alloc (Nat.le_refl _) o1);have hl9:=I9.hbl;have hb9:=I9.hb2;have hbnd:gs.length≤30:=(by omega)
            rw [ho1] at cC1 I9 rd9 hl9
            go_wp2_with (first
             | (
               at_builtin;refine wpList_append_lies _ rfl (.tmp 96) (.tmp 98) 31 rfl (hb+1) 56 i0 (.agg #[.int .i64 0,.int .i64 0]) 2 16 Tryz.underlying31 hi0 hz0 hz1 hz2 rfl (by omega) gv gs.length (flat gs) rfl I9.ownG ⟨_,0,none⟩ 1 1 [.int .i64 a,.int .i64 b] rfl rfl (World.news_of_block (aB _ _ _ (by simp))) (by simp [Value.oneCell']) (by omega) (by unfold maxLen;omega) (by omega) (by omega) _ rfl ?_
               intro g' cap' w8 own8 grow8 hat8 hlt8;have G8:Grew _ w8 gv g':=⟨grow8,hat8⟩
               have x8:=I9.addG own8 G8;have cC8:w8.cell? ⟨w.heap.size+1,2,none⟩=some gv:=(by rw [cell_of_row _ _ _ _ _ _ ((G8.blk (w.heap.size+1) (by omega) (fun e=>by have:=(I9.ownG.lt _ e).1;omega)).trans I9.boxC)];rfl)
               have fC8:w8.frozen? ⟨w.heap.size+1,2,none⟩=false:=frozen_of_row _ _ _ _ _ ((G8.blk (w.heap.size+1) (by omega) (fun e=>by have:=(I9.ownG.lt _ e).1;omega)).trans I9.boxC);have rd8:RdAt w8 (w.heap.size+2) R7 (1+h.n+ls.length+os.length+gs.length+1):=rd9.blk (G8.blk (w.heap.size+2) (by omega) (fun e=>by have:=(I9.ownG.lt _ e).1;omega)))
             | fail)
            go_roundw
            case rel=>exact ⟨gs++[((a:Int),(b:Int))],R7,_,by simp;omega,by simp,by simp;omega,by rw [List.length_append];exact hrun7,x8,by rw [List.length_append];exact rd8.set_other (by omega) _,Nat.le_trans hlen hR⟩
            case measure=>simp [intOf];omega
           ·go_wp2_with fail
            apply wp_goto
            show (0:Nat)=0∧JAt w S _ _
            exact ⟨rfl,rfl,rfl,rfl,rfl,aA I7.boxA,⟨_,_,rd7.below ((Below.refl _ _).alloc (Nat.le_refl _) _),bI hS hrun hst (eX hk2)⟩,I7.bel.alloc (by have:=I7.hbl;have:=I7.hb2;omega) _⟩
          ·have HKG:Hid (gs.length=h.g):=(by omega:gs.length=h.g)
           go_wp2_with fail
           refine (aGF R _ (w.heap.size+2) wr rd (by have:=HKL.out;have:=HKO.out;omega)).mono ?_;rintro e w7 ⟨sp7,rd7,rfl⟩;have I7:=I.span sp7;have hend:=aH0 (i:=h.n) (r:=R) rfl HKL.out HKO.out HKG.out
           by_cases he:R=[]
           ·subst he
            obtain ⟨q0,q1,q2,q3⟩:=aK I7.boxA;have qf0:w7.frozen? ⟨w.heap.size,0,none⟩=false:=frozen_of_row _ _ _ _ _ I7.boxA;have qf1:w7.frozen? ⟨w.heap.size,1,none⟩=false:=frozen_of_row _ _ _ _ _ I7.boxA;have qf2:w7.frozen? ⟨w.heap.size,2,none⟩=false:=frozen_of_row _ _ _ _ _ I7.boxA;have qf3:w7.frozen? ⟨w.heap.size,3,none⟩=false:=frozen_of_row _ _ _ _ _ I7.boxA;obtain ⟨z0,z1,z2,z3⟩:=aK I7.boxC;obtain ⟨la,ln,lc,rfl⟩:=bQ I7.ownL;obtain ⟨ga,gn,gc,rfl⟩:=bQ I7.ownG;obtain ⟨oa,on,oc,rfl⟩:=bQ I7.ownO;have hb7:=I7.hb2;have hans:Ans S (some ⟨h.n,ls,gs,os⟩) 0:=.inr ⟨hS,_,_,hrun,hend,.inl ⟨⟨h,rfl,rfl,HKL.out,HKO.out,HKG.out,rfl⟩,rfl,rfl⟩⟩;go_wp2;rw [wG];refine oQ (b:=w.heap.size) (x:=.int .i64 0) (y:=.int .i64 0) (aS I7.boxA _ _ _ _) rfl rfl rfl ?_
            exact ⟨aH I7.bel (Nat.le_refl _) _ _ _ _,.inr ⟨h.n,ls,gs,os,_,_,_,hans,rfl,bG I7.ownL (by omega) (by omega) _ _ _ _,bG I7.ownG (by omega) (by omega) _ _ _ _,bG I7.ownO (by omega) (by omega) _ _ _ _,I7.lg,I7.lo,I7.go'⟩⟩
           ·go_wp2_with fail
            apply wp_goto
            show (0:Nat)=0∧JAt w S _ _
            exact ⟨rfl,rfl,rfl,rfl,rfl,I7.boxA,⟨_,_,rd7,bI hS hrun hend (nC he)⟩,I7.bel⟩
  ·go_wp2_with fail
   apply wp_goto
   show (0:Nat)=0∧JAt w S _ _
   exact ⟨rfl,rfl,rfl,rfl,rfl,aA bA4,⟨_,_,rd4.below ((Below.refl _ _).alloc (Nat.le_refl _) _),bI (k:=0) hS rfl hst (sB S)⟩,B4.alloc (by omega) _⟩
 ·rintro a w1 ⟨hd,hs,t2,t7,hbox,⟨R,line,hrd,hans⟩,hbel⟩
  obtain ⟨x0,x1,x2,x3,x4,x5,x6,x7,x8,x9,x10,x11,x12,x13,x14,x15,x16,x17,x18,x19,x20,x21,x22,x23,x24,x25,x26,x27,x28,x29,x30,x31,x32,x33,x34,x35,x36,x37,x38,x39,x40,x41,x42,x43,x44,x45,x46,x47,x48,x49,x50,x51,x52,x53,x54,x55,x56,x57,x58,x59,x60,x61,x62,x63,x64,x65,x66,x67,x68,x69,x70,x71,x72,x73,x74,x75,x76,x77,x78,x79,x80,x81,x82,x83,x84,x85,x86,x87,x88,x89,x90,x91,x92,x93,x94,x95,x96,x97,x98,x99,x100,x101,x102,x103,x104,x105,x106,x107,rfl⟩:=aB3 a hd hs;simp only [List.getElem?_toArray,List.getElem?_cons_succ,List.getElem?_cons_zero,Option.some.injEq] at t2 t7;subst t2 t7;have c1:=hrd.c1;obtain ⟨q0,q1,q2,q3⟩:=aK hbox;have qf0:w1.frozen? ⟨w.heap.size,0,none⟩=false:=frozen_of_row _ _ _ _ _ hbox;have qf1:w1.frozen? ⟨w.heap.size,1,none⟩=false:=frozen_of_row _ _ _ _ _ hbox;have qf2:w1.frozen? ⟨w.heap.size,2,none⟩=false:=frozen_of_row _ _ _ _ _ hbox;have qf3:w1.frozen? ⟨w.heap.size,3,none⟩=false:=frozen_of_row _ _ _ _ _ hbox;go_wp2
  go_region
  go_wp2;rw [wG];refine oQ (b:=w.heap.size) (x:=.int .i64 line) (y:=.int .i64 1) (aS hbox _ _ _ _) rfl rfl rfl ?_
  exact ⟨(aH hbel (Nat.le_refl _) _ _ _ _).drew,.inl ⟨line,hans,rfl⟩⟩
end Go.Proofs.YtgpaajdfkekjiaaGreatDoor
