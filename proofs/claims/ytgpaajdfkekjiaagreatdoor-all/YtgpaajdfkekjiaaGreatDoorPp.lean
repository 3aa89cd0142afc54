/-
  A part of the proof of the statement All: texts of ours, made small by program (blanks, names).
-/
import Derived.Test.YtgpaajdfkekjiaaGreatDoorPg
import Derived.Test.YtgpaajdfkekjiaaGreatDoorPi
import Derived.Test.YtgpaajdfkekjiaaGreatDoorPf
import Derived.Test.YtgpaajdfkekjiaaGreatDoorPn
import Derived.Test.YtgpaajdfkekjiaaGreatDoorPo
import Derived.Deep.OwnRows
import Derived.Laws.FloatArith
import Derived.Test.YtgpaajdfkekjiaaGreatDoorPj
namespace Go.Proofs.YtgpaajdfkekjiaaGreatDoor
set_option maxHeartbeats 8000000
set_option maxRecDepth 100000
open Go.RowKit
theorem hidC {p:Prop}(h:p):Hid p:=h
def ivf (f:Nat→Nat) (v:Nat):Value:=.int .i64 (f v:Int)
theorem aGO {w:World}{b:Nat}{f g:Nat→Nat}{i x:Nat}(h:w.rowIs b 3 16 (ivf f)) (hg:∀j,j<16→g j=if j=i then x else f j):(w.setCell ⟨b,i,none⟩ (.int .i64 (x:Int))).rowIs b 3 16 (ivf g):=by
 refine (h.set i _).congr (fun j hj=>?_);unfold ivf;rw [hg j hj]
 by_cases e:j=i<;>simp [e]
theorem tN {w:World}{base e size:Nat}{v:Value}{n:Nat}{xs:List Value}(h:w.ownsRow base e size v n xs):∃a c,v=.slice a n c:=by
 rcases h.2 with ⟨h',h0⟩ | ⟨g,cap,cur,hv,_⟩
 ·exact ⟨none,0,by rw [h',h0]⟩
 ·exact ⟨_,_,hv⟩
theorem Tryz.infoI16:(Tryz.prog.info? 3).map (fun i=>(i.zero,i.size,i.bytes))=some (some (.int .i64 0),1,8):=by kernel_rfl
theorem wW (n steps:Nat) (la ga oa:Option Addr) (lc gc oc:Nat) (ls gs:List (Int×Int)) (os:List Int) (w:World) (hr:aG n ls gs os=true) (h1:1≤steps) (h10:steps≤10) (hL:PairsAt w la ls) (hG:PairsAt w ga gs) (hO:IntsAt w oa os)
  (fL:∀i,i<ls.length→Fits (ls.getD i (0,0)).1) (fG:∀i,i<gs.length→Fits (gs.getD i (0,0)).1∧Fits (gs.getD i (0,0)).2) (fO:∀i,i<os.length→Fits (os.getD i 0)) :
  Calls Tryz.prog 30 #[.agg #[.int .i64 n,.slice la ls.length lc,.slice ga gs.length gc,.slice oa os.length oc],.int .i64 steps] w fun e w'=>∃a c,e=.returned (.tuple #[.slice a (chL n ls gs os steps).length c,.int .i64 0])∧FltsAt w' a (chL n ls gs os steps)∧Below w.heap.size w w':=by
 obtain ⟨W2,hW2⟩:∃W2,W2=w.alloc (.cells #[.int .i64 n,.slice la ls.length lc,.slice ga gs.length gc,.slice oa os.length oc] 34):=⟨_,rfl⟩
 have s2:W2.heap.size=w.heap.size+1:=by rw [hW2];simp
 have B2:Below w.heap.size w W2:=by rw [hW2];exact (Below.refl _ _).alloc (Nat.le_refl _) _
 have bC2:W2.heap[w.heap.size]?=some (.cells #[.int .i64 n,.slice la ls.length lc,.slice ga gs.length gc,.slice oa os.length oc] 34 (0,0)):=by rw [hW2];exact aB _ _ _ rfl
 obtain ⟨q0,q1,q2,q3⟩:=aK bC2;have rg:=eA (lc:=lc) (gc:=gc) (oc:=oc) W2 (hL.below B2) (hG.below B2) (hO.below B2) fL fG fO hr;obtain ⟨⟨_,hn4',hl4,ho4,hg30⟩,hokl,hgat,hout⟩:=cD hr;have hn4:n≤4:=by omega
 have hinit:∀i,i<ls.length→inB (ls.getD i (0,0)).2 1=true:=fun i h=>by have:=hokl i h;simp only [cJ,Bool.and_eq_true] at this;exact this.2
 have hnext:∀i,i<ls.length→inB (ls.getD i (0,0)).1 (2*(n+ls.length+gs.length)+1)=true:=fun i h=>by have:=hokl i h;simp only [cJ,Bool.and_eq_true] at this;exact this.1
 obtain ⟨q,hq⟩:∃q:Nat,q=2^n:=⟨_,rfl⟩
 have hq16:q≤16:=by rw [hq];exact eY hn4
 have hq1:1≤q:=by rw [hq];exact Nat.one_le_two_pow
 have hqI:(q:Int)=(2:Int)^n:=by rw [hq];simp
 have hsh:IntKind.i64.wrap ((2:Int)^n)=(q:Int):=by rw [←hqI,cZ];omega
 obtain ⟨nx,hnx⟩:∃f,f=nxF n ls gs:=⟨_,rfl⟩
 have nx16:∀s i,nx s i<16:=fun s i=>by rw [hnx];exact zP hl4 s i
 have beh:∀(W:World) (s i:Nat),s<16→i<q→Below w.heap.size w W→Calls Tryz.prog 54 #[.agg #[.int .i64 n,.slice la ls.length lc,.slice ga gs.length gc,.slice oa os.length oc],.int .i64 i,.int .i64 s] W fun e w'=>e=.returned (.int .i64 (nx s i:Nat))∧Below W.heap.size W w':=fun W s i hs hi hW=>by
  rw [hnx]
  exact kE n s i la ga lc gc _ ls gs W hn4 hl4 hg30 hs (by omega) (hL.below hW) (hG.below hW) hgat hnext
 obtain ⟨ou,hou⟩:∃f:Nat→Nat→Nat,f=fun s i=>dZ os (vals n ls.length gs s i) os.length:=⟨_,rfl⟩
 have ou16:∀s i,ou s i<16:=fun s i=>by rw [hou];exact kR _ ho4
 have out:∀(W:World) (s i:Nat),s<16→i<q→Below w.heap.size w W→Calls Tryz.prog 53 #[.agg #[.int .i64 n,.slice la ls.length lc,.slice ga gs.length gc,.slice oa os.length oc],.int .i64 i,.int .i64 s] W fun e w'=>e=.returned (.int .i64 (ou s i:Nat))∧Below W.heap.size W w':=fun W s i hs hi hW=>by
  rw [hou]
  exact fN n s i la ga oa lc gc oc ls.length gs os W hn4 hl4 hg30 ho4 hs (by omega) (hG.below hW) (hO.below hW) hgat hout
 have HOU:=hidC (show ∀k s i,obF n ls gs os k s i=ou s i / 2^k % 2 from fun k s i=>by rw [hou];rfl);have O16:=hidC ou16;have OUT:=hidC out;clear hou ou16 out hout;have hmk:∀W:World,(Instr.makeSlice 32 (.int .i64 16) (.int .i64 16)).run Tryz.prog W=.ok (.slice (some ⟨W.heap.size,0,none⟩) 16 16) (W.alloc (.cells (madeCells #[.int .i64 0] 16) 3)):=fun W=>run_make_row' (P:=Tryz.prog) 32 3 (.int .i64 0) 8 Tryz.underlying32 Tryz.infoI16 rfl .i64 .i64 16 (by decide) (by decide) W
 have hs1:decide ((steps:Int)<1)=false:=by simp;omega
 have hs10:decide ((10:Int)<(steps:Int))=false:=by simp;omega
 have hst16:=gK (ls:=ls) hl4;obtain ⟨iF,hiF,zF0,zF1,zF2⟩:=info_parts Tryz.infoFloat;have HQ:=hidC hq;have HNX:=hidC hnx;have N16:=hidC nx16;have BEH:=hidC beh;have HINIT:=hidC hinit;clear hq hqI hnx nx16 beh hinit hnext hgat hokl fL fG fO hr hn4'
 go_enter Tryz.func30,Tryz.ntmps30
 go_upto_region 1 with fail
 rw [←hW2];clear hW2
 go_wp2_with fail
 refine rg.mono ?_;rintro e W3 ⟨rfl,b3⟩;have B3:Below w.heap.size w W3:=B2.trans (b3.mono B2.size);have bC3:=(b3.block w.heap.size (by omega)).trans bC2;have s3:=b3.size;clear q0 q1 q2 q3 rg bC2;obtain ⟨W4,hW4⟩:∃W4,W4=W3.alloc (.cells (madeCells #[.int .i64 0] 16) 3):=⟨_,rfl⟩
 have B4:Below w.heap.size w W4:=by rw [hW4];exact B3.alloc B3.size _
 have s4:W4.heap.size=W3.heap.size+1:=by rw [hW4];simp
 have bC4:W4.heap[w.heap.size]?=some (.cells #[.int .i64 n,.slice la ls.length lc,.slice ga gs.length gc,.slice oa os.length oc] 34 (0,0)):=by rw [hW4];exact aA bC3
 have r4:W4.rowIs W3.heap.size 3 16 (fun _=>.int .i64 0):=by rw [hW4];exact World.rowIs_made W3 _ 16 _
 obtain ⟨q0,q1,q2,q3⟩:=aK bC4
 go_upto_region 7 with fail
 rw [←hW4];clear hW4
 go_wp2_with fail
 refine (mM _ la lc _ _ ls W4 hl4 (hL.below B4) HINIT.out).mono ?_;rintro e W5 ⟨rfl,b5⟩;have bC5:=(b5.block w.heap.size (by omega)).trans bC4;have B5:Below w.heap.size w W5:=B4.trans (b5.mono B4.size);have r5:=r4.of_block (b5.block W3.heap.size (by omega));obtain ⟨st,hst⟩:∃st,st=cK ls ls.length:=⟨_,rfl⟩
 rw [←hst] at hst16 ⊢;have R0:=hidC (aGO (f:=fun _=>0) (g:=chW n ls gs 0) (i:=st) (x:=1) r5 (fun j _=>by rw [aCL,←hst]));have cS:=r5.cell hst16;have gS:=r5.frozen st;have C0:=hidC ((Deep.blk_setCell_other W5 ⟨W3.heap.size,st,none⟩ (.int .i64 (1:Nat)) w.heap.size (show w.heap.size≠W3.heap.size by omega)).trans bC5);have E0:=hidC (B5.setCell (p:=⟨W3.heap.size,st,none⟩) (show w.heap.size≤W3.heap.size by omega) (.int .i64 (1:Nat)));have hWlt:w.heap.size<W3.heap.size:=by omega
 have s5:=b5.size;clear q0 q1 q2 q3 r4 r5 bC4 bC3 hst
 go_wp2_with fail
 clear hs1 hs10
 go_loopw [7,8,9] (fun wv al kv wr=>∃(K k1 A b:Nat),k1=K+1∧k1≤steps∧kv=.int .i64 k1∧wv=.slice (some ⟨b,0,none⟩) 16 16∧al=.int .i64 A∧A=q^K∧w.heap.size<b∧wr.rowIs b 3 16 (ivf (chW n ls gs K))∧wr.heap[w.heap.size]?=some (.cells #[.int .i64 n,.slice la ls.length lc,.slice ga gs.length gc,.slice oa os.length oc] 34 (0,0))∧Below w.heap.size w wr) (fun _ _ kv _=>steps - (intOf kv).toNat)
 case atStart=>exact ⟨0,1,1,W3.heap.size,rfl,h1,rfl,rfl,rfl,by simp,hWlt,R0.out,C0.out,E0.out⟩
 case round =>
  clear R0 C0 E0 cS gS;obtain ⟨K,k1,A,b,hk1,hk,rfl,rfl,rfl,hA,hb,row,bC,bel⟩:=hrel;have HK:=hidC hk1;have HA:=hidC hA;have hK9:K≤9:=by omega
  clear hk1 hA
  by_cases hlt:k1<steps
  ·have hltI:(k1:Int)<(steps:Int):=by omega
   obtain ⟨f,hf⟩:∃f,f=chW n ls gs K:=⟨_,rfl⟩
   have HF:=hidC hf;have hK8:K+1≤10:=(by have:=HK.out;omega)
   have fle:∀t,t<16→f t≤1099511627776:=fun t ht=>by rw [hf];exact aF8 hn4 hl4 (by omega) ht
   have ple:∀s i t,s<16→i≤q→fH nx q f s i t≤1099511627776:=fun s i t hs hi=>by
    have h:=uQ (gs:=gs) hn4 hl4 hK8 hs (by rw [←HQ.out];exact hi) t;rw [←HNX.out,←HQ.out,←hf] at h
    exact h
   rw [←hf] at row;have FLE:=hidC fle;have PLE:=hidC ple;clear hf fle ple;obtain ⟨b2,hb2⟩:∃b2,b2=wr.heap.size:=⟨_,rfl⟩
   obtain ⟨W8,hW8⟩:∃W8,W8=wr.alloc (.cells (madeCells #[.int .i64 0] 16) 3):=⟨_,rfl⟩
   have hbb:b<b2:=(by have:=row.lt;omega)
   have row8:W8.rowIs b 3 16 (ivf f):=(by rw [hW8];exact row.alloc _)
   have new8:W8.rowIs b2 3 16 (ivf (fH nx q f 0 0)):=by
    rw [hW8,hb2]
    exact (World.rowIs_made wr _ 16 _).congr (fun j _=>by simp [ivf,uV])
   have bC8:W8.heap[w.heap.size]?=some (.cells #[.int .i64 n,.slice la ls.length lc,.slice ga gs.length gc,.slice oa os.length oc] 34 (0,0)):=(by rw [hW8];exact aA bC)
   have B8:Below w.heap.size w W8:=(by rw [hW8];exact bel.alloc bel.size _)
   have HB2:=hidC hb2
   go_wp2_with fail
   rw [←hW8,←HB2.out];clear hW8 row bC bel hb2
   go_loopw [11] (fun sv wr=>∃S:Nat,S≤16∧sv=.int .i64 S∧wr.rowIs b2 3 16 (ivf (fH nx q f S 0))∧wr.rowIs b 3 16 (ivf f)∧wr.heap[w.heap.size]?=some (.cells #[.int .i64 n,.slice la ls.length lc,.slice ga gs.length gc,.slice oa os.length oc] 34 (0,0))∧Below w.heap.size w wr) (fun sv _=>16 - (intOf sv).toNat)
   case atStart=>exact ⟨0,by omega,rfl,new8,row8,bC8,B8⟩
   case round =>
    clear new8 row8 bC8 B8;obtain ⟨S,hS,rfl,new,row,bC,bel⟩:=hrel
    by_cases hS2:S<16
    ·have hSI:(S:Int)<16:=by omega
     go_wp2_with fail
     go_loopw [12] (fun iv wr=>∃J:Nat,J≤q∧iv=.int .i64 J∧(0<J→0<f S)∧wr.rowIs b2 3 16 (ivf (fH nx q f S J))∧wr.rowIs b 3 16 (ivf f)∧wr.heap[w.heap.size]?=some (.cells #[.int .i64 n,.slice la ls.length lc,.slice ga gs.length gc,.slice oa os.length oc] 34 (0,0))∧Below w.heap.size w wr) (fun iv _=>q - (intOf iv).toNat)
     case atStart=>exact ⟨0,Nat.zero_le _,rfl,(fun h=>by omega),new,row,bC,bel⟩
     case round =>
      clear new row bC bel;obtain ⟨J,hJ,rfl,hpos,new,row,bC,bel⟩:=hrel;have q0:wr.cell? ⟨w.heap.size,0,none⟩=some (.int .i64 n):=(by rw [cell_of_row _ _ _ _ _ _ bC];rfl)
      have hx9:=FLE.out S hS2;have cX:wr.cell? ⟨b,S,none⟩=some (.int .i64 (f S:Int)):=row.cell hS2;have SKIP:=hidC (fun t h=>(uT nx q f S t h).symm);have POS:=hidC hpos;obtain ⟨x,hx⟩:∃x,x=f S:=⟨_,rfl⟩
      rw [←hx] at cX hx9;have HX:=hidC hx;clear hx hpos
      by_cases hJ2:J<q
      ·have hJI:(J:Int)<(q:Int):=by omega
       by_cases hx0:0<x
       ·have hxI:(0:Int)<(x:Int):=by omega
        have q1:wr.cell? ⟨w.heap.size,1,none⟩=some (.slice la ls.length lc):=(by rw [cell_of_row _ _ _ _ _ _ bC];rfl)
        have q2:wr.cell? ⟨w.heap.size,2,none⟩=some (.slice ga gs.length gc):=(by rw [cell_of_row _ _ _ _ _ _ bC];rfl)
        have q3:wr.cell? ⟨w.heap.size,3,none⟩=some (.slice oa os.length oc):=(by rw [cell_of_row _ _ _ _ _ _ bC];rfl)
        have call:=BEH.out wr S J hS2 hJ2 bel;have ht16:=N16.out S J;obtain ⟨t,ht⟩:∃t,t=nx S J:=⟨_,rfl⟩
        rw [←ht] at call ht16;have HTT:=hidC ht;clear ht
        go_wp2_with fail
        refine call.mono ?_;rintro e w7 ⟨rfl,b7⟩;have new7:=new.of_block (b7.block b2 new.lt);have row7:=row.of_block (b7.block b row.lt);have bC7:=(b7.block w.heap.size (by have:=bel.size;have:=row.lt;omega)).trans bC;have bel7:Below w.heap.size w w7:=bel.trans (b7.mono bel.size);clear q0 q1 q2 q3 call cX new row bC;have cX:w7.cell? ⟨b,S,none⟩=some (.int .i64 (x:Int)):=(by rw [HX.out];exact row7.cell hS2)
        have hy9:=PLE.out S J t hS2 (by omega);have cY':w7.cell? ⟨b2,t,none⟩=some (.int .i64 (fH nx q f S J t:Int)):=new7.cell ht16;have fY:w7.frozen? ⟨b2,t,none⟩=false:=new7.frozen t;obtain ⟨y,hy⟩:∃y,y=fH nx q f S J t:=⟨_,rfl⟩
        rw [←hy] at cY' hy9;have cY:w7.cell? ⟨b2,t,none⟩=some (.int .i64 (y:Int)):=cY';obtain ⟨z,hz⟩:∃z:Nat,z=y+x:=⟨_,rfl⟩
        have hzI:(y:Int)+(x:Int)=(z:Int):=(by omega)
        have X9:=hidC ((aGO (w:=w7.drew) (f:=fH nx q f S J) (g:=fH nx q f S (J+1)) (i:=t) (x:=z) new7 (fun j _=>by
         rw [uU,←HTT.out,←HX.out]
         by_cases e:j=t
         ·rw [if_pos e,if_pos e.symm,e,←hy,hz]
         ·rw [if_neg e,if_neg (fun h=>e h.symm),Nat.add_zero])))
        have Y9:=hidC ((World.rowIs.setOther (a:=⟨b2,t,none⟩) (show w7.drew.rowIs b 3 16 (ivf f) from row7) (show b≠b2 by omega) (.int .i64 (z:Int))));have C9:=hidC ((Deep.blk_setCell_other w7.drew ⟨b2,t,none⟩ (.int .i64 (z:Int)) w.heap.size (show w.heap.size≠b2 by omega)).trans bC7);have E9:=hidC ((bel7.drew).setCell (p:=⟨b2,t,none⟩) (show w.heap.size≤b2 by omega) (.int .i64 (z:Int)));have htI:(t:Int)<16:=(by omega)
        have ht0:(0:Int)≤(t:Int):=(by omega)
        have hS0:(0:Int)≤(S:Int):=(by omega)
        clear hy hz cY' new7 row7 bC7 bel7
        go_upto_region 20 with fail
        refine wp_region_noPanic ?_;refine bO (by kernel_rfl) (by kernel_rfl) ?_;simp only [List.pop_toArray,List.dropLast_cons_cons,List.dropLast_singleton,List.size_toArray,List.length_cons,List.length_nil,Nat.zero_add,Nat.reduceAdd];refine wpAny_of_held (S:=fun w'=>w'.cell? ⟨b2,t,none⟩=some (.int .i64 (y:Int))∧w'.cell? ⟨b,S,none⟩=some (.int .i64 (x:Int))) _ _ _ _ ?_;have hHeld:(fun w':World=>w'.cell? ⟨b2,t,none⟩=some (.int .i64 (y:Int))∧w'.cell? ⟨b,S,none⟩=some (.int .i64 (x:Int))) w7.drew:=⟨cY,cX⟩
        refine tkH (i:=0) (v:=?_) (hS:=hHeld) (hy:=Or.inl ⟨by rfl,?_⟩) (h:=?_)
        rotate_left 1
        ·(intro w0 hSw;(try dsimp only at hSw);go_simp;try (with_reducible rfl))
        simp only [Act.put,sSet];refine tkH (i:=1) (v:=?_) (hS:=hHeld) (hy:=Or.inl ⟨by rfl,?_⟩) (h:=?_)
        rotate_left 1
        ·(intro w0 hSw;(try dsimp only at hSw);go_simp;try (with_reducible rfl))
        simp only [Act.put,sSet];refine tkH (i:=2) (v:=?_) (hS:=hHeld) (hy:=Or.inl ⟨by rfl,?_⟩) (h:=?_)
        rotate_left 1
        ·(intro w0 hSw;(try dsimp only at hSw);go_simp;try (with_reducible rfl))
        simp only [Act.put,sSet];refine tkH (i:=3) (v:=?_) (hS:=hHeld) (hy:=Or.inl ⟨by rfl,?_⟩) (h:=?_)
        rotate_left 1
        ·(intro w0 hSw;(try dsimp only at hSw);go_simp;try (with_reducible rfl))
        simp only [Act.put,sSet];refine tkH (i:=4) (v:=?_) (hS:=hHeld) (hy:=Or.inl ⟨by rfl,?_⟩) (h:=?_)
        rotate_left 1
        ·(intro w0 hSw;(try dsimp only at hSw);go_simp;try (with_reducible rfl))
        simp only [Act.put,sSet];refine tkH (i:=5) (v:=?_) (hS:=hHeld) (hy:=Or.inl ⟨by rfl,?_⟩) (h:=?_)
        rotate_left 1
        ·(intro w0 hSw;(try dsimp only at hSw);go_simp;try (with_reducible rfl))
        simp only [Act.put,sSet];refine tkH (i:=6) (v:=?_) (hS:=hHeld) (hy:=Or.inl ⟨by rfl,?_⟩) (h:=?_)
        rotate_left 1
        ·(intro w0 hSw;(try dsimp only at hSw);go_simp;try (with_reducible rfl))
        simp only [Act.put,sSet];refine tkH (i:=7) (v:=?_) (hS:=hHeld) (hy:=Or.inl ⟨by rfl,?_⟩) (h:=?_)
        rotate_left 1
        ·(intro w0 hSw;(try dsimp only at hSw);go_simp;try (with_reducible rfl))
        simp only [Act.put,sSet];refine tkH (i:=8) (v:=?_) (hS:=hHeld) (hy:=Or.inl ⟨by rfl,?_⟩) (h:=?_)
        rotate_left 1
        ·(intro w0 hSw;(try dsimp only at hSw);go_simp;try (with_reducible rfl))
        simp only [Act.put,sSet];refine tkH (i:=9) (v:=?_) (hS:=hHeld) (hy:=Or.inl ⟨by rfl,?_⟩) (h:=?_)
        rotate_left 1
        ·(intro w0 hSw;(try dsimp only at hSw);go_simp;try (with_reducible rfl))
        simp only [Act.put,sSet];refine tkH (i:=10) (v:=?_) (hS:=hHeld) (hy:=Or.inl ⟨by rfl,?_⟩) (h:=?_)
        rotate_left 1
        ·(intro w0 hSw;(try dsimp only at hSw);go_simp;try (with_reducible rfl))
        simp only [Act.put,sSet];refine tkH (i:=11) (v:=?_) (hS:=hHeld) (hy:=Or.inl ⟨by rfl,?_⟩) (h:=?_)
        rotate_left 1
        ·(intro w0 hSw;(try dsimp only at hSw);go_simp;try (with_reducible rfl))
        simp only [Act.put,sSet];refine wpAnyH_done (by kernel_rfl) ?_ _;refine dR (by simp only [List.size_toArray,List.length_cons,List.length_nil,Nat.zero_add,Nat.reduceAdd,Nat.reduceSub,List.getElem?_toArray,List.getElem?_cons_succ,List.getElem?_cons_zero];rfl) (fun K hK=>?_);go_simp;refine hK _ _ (NoPanic.normal ?_);clear hK K hHeld;go_wp2
        go_roundw
        case rel=>exact ⟨J+1,by omega,by go_num,(fun _=>by rw [←HX.out];exact hx0),X9.out,Y9.out,C9.out,E9.out⟩
        case measure=>simp [intOf];omega
       ·have hxI:¬((0:Int)<(x:Int)):=by omega
        have hx00:x=0:=(by omega)
        have hJ0:J=0:=by
         rcases Nat.eq_zero_or_pos J with h | h
         ·exact h
         ·have:=POS.out h;rw [←HX.out] at this;omega
        have X9:=hidC (new.congr (g:=ivf (fH nx q f (S+1) 0)) (fun t _=>by unfold ivf;rw [hJ0,SKIP.out t (by rw [←HX.out];exact hx00)]));clear hx00 hJ0 new;go_wp2
        go_roundw
        case rel=>exact ⟨S+1,by omega,by go_num,X9.out,row,bC,bel⟩
        case measure=>simp [intOf];omega
      ·have hJI:¬((J:Int)<(q:Int)):=by omega
       have hJq:J=q:=(by omega)
       have X9:=hidC (new.congr (g:=ivf (fH nx q f (S+1) 0)) (fun t _=>by unfold ivf;rw [hJq,uS]));clear hJq new;go_wp2
       go_roundw
       case rel=>exact ⟨S+1,by omega,by go_num,X9.out,row,bC,bel⟩
       case measure=>simp [intOf];omega
    ·have hSI:¬((S:Int)<16):=by omega
     have hS16:S=16:=(by omega)
     have X9:=hidC (new.congr (g:=ivf (chW n ls gs (K+1))) (fun t _=>by unfold ivf;rw [hS16,aA0,HNX.out,HQ.out,HF.out,←aHU]));obtain ⟨A2,hA2⟩:∃A2,A2=A*q:=⟨_,rfl⟩
     have hA40:A2≤1099511627776:=by
      rw [hA2,HA.out,HQ.out,←Nat.pow_succ]
      exact aIZ hn4 (by have:=HK.out;omega)
     have hshA:IntKind.i64.wrap ((A:Int)*(2:Int)^n)=(A2:Int):=by
      have e:(A:Int)*(2:Int)^n=(A2:Int):=(by rw [hA2,HQ.out];simp)
      rw [e,cZ];omega
     have HA2:=hidC (show A2=q^(K+1) by rw [hA2,HA.out,Nat.pow_succ]);have q0:wr.cell? ⟨w.heap.size,0,none⟩=some (.int .i64 n):=(by rw [cell_of_row _ _ _ _ _ _ bC];rfl)
     clear hA2 new hS16;go_wp2
     go_roundw
     case rel=>exact ⟨K+1,k1+1,A2,b2,by have:=HK.out;omega,by omega,by go_num,rfl,rfl,HA2.out,by omega,X9.out,bC,bel⟩
     case measure=>simp [intOf];omega
  ·have hltI:¬((k1:Int)<(steps:Int)):=by omega
   have HKS:=hidC (show K=steps - 1 by have:=HK.out;omega);have hK8:K+1≤10:=(by have:=HK.out;omega)
   obtain ⟨f,hf⟩:∃f,f=chW n ls gs K:=⟨_,rfl⟩
   have HF:=hidC hf;have fle:∀t,t<16→f t≤1099511627776:=fun t ht=>by rw [hf];exact aF8 hn4 hl4 (by omega) ht
   have ple:∀i s j,s<16→j≤q→fF q (obF n ls gs os i) f s j≤1099511627776:=fun i s j hs hj=>by
    have h:=oM (gs:=gs) (g:=obF n ls gs os i) (fun s j=>aG6 i s j) hn4 hl4 hK8 hs (by rw [←HQ.out];exact hj);rw [←HQ.out,←hf] at h
    exact h
   rw [←hf] at row;have FLE:=hidC fle;have PLE:=hidC ple;obtain ⟨A2,hA2⟩:∃A2,A2=A*q:=⟨_,rfl⟩
   have hA40:A2≤1099511627776:=by
    rw [hA2,HA.out,HQ.out,←Nat.pow_succ]
    exact aIZ hn4 hK8
   have hshA:IntKind.i64.wrap ((A:Int)*(2:Int)^n)=(A2:Int):=by
    have e:(A:Int)*(2:Int)^n=(A2:Int):=(by rw [hA2,HQ.out];simp)
    rw [e,cZ];omega
   have HA2:=hidC (show A2=2^(n*steps) by rw [hA2,HA.out,←Nat.pow_succ,HQ.out,←Nat.pow_mul,show K.succ=steps by have:=HK.out;omega]);have q0:wr.cell? ⟨w.heap.size,0,none⟩=some (.int .i64 n):=(by rw [cell_of_row _ _ _ _ _ _ bC];rfl)
   have q3:wr.cell? ⟨w.heap.size,3,none⟩=some (.slice oa os.length oc):=(by rw [cell_of_row _ _ _ _ _ _ bC];rfl)
   have hbl:=row.lt;clear hA2 hf fle ple
   go_wp2_with fail
   clear q0 q3 hshA
   go_loopw [14,15] (fun ov iv wr=>∃i:Nat,i≤os.length∧iv=.int .i64 i∧wr.ownsRow (b+1) 106 1 ov i (pW ((List.range i).map fun j=>fq (chN n ls gs os K j) (n*steps)))∧b<wr.heap.size∧wr.rowIs b 3 16 (ivf f)∧wr.heap[w.heap.size]?=some (.cells #[.int .i64 n,.slice la ls.length lc,.slice ga gs.length gc,.slice oa os.length oc] 34 (0,0))∧Below w.heap.size w wr) (fun _ iv _=>os.length - (intOf iv).toNat)
   case atStart=>exact ⟨0,Nat.zero_le _,rfl,⟨rfl,.inl ⟨rfl,rfl⟩⟩,hbl,row,bC,bel⟩
   case round =>
    clear row bC bel hbl;obtain ⟨i,hi,rfl,own,hbl,row,bC,bel⟩:=hrel;have q3:wr.cell? ⟨w.heap.size,3,none⟩=some (.slice oa os.length oc):=by rw [cell_of_row _ _ _ _ _ _ bC];rfl
    by_cases hi2:i<os.length
    ·have hiI:(i:Int)<(os.length:Int):=by omega
     obtain ⟨Wi,rfl⟩:∃Wi,Wi=wr:=⟨_,rfl⟩
     obtain ⟨g,hg⟩:∃g,g=obF n ls gs os i:=⟨_,rfl⟩
     have ple:∀s j,s<16→j≤q→fF q g f s j≤1099511627776:=fun s j=>by rw [hg];exact PLE.out i s j
     have PLI:=hidC ple;have HG:=hidC hg;clear hg ple
     go_wp2_with fail
     clear q3
     go_loopw [16,17] (fun nv sv wr=>∃S:Nat,S≤16∧sv=.int .i64 S∧nv=.int .i64 (fF q g f S 0:Nat)∧Below Wi.heap.size Wi wr) (fun _ sv _=>16 - (intOf sv).toNat)
     case atStart=>exact ⟨0,by omega,rfl,rfl,Below.refl _ _⟩
     case round =>
      obtain ⟨S,hS,rfl,rfl,be⟩:=hrel
      by_cases hS2:S<16
      ·have hSI:(S:Int)<16:=by omega
       obtain ⟨N0,hN0⟩:∃N,N=fF q g f S 0:=⟨_,rfl⟩
       rw [←hN0];have HN0:=hidC hN0;have hN9:=PLI.out S 0 hS2 (by omega);clear hN0
       go_wp2_with fail
       go_loopw [16,18] (fun nv jv wr=>∃J:Nat,J≤q∧jv=.int .i64 J∧nv=.int .i64 (fF q g f S J:Nat)∧(0<J→0<f S)∧Below Wi.heap.size Wi wr) (fun _ jv _=>q - (intOf jv).toNat)
       case atStart=>exact ⟨0,Nat.zero_le _,rfl,by rw [HN0.out],(fun h=>by omega),be⟩
       case round =>
        clear be hN9 HN0;obtain ⟨J,hJ,rfl,rfl,hpos,be⟩:=hrel;have bCr:=(be.block w.heap.size (by have:=bel.size;omega)).trans bC;have rowr:=row.of_block (be.block b hbl);have q0:wr.cell? ⟨w.heap.size,0,none⟩=some (.int .i64 n):=(by rw [cell_of_row _ _ _ _ _ _ bCr];rfl)
        have hx9:=FLE.out S hS2;have cX:wr.cell? ⟨b,S,none⟩=some (.int .i64 (f S:Int)):=rowr.cell hS2;have POS:=hidC hpos;have hN9:=PLI.out S J hS2 hJ;obtain ⟨x,hx⟩:∃x,x=f S:=⟨_,rfl⟩
        rw [←hx] at cX hx9;have HX:=hidC hx;obtain ⟨N,hN⟩:∃N,N=fF q g f S J:=⟨_,rfl⟩
        rw [←hN] at hN9 ⊢;have HN:=hidC hN;clear hx hpos hN
        by_cases hJ2:J<q
        ·have hJI:(J:Int)<(q:Int):=by omega
         by_cases hx0:0<x
         ·have hxI:(0:Int)<(x:Int):=by omega
          have q1:wr.cell? ⟨w.heap.size,1,none⟩=some (.slice la ls.length lc):=(by rw [cell_of_row _ _ _ _ _ _ bCr];rfl)
          have q2:wr.cell? ⟨w.heap.size,2,none⟩=some (.slice ga gs.length gc):=(by rw [cell_of_row _ _ _ _ _ _ bCr];rfl)
          have q3:wr.cell? ⟨w.heap.size,3,none⟩=some (.slice oa os.length oc):=(by rw [cell_of_row _ _ _ _ _ _ bCr];rfl)
          have bw:Below w.heap.size w wr:=bel.trans (be.mono bel.size);have call:=OUT.out wr S J hS2 hJ2 bw;have ho16:=O16.out S J;have HGX:=HOU.out i S J;obtain ⟨o,ho⟩:∃o,o=ou S J:=⟨_,rfl⟩
          rw [←ho] at call ho16 HGX;obtain ⟨X,hX⟩:∃X,X=o / 2^i % 2:=⟨_,rfl⟩
          have hbit:=iB o i X ho16 hX;have hX1:X≤1:=(by omega)
          rw [←hX] at HGX;have HGX2:=hidC HGX;obtain ⟨Y,hY⟩:∃Y,Y=X*x:=⟨_,rfl⟩
          have hYI:(X:Int)*(x:Int)=(Y:Int):=(by rw [hY];simp)
          have hY9:Y≤1099511627776:=by
           rw [hY]
           exact Nat.le_trans (Nat.mul_le_mul_right x hX1) (by omega)
          obtain ⟨N2,hN2⟩:∃N2,N2=N+Y:=⟨_,rfl⟩
          have hN2I:(N:Int)+(Y:Int)=(N2:Int):=(by omega)
          have HN2:=hidC (show N2=fF q g f S (J+1) by rw [uO,hN2,HN.out,hY,HG.out,HGX,HX.out]);clear ho hX HGX hY hN2
          go_wp2_with fail
          refine call.mono ?_;rintro e w7 ⟨rfl,b7⟩;have be7:Below Wi.heap.size Wi w7:=be.trans (b7.mono be.size);have rowt:=row.of_block (be7.block b hbl);have cX7:w7.cell? ⟨b,S,none⟩=some (.int .i64 (x:Int)):=(by rw [HX.out];exact rowt.cell hS2)
          have hS0:(0:Int)≤(S:Int):=(by omega)
          clear q0 q1 q2 q3 call cX rowt rowr;go_wp2
          go_quiet (fail)
          go_wp2
          go_roundw
          case rel=>exact ⟨J+1,by omega,by go_num,by rw [HN2.out],(fun _=>by rw [←HX.out];exact hx0),below_drewN be7 _⟩
          case measure=>simp [intOf];omega
         ·have hxI:¬((0:Int)<(x:Int)):=by omega
          have HNS:=hidC (show N=fF q g f (S+1) 0 by
           have hJ0:J=0:=by
            rcases Nat.eq_zero_or_pos J with h | h
            ·exact h
            ·have:=POS.out h;rw [←HX.out] at this;omega
           rw [HN.out,hJ0,uN q g f S (by rw [←HX.out];omega)])
          go_wp2
          go_roundw
          case rel=>exact ⟨S+1,by omega,by go_num,by rw [HNS.out],be⟩
          case measure=>simp [intOf];omega
        ·have hJI:¬((J:Int)<(q:Int)):=by omega
         have HNS:=hidC (show N=fF q g f (S+1) 0 by rw [HN.out,show J=q by omega,uM]);go_wp2
         go_roundw
         case rel=>exact ⟨S+1,by omega,by go_num,by rw [HNS.out],be⟩
         case measure=>simp [intOf];omega
      ·have hSI:¬((S:Int)<16):=by omega
       have hN9:=aK0 (os:=os) (gs:=gs) hn4 hl4 hK8 i;obtain ⟨N,hN⟩:∃N,N=chN n ls gs os K i:=⟨_,rfl⟩
       have hNE:fF q g f S 0=N:=by
        rw [show S=16 by omega,zZ,HG.out,HF.out,HQ.out,hN]
        rfl
       rw [hNE];rw [←hN] at hN9;have HN:=hidC hN;clear hN hNE;obtain ⟨F,hF⟩:∃F,F=fq N (n*steps):=⟨_,rfl⟩
       have hquo:∀W:World,(binOp .quo 106 (.float .f64 (floatOfInt .f64 (N:Int))) (.float .f64 (floatOfInt .f64 (A2:Int)))).run Tryz.prog W=.ok (.float .f64 F) W:=fun W=>run_float_arith W .quo _ .f64 _ _ F (by
        have h:=aFE (k:=N) (e:=0) (a:=n*steps) (Nat.le_trans (Nat.mul_le_mul hn4 h10) (by omega)) (by have:=Nat.mul_le_mul hn4 h10;omega) (by omega);rw [Nat.zero_add,←hF] at h;rw [aCR,aCR,HA2.out]
        exact h)
       have HFF:=hidC hF;have ownr:=aL own (fun q hq=>be.block q (own.lt q hq).2);have own5:=ownr.alloc (.cells #[.float .f64 F] 106);have sr:=be.size;clear hF
       go_wp2_with (at_builtin;refine wpList_append_lies _ rfl (.tmp 124) (.tmp 130) 74 rfl (b+1) 106 iF (.float .f64 0) 1 8 Tryz.underlying74 hiF zF0 zF1 zF2 rfl (by omega) _ _ _ rfl own5 ⟨wr.heap.size,0,none⟩ 1 1 [.float .f64 F] rfl rfl (cell_one_new _ _ _) (by simp;rfl) (by omega) (by unfold maxLen;omega) (by omega) (by simp;omega) _ rfl ?_)
       intro g' cap' w1 hown1 hgrow hat1 hlt1;have G9:Grew _ w1 _ g':=⟨hgrow,hat1.imp id (fun e=>by rw [World.size_alloc];exact e)⟩
       have bw:Below w.heap.size w wr:=bel.trans (be.mono bel.size);have B9:Below w.heap.size w w1:=(bw.alloc bw.size _).grown hgrow (by simp;omega) (fun q hq=>by have:=(ownr.lt q hq).1;omega);have bCr:=(be.block w.heap.size (by have:=bel.size;omega)).trans bC;have rowr:=row.of_block (be.block b hbl);have C9:=hidC ((G9.blk w.heap.size (by simp;have:=bw.size;omega) (fun e=>by have:=(ownr.lt _ e).1;omega)).trans (aA bCr));have R9:=hidC ((rowr.alloc (.cells #[.float .f64 F] 106)).of_block (G9.blk b (by simp;omega) (fun e=>by have:=(ownr.lt _ e).1;omega)));have O9:Hid (w1.ownsRow (b+1) 106 1 (.slice (some ⟨g',0,none⟩) (i+1) cap') (i+1) (pW ((List.range (i+1)).map fun j=>fq (chN n ls gs os K j) (n*steps)))):=by
        show World.ownsRow _ _ _ _ _ _ _
        rw [List.range_succ,List.map_append];have h:=hown1;rw [HFF.out,HN.out] at h
        simpa [pW] using h
       have s9:b<w1.heap.size:=(by have:=hgrow.size;simp at this;omega)
       clear hgrow hown1 G9 hat1 hlt1 own5 hquo rowr bCr;go_wp2
       go_roundw
       case rel=>exact ⟨i+1,by omega,by go_num,O9.out,s9,R9.out,C9.out,B9⟩
       case measure=>simp [intOf];omega
    ·have hiI:¬((i:Int)<(os.length:Int)):=by omega
     have hiN:i=os.length:=(by omega)
     obtain ⟨oa2,oc2,rfl⟩:=tN own;have LL:Hid (chL n ls gs os steps=(List.range i).map fun j=>fq (chN n ls gs os K j) (n*steps)):=(by show _=_;unfold chL;rw [hiN,HKS.out])
     have LN:Hid (i=((List.range i).map fun j=>fq (chN n ls gs os K j) (n*steps)).length):=(by show _=_;simp)
     clear hiN;go_wp2
     go_ret2
     refine ⟨oa2,⟨oc2,?_⟩,?_,bel⟩
     ·rw [LL.out,←LN.out]
      rfl
     ·rw [LL.out]
      have h:=own;rw [LN.out] at h
      exact zV (by simpa using h)
end Go.Proofs.YtgpaajdfkekjiaaGreatDoor
