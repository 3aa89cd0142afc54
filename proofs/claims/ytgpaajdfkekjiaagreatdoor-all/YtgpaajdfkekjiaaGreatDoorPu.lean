/-
  A part of the proof of the statement All: texts of ours, made small by program (blanks, names).
-/
import Derived.Test.YtgpaajdfkekjiaaGreatDoorPg
import Derived.Test.YtgpaajdfkekjiaaGreatDoorPt
import Derived.Handy
import Derived.Test.YtgpaajdfkekjiaaGreatDoorPa
import Derived.Test.YtgpaajdfkekjiaaGreatDoorPd
import Derived.RangeFuncNested
import Derived.RangeFuncBound
import Derived.RangeFuncCalls
import Derived.RangeFuncLeaves
import Derived.Shelf.Abstract
import Derived.Shelf.RegionOpen
import Derived.WalkKit
import Derived.OwnWalkIn
import Derived.TacticsInMore
import Derived.LoopNIn
import Derived.LoopIn
import Derived.Test.YtgpaajdfkekjiaaGreatDoorPs
import Derived.Deep.RegionHeld3
import Derived.OrdersIn
namespace Go.Proofs.YtgpaajdfkekjiaaGreatDoor
set_option maxHeartbeats 8000000
set_option maxRecDepth 100000
open Go.RowKit Go.Maps
theorem aJW {tmps:Array Value}{Q:Ending→World→Prop}{w:World}{b:Nat}{v0 v1 v2 v3:Value}(h:w.heap[b]?=some (.cells #[v0,v1,v2,v3] 34 (0,0)))
  (h6:tmps[2]?.getD undef=.pointer (some ⟨b,0,none⟩)) (hQ:Q (.returned (.agg #[v0,v1,v2,v3])) w) :
  bodyPost Tryz.prog Tryz.f82 Q Exit.ret ⟨tmps,[]⟩ w:=by
 obtain ⟨c0,c1,c2,c3⟩:=aK h
 exact bodyPost_ret (by simp [results,Tryz.results82,go_sem,h6,c0,c1,c2,c3]) rfl hQ
theorem aJU (n:Nat) (la ga oa:Option Addr) (lc gc oc:Nat) (ls gs:List (Int×Int)) (os:List Int) (w:World) (hr:RightN n ls gs os) (hL:PairsAt w la ls) (hG:PairsAt w ga gs) (hO:IntsAt w oa os) :
  Calls Tryz.prog 82 #[.agg #[.int .i64 n,.slice la ls.length lc,.slice ga gs.length gc,.slice oa os.length oc]] w
   (aHI w n (nmL (slN1 n ls gs) ls ls.length) (z2 (fJ n ls gs)) (nmO (slN1 n ls gs) os os.length)):=by
 obtain ⟨W2,hW2⟩:∃W2,W2=(w.alloc (.cells #[.int .i64 n,.slice la ls.length lc,.slice ga gs.length gc,.slice oa os.length oc] 34)).alloc (.cells #[.int .i64 0,.slice none 0 0,.slice none 0 0,.slice none 0 0] 34):=⟨_,rfl⟩
 have s2:W2.heap.size=w.heap.size+2:=by rw [hW2];simp
 have B2:Below w.heap.size w W2:=by rw [hW2];exact ((Below.refl _ _).alloc (Nat.le_refl _) _).alloc (by simp) _
 have bC2:W2.heap[w.heap.size]?=some (.cells #[.int .i64 n,.slice la ls.length lc,.slice ga gs.length gc,.slice oa os.length oc] 34 (0,0)):=by rw [hW2];exact aA (aB _ _ _ rfl)
 have bA2:W2.heap[w.heap.size+1]?=some (.cells #[.int .i64 0,.slice none 0 0,.slice none 0 0,.slice none 0 0] 34 (0,0)):=by rw [hW2];exact aB _ _ _ (by simp)
 obtain ⟨iG,hiG,zG0,zG1,zG2⟩:=info_parts Tryz.infoGS;obtain ⟨iO,hiO,zO0,zO1,zO2⟩:=info_parts Tryz.infoInt;have hmm:=@run_makeMap Tryz.prog;obtain ⟨q0,q1,q2,q3⟩:W2.cell? ⟨w.heap.size,0,none⟩=some (.int .i64 n)∧W2.cell? ⟨w.heap.size,1,none⟩=some (.slice la ls.length lc)∧W2.cell? ⟨w.heap.size,2,none⟩=some (.slice ga gs.length gc)∧W2.cell? ⟨w.heap.size,3,none⟩=some (.slice oa os.length oc):=by
  refine ⟨?_,?_,?_,?_⟩<;> (rw [cell_of_row _ _ _ _ _ _ bC2];rfl)
 have h1:=hr.n4;have h2:=hr.l4;have h3:=hr.g30;obtain ⟨F,hF⟩:∃F,F=n+ls.length+1:=⟨_,rfl⟩
 have hF1:F=1+n+ls.length:=by omega
 have F1:1≤F:=by omega
 have F9:F≤9:=by omega
 have HF:=aE hF;have HF1:=aE hF1;clear hF hF1;have HR:=aE hr;have HGO:=aE hr.gatesOk;have HLAT:=aE hr.lat;clear hr;have S2:=aE s2
 go_enter Tryz.func82,Tryz.ntmps82
 go_upto_region 1 with fail
 rw [←hW2];clear hW2
 go_wp2_with fail
 refine (zJ n ls.length F la lc _ _ W2 h1 h2 HF1.out).mono ?_;rintro e W3 ⟨v,rfl,own3,b3⟩;have B3:Below w.heap.size w W3:=B2.trans (b3.mono B2.size);have bC3:=(b3.block w.heap.size (by omega)).trans bC2;have bA3:=(b3.block (w.heap.size+1) (by omega)).trans bA2;clear bC2 bA2 q0 q1 q2 q3
 rcases own3.2 with ⟨_,hz⟩ | ⟨g,cap,cur,rfl,_⟩
 ·omega
 have s3:=b3.size;obtain ⟨W4,hW4⟩:∃W4,W4=W3.alloc (.map #[] 0):=⟨_,rfl⟩
 have s4:W4.heap.size=W3.heap.size+1:=by rw [hW4];simp
 have B4:Below w.heap.size w W4:=by rw [hW4];exact B3.alloc B3.size _
 have bC4:W4.heap[w.heap.size]?=some (.cells #[.int .i64 n,.slice la ls.length lc,.slice ga gs.length gc,.slice oa os.length oc] 34 (0,0)):=by rw [hW4];exact aA bC3
 have bA4:W4.heap[w.heap.size+1]?=some (.cells #[.int .i64 0,.slice none 0 0,.slice none 0 0,.slice none 0 0] 34 (0,0)):=by rw [hW4];exact aA bA3
 have q2:W4.cell? ⟨w.heap.size,2,none⟩=some (.slice ga gs.length gc):=by rw [cell_of_row _ _ _ _ _ _ bC4];rfl
 have I4:NInv W4 (w.heap.size+2) W3.heap.size (.slice (some ⟨g,0,none⟩) F cap) (.slice none 0 0) (sl1 F (natP gs) 0).1 (sl1 F (natP gs) 0).2 (.map []) 0:=by
  have o4:W4.ownsRow (w.heap.size+2) 3 1 (.slice (some ⟨g,0,none⟩) F cap) F (aP (idn F)):=by rw [hW4,←S2.out];exact own3.alloc _
  refine ⟨by omega,?_,World.ownsRow_nil _ _ _ _,(fun q _ e=>by cases e),?_,?_,(fun e=>by cases e)⟩
  ·show W4.ownsRow _ _ _ _ (idn F).length (aP (idn F))
   rw [jN];exact o4
  ·rw [hW4];exact World.ownsMap_made _ _ _ _
  ·intro e
   have:=(own3.lt _ e).2
   omega
 obtain ⟨M,hM⟩:∃M,M=W3.heap.size:=⟨_,rfl⟩
 have hMw:w.heap.size+2≤M:=by omega
 have HM:=aE hM;clear bC3 bA3 own3 B3 s3 s4 S2 s2 hM;rw [←HM.out] at I4
 go_upto_region 5 with fail
 rw [←hW4,←HM.out];clear hW4
 go_wp2_with fail
 clear q2
 go_loopw [3,5,19] (fun nv kv i wr=>∃(k:Nat) (D:DataW Nat),k≤gs.length∧i=.int .i64 k∧NInv wr (w.heap.size+2) M nv kv (sl1 F (natP gs) k).1 (sl1 F (natP gs) k).2 D k∧SigMap D F (sl1 F (natP gs) k).2∧wr.heap[w.heap.size]?=some (.cells #[.int .i64 n,.slice la ls.length lc,.slice ga gs.length gc,.slice oa os.length oc] 34 (0,0))∧wr.heap[w.heap.size+1]?=some (.cells #[.int .i64 0,.slice none 0 0,.slice none 0 0,.slice none 0 0] 34 (0,0))∧Below w.heap.size w wr)
  (fun _ _ i _=>gs.length - (intOf i).toNat)
 case atStart=>exact ⟨0,_,Nat.zero_le _,rfl,I4,aER _,bC4,bA4,B4⟩
 case round =>
  clear I4 bC4 bA4 B4;obtain ⟨k,D,hk,rfl,I,SM,bC,bA,bel⟩:=hrel
  by_cases hk2:k<gs.length
  ·obtain ⟨bl,ol,rfl,hlt,hcG⟩:=hG.get (by omega)
   have hx1':=(bel.cell (p:=⟨bl,ol+k*2,none⟩) hlt).trans (hcG k hk2).1;have hx2':=(bel.cell (p:=⟨bl,ol+k*2+1,none⟩) hlt).trans (hcG k hk2).2;obtain ⟨f1,f2,f3,f4⟩:=HR.out.gat k hk2;obtain ⟨a,hA⟩:=Int.eq_ofNat_of_zero_le f1;obtain ⟨c,hC⟩:=Int.eq_ofNat_of_zero_le f2;rw [hA,Int.toNat_natCast,←HF.out] at f3;rw [hC,Int.toNat_natCast,←HF.out] at f4;rw [hA] at hx1';rw [hC] at hx2';have hx1:wr.cell? ⟨bl,ol+k*2,none⟩=some (.int .i64 (a:Int)):=hx1';have hx2:wr.cell? ⟨bl,ol+k*2+1,none⟩=some (.int .i64 (c:Int)):=hx2';have hgk:(natP gs).getD k (0,0)=(a,c):=(by rw [qN,hA,hC,Int.toNat_natCast,Int.toNat_natCast])
   have hnl:=jV F (natP gs) k;obtain ⟨sm1,sm2⟩:=nL HR.out hk;rw [←HF.out] at sm1 sm2;have hkl:=jE F (natP gs) k;have hnext:sl1 F (natP gs) (k+1)=jX F (sl1 F (natP gs) k) (a,c):=(by rw [sl1,hgk])
   rw [aIO] at hnext;obtain ⟨nm,hnm⟩:∃x,x=(sl1 F (natP gs) k).1:=⟨_,rfl⟩
   obtain ⟨kp,hkp⟩:∃x,x=(sl1 F (natP gs) k).2:=⟨_,rfl⟩
   rw [←hnm] at I hnl sm1 sm2 hnext;rw [←hkp] at I SM hkl hnext;obtain ⟨gn,capn,rfl,hBg,hgl,hcN⟩:=I.names (fun e=>by rw [e] at hnl;simp at hnl;omega);obtain ⟨x,hx⟩:∃x,x=(putG nm (a,c)).1:=⟨_,rfl⟩
   obtain ⟨y,hy⟩:∃y,y=(putG nm (a,c)).2:=⟨_,rfl⟩
   have hxy:putG nm (a,c)=(x,y):=(by rw [hx,hy])
   have p1:=sm2 a f3;have p2:=sm2 c f4;have x1000:x<1000:=(by rw [hx];unfold putG;dsimp only;omega)
   have y1000:y<1000:=(by rw [hy];unfold putG;dsimp only;omega)
   rw [hxy] at hnext;dsimp only at hnext;obtain ⟨key,hkey'⟩:=aI2 (g:=(x,y)) x1000 y1000;have hkey:keyOf Tryz.prog 56 (.agg #[.int .i64 (x:Int),.int .i64 (y:Int)])=some key:=hkey';obtain ⟨has1,at1⟩:=SM (x,y) key hkey';obtain ⟨sg,hsg⟩:∃s,s=(ndl x y).1:=⟨_,rfl⟩
   obtain ⟨kn,hkn⟩:∃b,b=(ndl x y).2:=⟨_,rfl⟩
   have oG:∀W,Below wr.heap.size wr W→Calls Tryz.prog 100 #[.slice (some ⟨gn,0,none⟩) nm.length capn,.agg #[.int .i64 (a:Int),.int .i64 (c:Int)]] W fun e w'=>e=.returned (.agg #[.int .i64 (x:Int),.int .i64 (y:Int)])∧Below W.heap.size W w':=fun W hW=>by
    have h:=uK a c gn 0 nm.length capn nm W (by omega) (by omega) (by omega) rfl sm1 (Nat.lt_of_lt_of_le hgl hW.size) (fun j hj=>(hW.cell (p:=⟨gn,_,none⟩) hgl).trans (hcN j hj));rw [hxy] at h
    exact h
   have oN:∀W,Calls Tryz.prog 102 #[.agg #[.int .i64 (x:Int),.int .i64 (y:Int)]] W fun e w'=>e=.returned (.tuple #[.int .i64 (sg:Int),.bool kn])∧Below W.heap.size W w':=fun W=>by
    rw [hsg,hkn]
    exact zM x y W (by omega)
   rw [←hsg,←hkn] at hnext;have sg1000:sg<1000:=by
    rw [hsg];unfold ndl
    repeat' split
    all_goals first | (dsimp only;omega) | skip
   obtain ⟨W5,hW5⟩:∃W5,W5=wr.alloc (.cells #[.int .i64 (a:Int),.int .i64 (c:Int)] 56):=⟨_,rfl⟩
   have bw5:Below wr.heap.size wr W5:=(by rw [hW5];exact (Below.refl _ _).alloc (Nat.le_refl _) _)
   have s5:wr.heap.size<W5.heap.size:=(by rw [hW5];simp)
   have bx5:W5.heap[wr.heap.size]?=some (.cells #[.int .i64 (a:Int),.int .i64 (c:Int)] 56 (0,0)):=(by rw [hW5];exact heap_alloc_new _ _)
   have c50:W5.cell? ⟨wr.heap.size,0,none⟩=some (.int .i64 (a:Int)):=(by rw [cell_of_row _ _ _ _ _ _ bx5];rfl)
   have c51:W5.cell? ⟨wr.heap.size,1,none⟩=some (.int .i64 (c:Int)):=(by rw [cell_of_row _ _ _ _ _ _ bx5];rfl)
   have hkI:(k:Int)<(gs.length:Int):=(by omega)
   have hkl30:kp.length≤30:=(by omega)
   have hnl50:nm.length≤50:=(by omega)
   have hwsz:=bel.size;have yb:bl<wr.heap.size:=Nat.lt_of_lt_of_le hlt bel.size;have NX:=aE hnext;have NL:=aE hnl;have HAS:=aE has1;have AT:=aE at1;have SMH:=aE SM;clear hA hC hgk hnext hnl hnm hkp hx hy hxy p1 p2 f1 f2 f3 f4 sm1 sm2 has1 at1 hkey' hx1' hx2' hcG hcN hsg hkn SM hkl
   go_upto_region 8 with fail
   rw [←hW5];clear hW5
   go_wp2_with fail
   refine (oG W5 bw5).mono ?_;rintro e W6 ⟨rfl,b6⟩;have bx6:=(b6.block wr.heap.size s5).trans bx5;have c60:W6.cell? ⟨wr.heap.size,0,none⟩=some (.int .i64 (a:Int)):=(by rw [cell_of_row _ _ _ _ _ _ bx6];rfl)
   have c61:W6.cell? ⟨wr.heap.size,1,none⟩=some (.int .i64 (c:Int)):=(by rw [cell_of_row _ _ _ _ _ _ bx6];rfl)
   have g60:W6.frozen? ⟨wr.heap.size,0,none⟩=false:=frozen_of_row _ _ _ _ _ bx6;have g61:W6.frozen? ⟨wr.heap.size,1,none⟩=false:=frozen_of_row _ _ _ _ _ bx6;obtain ⟨W7,hW7⟩:∃W7,W7=(W6.setCell ⟨wr.heap.size,0,none⟩ (.int .i64 (x:Int))).setCell ⟨wr.heap.size,1,none⟩ (.int .i64 (y:Int)):=⟨_,rfl⟩
   have bw7:Below wr.heap.size wr W7:=by
    rw [hW7]
    exact (((bw5.trans (b6.mono bw5.size)).setCell (p:=⟨wr.heap.size,0,none⟩) (Nat.le_refl _) _)).setCell (p:=⟨wr.heap.size,1,none⟩) (Nat.le_refl _) _
   have bx7:W7.heap[wr.heap.size]?=some (.cells #[.int .i64 (x:Int),.int .i64 (y:Int)] 56 (0,0)):=(by rw [hW7];exact aM (aM bx6 0 _) 1 _)
   have c70:W7.cell? ⟨wr.heap.size,0,none⟩=some (.int .i64 (x:Int)):=(by rw [cell_of_row _ _ _ _ _ _ bx7];rfl)
   have c71:W7.cell? ⟨wr.heap.size,1,none⟩=some (.int .i64 (y:Int)):=(by rw [cell_of_row _ _ _ _ _ _ bx7];rfl)
   have s7:wr.heap.size<W7.heap.size:=(Array.getElem?_eq_some_iff.1 bx7).1;clear c50 c51 bx5 s5
   go_upto_region 9 with fail
   rw [←hW7];clear hW7 c60 c61 g60 g61 bx6
   go_wp2_with fail
   refine (oN W7).mono ?_;rintro e W8 ⟨rfl,b8⟩;have bw8:Below wr.heap.size wr W8:=bw7.trans (b8.mono bw7.size);have bx8:=(b8.block wr.heap.size s7).trans bx7;have c80:W8.cell? ⟨wr.heap.size,0,none⟩=some (.int .i64 (x:Int)):=(by rw [cell_of_row _ _ _ _ _ _ bx8];rfl)
   have c81:W8.cell? ⟨wr.heap.size,1,none⟩=some (.int .i64 (y:Int)):=(by rw [cell_of_row _ _ _ _ _ _ bx8];rfl)
   have I8:=I.below bw8;have B8:Below w.heap.size w W8:=bel.trans (bw8.mono hwsz);have bC8:=(bw8.block w.heap.size (Array.getElem?_eq_some_iff.1 bC).1).trans bC;have bA8:=(bw8.block (w.heap.size+1) (Array.getElem?_eq_some_iff.1 bA).1).trans bA;have s8:=bw8.size;have hbs8:=I8.bs;clear c70 c71 bx7 s7 bw5 bw7 b6 b8 oG oN
   cases kn with
   | true =>
    have own8:=I8.ownN.alloc (.cells #[.int .i64 (sg:Int)] 3)
    go_wp2_with (at_builtin;refine wpList_append_lies _ rfl (.tmp 53) (.tmp 55) 165 rfl (w.heap.size+2) 3 iO (.int .i64 0) 1 8 Tryz.underlying165 hiO zO0 zO1 zO2 rfl (by omega) _ _ _ rfl own8 ⟨W8.heap.size,0,none⟩ 1 1 [.int .i64 (sg:Int)] rfl rfl (cell_one_new _ _ _) (by simp;rfl) (by omega) (by unfold maxLen;omega) (by omega) (by simp;omega) _ rfl ?_)
    have NX1:Hid (sl1 F (natP gs) (k+1)=(nm++[sg],kp)):=(by show _=_;rw [NX.out];rfl)
    intro g' cap' w1 hown1 hgrow hat1 hlt1;have G9:Grew _ w1 _ g':=⟨hgrow,hat1.imp id (fun e=>by rw [World.size_alloc];exact e)⟩
    have X9:=aE ((I8.alloc (.cells #[.int .i64 (sg:Int)] 3)).addN hown1 G9);have B9:Below w.heap.size w w1:=(B8.alloc B8.size _).grown hgrow (by simp;omega) (fun q hq=>by have:=(I8.ownN.lt q hq).1;omega);have C9:=aE ((G9.blk w.heap.size (by simp;omega) (fun e=>by have:=(I8.ownN.lt _ e).1;omega)).trans (aA bC8));have A9:=aE ((G9.blk (w.heap.size+1) (by simp;omega) (fun e=>by have:=(I8.ownN.lt _ e).1;omega)).trans (aA bA8));clear hgrow hown1 G9 hat1 hlt1;go_wp2
    go_roundw
    case rel=>exact ⟨k+1,D,by omega,by go_num,by rw [NX1.out];exact X9.out.mono (by omega),by rw [NX1.out];exact SMH.out,C9.out,A9.out,B9⟩
    case measure=>simp [intOf];omega
   | false =>
    by_cases hm:(x,y)∈kp
    ·have hh:has D key=true:=by rw [HAS.out];exact decide_eq_true hm
     obtain ⟨S',hS'⟩:∃s,s=2*(F+kp.idxOf (x,y)):=⟨_,rfl⟩
     have NX1:Hid (sl1 F (natP gs) (k+1)=(nm++[S'],kp)):=(by show _=_;rw [NX.out,hS'];simp [hm])
     have AT1:=aE (AT.out hm);rw [←hS'] at AT1;have HS:=aE hS';clear hS';have own8:=I8.ownN.alloc (.cells #[.int .i64 (S':Int)] 3)
     go_wp2_with (at_lookup;refine wpList_lookup_own_ok_int _ rfl _ _ 170 rfl 56 3 .i64 gateLaw Tryz.underlying170 Tryz.underlying3 (Tryz.zeroValue3 _) M k D rfl I8.map _ _ rfl hkey ?_)
     intro cv hat hwc;obtain rfl:cv=(S':Int):=by
      have h:=hat.symm.trans AT1.out
      simpa using h
     clear hat hwc
     go_wp2_with (at_builtin;refine wpList_append_lies _ rfl (.tmp 53) (.tmp 55) 165 rfl (w.heap.size+2) 3 iO (.int .i64 0) 1 8 Tryz.underlying165 hiO zO0 zO1 zO2 rfl (by omega) _ _ _ rfl own8 ⟨W8.heap.size,0,none⟩ 1 1 [.int .i64 (S':Int)] rfl rfl (cell_one_new _ _ _) (by simp;rfl) (by omega) (by unfold maxLen;omega) (by omega) (by simp;omega) _ rfl ?_)
     intro g' cap' w1 hown1 hgrow hat1 hlt1;have G9:Grew _ w1 _ g':=⟨hgrow,hat1.imp id (fun e=>by rw [World.size_alloc];exact e)⟩
     have X9:=aE ((I8.alloc (.cells #[.int .i64 (S':Int)] 3)).addN hown1 G9);have B9:Below w.heap.size w w1:=(B8.alloc B8.size _).grown hgrow (by simp;omega) (fun q hq=>by have:=(I8.ownN.lt q hq).1;omega);have C9:=aE ((G9.blk w.heap.size (by simp;omega) (fun e=>by have:=(I8.ownN.lt _ e).1;omega)).trans (aA bC8));have A9:=aE ((G9.blk (w.heap.size+1) (by simp;omega) (fun e=>by have:=(I8.ownN.lt _ e).1;omega)).trans (aA bA8));clear hgrow hown1 G9 hat1 hlt1;go_wp2
     go_roundw
     case rel=>exact ⟨k+1,D,by omega,by go_num,by rw [NX1.out];exact X9.out.mono (by omega),by rw [NX1.out];exact SMH.out,C9.out,A9.out,B9⟩
     case measure=>simp [intOf];omega
    ·have hh:has D key=false:=by rw [HAS.out];exact decide_eq_false hm
     obtain ⟨ka,kc,rfl⟩:=aW I8.ownK;obtain ⟨S',hS'⟩:∃s,s=2*(F+kp.length):=⟨_,rfl⟩
     have hSI:(2:Int)*((F:Int)+(kp.length:Int))=(S':Int):=(by omega)
     have S1000:S'<1000:=(by omega)
     have NX1:Hid (sl1 F (natP gs) (k+1)=(nm++[S'],kp++[(x,y)])):=(by show _=_;rw [NX.out,hS'];simp [hm])
     have SM1:Hid (SigMap (D.put key (.lit (.int .i64 (S':Int)))) F (kp++[(x,y)])):=by
      have h:=SMH.out.put I8.map.isMap (g:=(x,y)) (l:=key) hkey hm;rw [←hS'] at h
      exact h
     have HS:=aE hS';clear hS'
     go_wp2_with (at_lookup;refine wpList_lookup_own_ok_int _ rfl _ _ 170 rfl 56 3 .i64 gateLaw Tryz.underlying170 Tryz.underlying3 (Tryz.zeroValue3 _) M k D rfl I8.map _ _ rfl hkey ?_)
     intro cv hat hwc;clear hat hwc
     go_wp2_with (at_mapUpdate;refine wpList_mapUpdate_own _ rfl _ _ _ 170 rfl 56 3 gateLaw Tryz.underlying170 _ M k D rfl I8.map (by unfold maxLen;omega) _ _ key rfl rfl hkey (.lit (.int .i64 (S':Int))) [] (plainElem_int Tryz.underlying3 (WalkArith.wf_i64 (by omega))) ?_)
     intro w9 m9 hg9;have I9:=I8.put m9 hg9;have hM8:=I8.map.lt;have neM:∀q o,W8.heap[q]?=some (.cells o 56 (0,0))→q≠M:=fun q o h e=>by
      obtain ⟨es,ck,hb,_⟩:=I8.map;rw [e,hb] at h
      cases h
     have l8:=(Array.getElem?_eq_some_iff.1 bx8).1;have bx9:=(hg9.block wr.heap.size l8 (fun e=>neM _ _ bx8 (Option.some.inj e))).trans bx8;have c90:w9.cell? ⟨wr.heap.size,0,none⟩=some (.int .i64 (x:Int)):=(by rw [cell_of_row _ _ _ _ _ _ bx9];rfl)
     have c91:w9.cell? ⟨wr.heap.size,1,none⟩=some (.int .i64 (y:Int)):=(by rw [cell_of_row _ _ _ _ _ _ bx9];rfl)
     have B9':Below w.heap.size w w9:=B8.grown hg9 B8.size (fun q e=>by cases e;omega);have bC9:=(hg9.block w.heap.size (by omega) (fun e=>by cases e;omega)).trans bC8;have bA9:=(hg9.block (w.heap.size+1) (by omega) (fun e=>by have:=Option.some.inj e;omega)).trans bA8;have hsz9:=hg9.size;have hbs9:=I9.bs;have own9:=I9.ownK.alloc (.cells #[.int .i64 (x:Int),.int .i64 (y:Int)] 56);clear neM hg9 m9 bx8 c80 c81 I8 hM8
     go_wp2_with (at_builtin;refine wpList_append_lies _ rfl (.tmp 49) (.tmp 51) 31 rfl (w.heap.size+2) 56 iG (.agg #[.int .i64 0,.int .i64 0]) 2 16 Tryz.underlying31 hiG zG0 zG1 zG2 rfl (by omega) _ _ _ rfl own9 ⟨w9.heap.size,0,none⟩ 1 1 [.int .i64 (x:Int),.int .i64 (y:Int)] rfl rfl (World.news_of_block (aB _ _ _ rfl)) (by simp [Value.oneCell']) (by omega) (by unfold maxLen;omega) (by omega) (by simp;omega) _ rfl ?_)
     intro gk capk w10 hown10 hgrow10 hat10 hlt10;have G10:Grew _ w10 _ gk:=⟨hgrow10,hat10.imp id (fun e=>by rw [World.size_alloc];exact e)⟩
     have I10:=(I9.alloc (.cells #[.int .i64 (x:Int),.int .i64 (y:Int)] 56)).addK hown10 G10;have B10:Below w.heap.size w w10:=(B9'.alloc B9'.size _).grown hgrow10 (by simp;omega) (fun q hq=>by have:=(I9.ownK.lt q hq).1;omega);have bC10:=(G10.blk w.heap.size (by simp;omega) (fun e=>by have:=(I9.ownK.lt _ e).1;omega)).trans (aA bC9);have bA10:=(G10.blk (w.heap.size+1) (by simp;omega) (fun e=>by have:=(I9.ownK.lt _ e).1;omega)).trans (aA bA9);have hsz10:w9.heap.size≤w10.heap.size:=Nat.le_trans (by simp) hgrow10.size;have hbs10:=I10.bs;have own10:=I10.ownN.alloc (.cells #[.int .i64 (S':Int)] 3);clear hgrow10 hat10 hlt10 hown10 G10 I9 own9 c90 c91 bx9 bC9 bA9
     go_wp2_with (at_builtin;refine wpList_append_lies _ rfl (.tmp 53) (.tmp 55) 165 rfl (w.heap.size+2) 3 iO (.int .i64 0) 1 8 Tryz.underlying165 hiO zO0 zO1 zO2 rfl (by omega) _ _ _ rfl own10 ⟨w10.heap.size,0,none⟩ 1 1 [.int .i64 (S':Int)] rfl rfl (cell_one_new _ _ _) (by simp;rfl) (by omega) (by unfold maxLen;omega) (by omega) (by simp;omega) _ rfl ?_)
     intro g' cap' w1 hown1 hgrow hat1 hlt1;have G9:Grew _ w1 _ g':=⟨hgrow,hat1.imp id (fun e=>by rw [World.size_alloc];exact e)⟩
     have X9:=aE ((I10.alloc (.cells #[.int .i64 (S':Int)] 3)).addN hown1 G9);have B9:Below w.heap.size w w1:=(B10.alloc B10.size _).grown hgrow (by simp;omega) (fun q hq=>by have:=(I10.ownN.lt q hq).1;omega);have C9:=aE ((G9.blk w.heap.size (by simp;omega) (fun e=>by have:=(I10.ownN.lt _ e).1;omega)).trans (aA bC10));have A9:=aE ((G9.blk (w.heap.size+1) (by simp;omega) (fun e=>by have:=(I10.ownN.lt _ e).1;omega)).trans (aA bA10));clear hgrow hown1 G9 hat1 hlt1;go_wp2
     go_roundw
     case rel=>exact ⟨k+1,D.put key (.lit (.int .i64 (S':Int))),by omega,by go_num,by rw [NX1.out];exact X9.out.mono (by omega),by rw [NX1.out];exact SM1.out,C9.out,A9.out,B9⟩
     case measure=>simp [intOf];omega
  ·have hkN:k=gs.length:=by omega
   have hN1:(sl1 F (natP gs) gs.length).1=slN1 n ls gs:=(by unfold slN1;rw [←HF.out])
   have hK1:(sl1 F (natP gs) gs.length).2=fJ n ls gs:=(by unfold fJ;rw [←HF.out])
   have hnl:=jV F (natP gs) gs.length;obtain ⟨sm1,_⟩:=nL HR.out (Nat.le_refl gs.length);rw [←HF.out] at sm1;rw [hkN,hN1,hK1] at I;rw [hN1] at hnl sm1;rw [hkN];clear hkN hk2 hk SM hN1 hK1;obtain ⟨nm,hnm⟩:∃x,x=slN1 n ls gs:=⟨_,rfl⟩
   obtain ⟨kp,hkp⟩:∃x,x=fJ n ls gs:=⟨_,rfl⟩
   rw [←hnm] at I hnl sm1;rw [←hkp] at I;have HNM:=aE hnm;have HKP:=aE hkp;clear hnm hkp;obtain ⟨gn,capn,rfl,hBg,hgl,hcN⟩:=I.names (fun e=>by rw [e] at hnl;simp at hnl;omega);obtain ⟨ka,kc,rfl⟩:=aW I.ownK;obtain ⟨q0,q1,q2,q3⟩:wr.cell? ⟨w.heap.size,0,none⟩=some (.int .i64 n)∧wr.cell? ⟨w.heap.size,1,none⟩=some (.slice la ls.length lc)∧wr.cell? ⟨w.heap.size,2,none⟩=some (.slice ga gs.length gc)∧wr.cell? ⟨w.heap.size,3,none⟩=some (.slice oa os.length oc):=by
    refine ⟨?_,?_,?_,?_⟩<;> (rw [cell_of_row _ _ _ _ _ _ bC];rfl)
   have call:=nD n la oa ka ga lc oc kp.length kc gs.length gc ls os gn 0 nm.length capn nm wr h2 HR.out.o4 (hL.below bel) (hO.below bel) (by omega) rfl sm1 hgl hcN
    (fun i hi=>by have:=HR.out.lat i hi;have e:=HF.out;exact ⟨this.1,by omega⟩) (fun i hi=>by have:=HR.out.out i hi;have e:=HF.out;exact ⟨this.1,by omega⟩)
   have hbs:=I.bs;have hnl2:=aE hnl;clear hnl hcN
   go_wp2_with fail
   refine call.mono ?_;rintro e w1 ⟨lv,ov,rfl,oL,oO,lo,b1⟩;have bA1:=(b1.block (w.heap.size+1) (Array.getElem?_eq_some_iff.1 bA).1).trans bA;obtain ⟨u0,u1,u2,u3⟩:=aK bA1;have v0:w1.frozen? ⟨w.heap.size+1,0,none⟩=false:=frozen_of_row _ _ _ _ _ bA1;have v1:w1.frozen? ⟨w.heap.size+1,1,none⟩=false:=frozen_of_row _ _ _ _ _ bA1;have v2:w1.frozen? ⟨w.heap.size+1,2,none⟩=false:=frozen_of_row _ _ _ _ _ bA1;have v3:w1.frozen? ⟨w.heap.size+1,3,none⟩=false:=frozen_of_row _ _ _ _ _ bA1;obtain ⟨la',ln',lc',rfl⟩:=bQ oL;obtain ⟨oa',on',oc',rfl⟩:=bQ oO;have oG:w1.ownsRow (w.heap.size+2) 56 2 (.slice ka kp.length kc) (z2 kp).length (flat (z2 kp)):=(by rw [fZ];exact eD I.ownK b1)
   have bel1:Below w.heap.size w w1:=bel.trans (b1.mono bel.size);have hwsz:=bel.size;have hKlt:=fun q (hq:(Value.slice ka kp.length kc).ownBlock=some q)=>(I.ownK.lt q hq).2
   clear call I q0 q1 q2 q3 bC bA;go_wp2;refine aJW (b:=w.heap.size+1) (aS bA1 _ _ _ _) (by rfl) ?_;rw [←HNM.out,←HKP.out]
   exact ⟨_,_,_,rfl,bG (b:=w.heap.size+1) oL (by omega) (by omega) _ _ _ _,bG (b:=w.heap.size+1) oG (by omega) (by omega) _ _ _ _,bG (b:=w.heap.size+1) oO (by omega) (by omega) _ _ _ _,
    (fun q h h'=>by have:=(oL.lt q h).1;have:=hKlt q h';omega),lo,(fun q h h'=>by have:=(oO.lt q h').1;have:=hKlt q h;omega),aH bel1 (by omega) _ _ _ _⟩
end Go.Proofs.YtgpaajdfkekjiaaGreatDoor
namespace Go.Proofs.YtgpaajdfkekjiaaGreatDoor
set_option maxHeartbeats 8000000
set_option maxRecDepth 100000
open Go.RowKit Go.Shelf
attribute [local go_sem] Oper.semAt_some
def aI3 (gs:List (Int×Int)) (j:Nat):Array Value:=#[.int .i64 ((gs.length - 1 - j:Nat):Int),.agg #[.int .i64 (gs.getD (gs.length - 1 - j) (0,0)).1,.int .i64 (gs.getD (gs.length - 1 - j) (0,0)).2]]
def KpU (U n₁:Nat) (A B:World):Prop:=Keeps (fun k=>k=U∨n₁≤k) A B
theorem aLV {U n₁:Nat}{A B C:World}(h:KpU U n₁ A B) (k:KpU U n₁ B C):KpU U n₁ A C:=Keeps.trans h k
theorem aMK {U n₁:Nat}(W:World) (l:Nat) (o o':Obj) (hl:n₁≤l) (_:W.heap[l]?=some o) (_:o.isCells=false) (_:o.isWalk=false):KpU U n₁ W (W.putObj l o') :=
 ⟨rfl,rfl,rfl,by simp,fun k _ hk=>World.putObj_heap_other (fun e=>hk (.inr (by omega)))⟩
theorem aHO (F:Fence) (n:Nat) (hf:F.fn 128) (hro:F.round=none) (hn:1≤n) (l Bs U n₁:Nat) (ga:Option Addr) (gc:Nat) (gs:List (Int×Int)) (hm:gs.length≤1000)
  (w0:World) (hG:PairsAt w0 ga gs) (hU:w0.heap.size≤U) (hn₁:w0.heap.size≤n₁) (hBs:Bs<n₁) (hBU:Bs≠U) (J Jx:List Nat→World→Prop)
  (hY:∀pre x W,J pre W→pre.length<gs.length→YieldAt F (n - 1) Tryz.prog l (aI3 gs x) W fun e W' =>
   (e=.returned (.bool true)∧J (pre++[x]) W'∧KpU U n₁ W W')∨(e=.returned (.bool false)∧Jx (pre++[x]) W'))
  (W:World) (hs:n₁≤W.heap.size) (hc:W.cell? ⟨Bs,0,none⟩=some (.slice ga gs.length gc)) (hb:Below w0.heap.size w0 W) (h0:J [] W) :
  CallsIn F n Tryz.prog 128 #[.func (.yield l) #[] #[],.pointer (some ⟨Bs,0,none⟩)] W fun e W'=>(∃v,e=.returned v)∧
   ((∃ys,ys=List.range gs.length∧J ys W')∨(∃pre,True∧Jx pre W')):=by
 refine callsIn_of_wp Tryz.func128 rfl hf ?_ hro;simp only [Tryz.ntmps128,List.size_toArray,List.length_cons,List.length_nil,Nat.reduceAdd,Nat.reduceSub,Array.replicate_succ,Array.replicate_zero,List.push_toArray,List.append_toArray,List.nil_append,List.cons_append]
 gi_wp2
 gi_loopw [3] (fun i wr=>∃(k:Nat) (z:Int),k≤gs.length∧i=.int .i64 z∧z=(gs.length:Int) - 1 - k∧J (List.range k) wr∧KpU U n₁ W wr)
  (fun i _=>(intOf i+1).toNat)
 case atStart=>exact ⟨0,_,Nat.zero_le _,rfl,by omega,h0,Keeps.refl _ _⟩
 case round =>
  obtain ⟨k,z,hk,rfl,hz,hJs,hnx⟩:=hrel;have hcx:wr.cell? ⟨Bs,0,none⟩=some (.slice ga gs.length gc):=(hnx.cell (p:=⟨Bs,0,none⟩) (by show Bs < _;omega) (by show ¬(Bs=U∨n₁≤Bs);omega)).trans hc
  by_cases hlt:k<gs.length
  ·obtain ⟨b,off,rfl,hbl,hcs⟩:=hG.get (by omega)
   obtain ⟨i,hi⟩:∃i:Nat,i=gs.length - 1 - k:=⟨_,rfl⟩
   obtain rfl:z=(i:Int):=(by omega)
   have hi2:i<gs.length:=(by omega)
   have h5:∀o,wr.cell? ⟨b,o,none⟩=w0.cell? ⟨b,o,none⟩:=fun o=>(hnx.cell (p:=⟨b,o,none⟩) (by show b < _;omega) (by show ¬(b=U∨n₁≤b);omega)).trans (hb.cell (p:=⟨b,o,none⟩) hbl)
   have c0:=(h5 _).trans (hcs i hi2).1;have c1:=(h5 _).trans (hcs i hi2).2;obtain ⟨fn,tmps,assign,body,hy,hR⟩:=hY _ k wr hJs (by simpa using hlt);unfold aI3 at hy;rw [←hi] at hy;obtain ⟨a,ha⟩:∃a,a=(gs.getD i (0,0)).1:=⟨_,rfl⟩
   obtain ⟨c,hc'⟩:∃c,c=(gs.getD i (0,0)).2:=⟨_,rfl⟩
   rw [←ha,←hc'] at hy;rw [←ha] at c0;rw [←hc'] at c1;clear ha hc' hi hcs h5;have hi0:(0:Int)≤(i:Int):=(by omega)
   have HZ:Hid ((i:Int)=(gs.length:Int) - 1 - k):=hz;clear hz
   gi_wp2
   refine hR.mono ?_;rintro e W3 (⟨rfl,hJ3,hk3⟩ | ⟨rfl,hJx3⟩)
   ·gi_wp2
    go_roundw
    case rel=>exact ⟨k+1,_,by omega,rfl,by have:=HZ.out;omega,by rw [List.range_succ];exact hJ3,aLV hnx hk3⟩
    case measure=>simp [intOf]
   ·gi_wp2
    refine bodyPost_ret (results_none rfl _ _ _) rfl ?_
    exact ⟨⟨_,rfl⟩,.inr ⟨_,trivial,hJx3⟩⟩
  ·obtain rfl:k=gs.length:=by omega
   obtain rfl:z=-1:=by omega
   gi_wp2
   go_end0
   exact ⟨⟨_,rfl⟩,.inl ⟨_,rfl,hJs⟩⟩
theorem aKH (F:Fence) (n:Nat) (h5:F.fn 117) (hro:F.round=none) (a:Option Addr) (len cap:Nat) (w:World) :
  CallsIn F n Tryz.prog 117 #[.slice a len cap] w fun e w'=>e=.returned (.func (.func 128) #[] #[.pointer (some ⟨w.heap.size,0,none⟩)])∧w'=w.alloc (.cells #[.slice a len cap] 31):=by
 refine callsIn_of_wp Tryz.func117 rfl h5 ?_ hro;simp only [Tryz.ntmps117,List.size_toArray,List.length_cons,List.length_nil,Nat.reduceAdd,Nat.reduceSub,Array.replicate_succ,Array.replicate_zero,List.push_toArray,List.append_toArray,List.nil_append,List.cons_append]
 gi_wp2
 go_ret
 exact ⟨rfl,rfl⟩
theorem aDJ (F:Fence) (n:Nat) (hf:F.fn 128) (hro:F.round=none) (hn:1≤n) (Bs U n₁:Nat) (ga:Option Addr) (gc:Nat) (gs:List (Int×Int)) (hm:gs.length≤1000)
  (w0:World) (hG:PairsAt w0 ga gs) (hU:w0.heap.size≤U) (hn₁:w0.heap.size≤n₁) (hBs:Bs<n₁) (hBU:Bs≠U) (w:World) (hs:n₁≤w.heap.size) (hc:w.cell? ⟨Bs,0,none⟩=some (.slice ga gs.length gc)) (hb:Below w0.heap.size w0 w) :
  SeqStopsK F n Tryz.prog 128 #[.pointer (some ⟨Bs,0,none⟩)] (aI3 gs) (KpU U n₁) (fun ys=>ys=List.range gs.length) (fun _=>True) gs.length w:=fun l J Jx W hW _ _ hY h0 =>
 aHO F n hf hro hn l Bs U n₁ ga gc gs hm w0 hG hU hn₁ hBs hBU J Jx hY W (Nat.le_trans hs hW.size) ((hW.cell (p:=⟨Bs,0,none⟩) (by show Bs < _;omega)).trans hc) (hb.trans (hW.mono hb.size)) h0
end Go.Proofs.YtgpaajdfkekjiaaGreatDoor
namespace Go.Proofs.YtgpaajdfkekjiaaGreatDoor
set_option maxHeartbeats 8000000
set_option maxRecDepth 100000
open Go.RowKit
def iZ (l:List Nat) (v:Nat):Bool:=decide (∃s∈l,s / 2=v)
theorem zI (v:Nat):iZ [] v=false:=by simp [iZ]
theorem kQ (l:List Nat) (s v:Nat):iZ (l++[s]) v=(iZ l v||decide (s / 2=v)):=by
 unfold iZ;rw [←Bool.decide_or]
 apply decide_eq_decide.2
 constructor
 ·rintro ⟨t,ht,e⟩
  rcases List.mem_append.1 ht with h | h
  ·exact .inl ⟨t,h,e⟩
  ·simp at h;subst h;exact .inr e
 ·rintro (⟨t,ht,e⟩ | e)
  ·exact ⟨t,List.mem_append.2 (.inl ht),e⟩
  ·exact ⟨s,by simp,e⟩
theorem aE6 (a b:List Nat) (v:Nat):iZ (a++b) v=iZ (b++a) v:=by
 unfold iZ
 apply decide_eq_decide.2
 constructor<;>(rintro ⟨t,ht,e⟩;exact ⟨t,by simp at ht ⊢;rcases ht with h | h<;>simp [h],e⟩)
theorem aG1 (first:Nat) (roots:List Nat) (kept:List (Nat×Nat)) (v:Nat):need first roots kept 0 v=iZ roots v:=rfl
end Go.Proofs.YtgpaajdfkekjiaaGreatDoor
namespace Go.Proofs.YtgpaajdfkekjiaaGreatDoor
set_option maxHeartbeats 8000000
set_option maxRecDepth 100000
def gF (o:Oper):Bool:=match o.op with
 | .load _ _=>true
 | .store _ _ _=>true
 | .fieldAddr _ _ _=>true
 | .indexAddr _ _ _=>true
 | .binOp _ _ _ _ _=>true
 | .move _=>true
 | .assign _=>true
 | _=>false
theorem aGQ {P:Program}{w w':World}{s:Sem Value}{x:Next}(h:(do pure (.value (←s)):Sem Next).run P w=.ok x w'):∃v,x=.value v:=by
 rw [Sem.run_bind] at h
 cases hr:Sem.run P s w with
 | ok v w1=>rw [hr] at h;simp only [Result.andThen_ok,Sem.run_pure] at h;cases h;exact ⟨_,rfl⟩
 | halt e w1=>rw [hr] at h;cases h
theorem aJ9 {P:Program}{w w':World}{s:Sem Unit}{x:Next}(h:(do s;pure .skip:Sem Next).run P w=.ok x w'):x=.skip:=by
 rw [Sem.run_bind] at h
 cases hr:Sem.run P s w with
 | ok v w1=>rw [hr] at h;simp only [Result.andThen_ok,Sem.run_pure] at h;cases h;rfl
 | halt e w1=>rw [hr] at h;cases h
theorem aC1 {P:Program}{w w':World}{ρ:Operand→Value}{o:Oper}{x:Next}(hs:gF o=true) (h:(execOp ρ o).run P w=.ok x w'):(∃v,x=.value v)∨x=.skip:=by
 unfold gF at hs;unfold execOp at h
 split at hs<;>rename_i ho<;>first | (cases hs;done) | skip
 all_goals simp only [ho] at h
 all_goals first
  | exact .inl (aGQ h)
  | exact .inr (aJ9 h)
  | (simp only [Sem.run_pure] at h;cases h;exact .inl ⟨_,rfl⟩)
theorem aAD {o:Oper}(hs:gF o=true):∀c,o.op≠.defer c:=fun c e=>by simp [gF,e] at hs
section
variable {P:Program}{l n:Nat}{ops:Array Oper}{Q:Exit→Act→World→Prop}{md:Region.Mode}
theorem aEG {o:Oper}{a:Act}{w:World}{K:Act→World→Prop}(hs:gF o=true) (hh:o.wp P a w K Q):o.wpIn (Fence.wide.inRound l) n P a w K Q:=by
 unfold Oper.wpIn;refine ⟨fun _ _=>trivial,?_⟩;rw [Oper.semAt_eq _ _ _ (aAD hs)];unfold Oper.wp at hh
 cases hr:(execOp a.eval o).run P w with
 | ok x w' =>
  rw [hr] at hh
  rcases aC1 hs hr with ⟨v,rfl⟩ | rfl
  ·exact hh
  ·exact hh
 | halt e w' =>
  rw [hr] at hh
  cases e<;>first | exact hh | exact (hh:False).elim
def Just (K:Act→World→Prop):Exit→Act→World→Prop
 | .normal,a,w=>K a w
 | _,_,_=>False
theorem aEZ {i:Nat}{a:Act}{w:World}{K:Act→World→Prop}{J:Act→World→Prop}(hs:ops.all gF=true) (hh:wpOp P ops (Just J) i K a w):wpOpIn (Fence.wide.inRound l) n P ops (Just J) i K a w:=by
 unfold wpOp at hh;unfold wpOpIn
 cases ho:ops[i]? with
 | none=>rw [ho] at hh;exact hh
 | some o =>
  rw [ho] at hh;have hso:gF o=true:=(Array.all_eq_true'.1 hs) o (Array.mem_of_getElem? ho);dsimp only at hh ⊢
  split
  ·rename_i hw
   rw [if_pos hw] at hh
   rcases hh with h | ⟨_,_,_,h⟩
   ·exact aEG hso h
   ·exact h.elim
  ·rename_i hw
   rw [if_neg hw] at hh
   exact ⟨fun _ _=>trivial,hh⟩
theorem tE {J:Act→World→Prop}(hs:ops.all gF=true):∀(fuel:Nat) (listed:Array Bool) (a:Act) (w:World),wpAny P md ops (Just J) fuel listed a w→wpAnyIn (Fence.wide.inRound l) n P md ops (Just J) fuel listed a w
 | 0,_,_,_,h=>h
 | fuel+1,_,_,_,h=>⟨h.1,fun i hi=>wpOpIn_mono (fun a' w' h'=>tE hs fuel _ a' w' h') (aEZ hs (h.2 i hi))⟩
theorem tF {id:Nat}{a:Act}{w:World}(hm:P.follows .mixedOrders=true) (hs:ops.all gF=true)
  (h:wpAny P .any ops (Just (Q .normal)) ops.size (Array.replicate ops.size false) a w.drew):(Code.region id ops true).wpIn (Fence.wide.inRound l) n P Q a w:=by
 refine Code.wpIn_mono (Q:=Just (Q .normal)) (fun e a w h=>?_) (wpIn_region_any hm (tE hs _ _ _ _ h))
 cases e<;>first | exact h | exact (h:False).elim
end
end Go.Proofs.YtgpaajdfkekjiaaGreatDoor
