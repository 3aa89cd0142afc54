/-
  A part of the proof of the statement All: texts of ours, made small by program (blanks, names).
-/
import Derived.Test.YtgpaajdfkekjiaaGreatDoorPg
import Derived.Test.YtgpaajdfkekjiaaGreatDoorPy
import Derived.Test.YtgpaajdfkekjiaaGreatDoorPf
namespace Go.Proofs.YtgpaajdfkekjiaaGreatDoor
set_option maxHeartbeats 8000000
set_option maxRecDepth 100000
open Go.RowKit
theorem aB5 {n:Nat}{ls gs:List (Int×Int)}{os:List Int}(h:RightN n ls gs os):(∀i,i<ls.length→Fits (ls.getD i (0,0)).1)∧(∀i,i<gs.length→Fits (gs.getD i (0,0)).1∧Fits (gs.getD i (0,0)).2)∧(∀i,i<os.length→Fits (os.getD i 0)):=by
 have h1:=h.n4;have h2:=h.l4;have h3:=h.g30;refine ⟨fun i hi=>?_,fun i hi=>?_,fun i hi=>?_⟩
 ·have:=h.lat i hi;unfold Fits;omega
 ·have:=h.gat i hi;unfold Fits;omega
 ·have:=h.out i hi;unfold Fits;omega
theorem aA9 {n:Int}{la ga oa:Option Addr}{lc gc oc:Nat}{ls gs:List (Int×Int)}{os:List Int}{b:Bool}(w:World)
  (hL:PairsAt w la ls) (hG:PairsAt w ga gs) (hO:IntsAt w oa os) (fL:∀i,i<ls.length→Fits (ls.getD i (0,0)).1) (fG:∀i,i<gs.length→Fits (gs.getD i (0,0)).1∧Fits (gs.getD i (0,0)).2) (fO:∀i,i<os.length→Fits (os.getD i 0)) (h:aG n ls gs os=b) :
  Calls Tryz.prog 46 #[.agg #[.int .i64 n,.slice la ls.length lc,.slice ga gs.length gc,.slice oa os.length oc]] w fun e w' =>
   e=.returned (.bool b)∧Below w.heap.size w w':=by subst h;exact bH n la ga oa lc gc oc ls gs os w hL hG hO fL fG fO
structure ZInv (wr:World) (B:Nat) (nv kv:Value) (nm:List Nat) (st:List (Nat×Nat)):Prop where
 bs:B≤wr.heap.size
 ownN:wr.ownsRow B 3 1 nv nm.length (aP nm)
 ownK:wr.ownsRow B 56 2 kv st.length (flat (z2 st))
 nk:∀q,nv.ownBlock=some q→kv.ownBlock≠some q
section
variable {wr wr':World}{B:Nat}{nv kv:Value}{nm:List Nat}{st:List (Nat×Nat)}
theorem ZInv.below (I:ZInv wr B nv kv nm st) (h:Below wr.heap.size wr wr'):ZInv wr' B nv kv nm st :=
 ⟨Nat.le_trans I.bs h.size,eD I.ownN h,eD I.ownK h,I.nk⟩
theorem ZInv.alloc (I:ZInv wr B nv kv nm st) (o:Obj):ZInv (wr.alloc o) B nv kv nm st:=I.below ((Below.refl _ _).alloc (Nat.le_refl _) _)
theorem ZInv.addN (I:ZInv wr B nv kv nm st){g' cap' x:Nat}(own':wr'.ownsRow B 3 1 (.slice (some ⟨g',0,none⟩) (nm.length+1) cap') (nm.length+1) (aP nm++[.int .i64 (x:Int)])) (G:Grew wr wr' nv g') :
  ZInv wr' B (.slice (some ⟨g',0,none⟩) (nm.length+1) cap') kv (nm++[x]) st:=by
 refine ⟨Nat.le_trans I.bs G.grow.size,?_,dE I.ownK G (fun q e e'=>I.nk q e' e),fun q hq=>?_⟩
 ·rw [aZ,List.length_append];exact own'
 ·simp only [Value.ownBlock,Option.some.injEq] at hq
  subst hq
  exact apart I.ownK G (fun q e e'=>I.nk q e' e)
theorem ZInv.addK (I:ZInv wr B nv kv nm st){g' cap':Nat}{x y:Nat}(own':wr'.ownsRow B 56 2 (.slice (some ⟨g',0,none⟩) (st.length+1) cap') (st.length+1) (flat (z2 st)++ [.int .i64 (x:Int),.int .i64 (y:Int)])) (G:Grew wr wr' kv g') :
  ZInv wr' B nv (.slice (some ⟨g',0,none⟩) (st.length+1) cap') nm (st++[(x,y)]):=by
 refine ⟨Nat.le_trans I.bs G.grow.size,dE I.ownN G I.nk,?_,fun q hq e=>?_⟩
 ·have e:z2 (st++[(x,y)])=z2 st++[((x:Int),(y:Int))]:=by simp [z2]
  rw [e,fS,List.length_append];exact own'
 ·simp only [Value.ownBlock,Option.some.injEq] at e
  subst e
  exact apart I.ownN G I.nk hq
theorem ZInv.names (I:ZInv wr B nv kv nm st) (h0:nm≠[]):∃g cap,nv=.slice (some ⟨g,0,none⟩) nm.length cap∧B≤g∧g<wr.heap.size∧∀j,j<nm.length→wr.cell? ⟨g,0+j,none⟩=some (.int .i64 ((nm.getD j 0:Nat):Int)):=by
 have o:=I.ownN
 rcases I.ownN.2 with ⟨_,h⟩ | ⟨g,cap,cur,rfl,_⟩
 ·exact absurd (List.length_eq_zero_iff.1 h) h0
 ·refine ⟨g,cap,rfl,(o.lt g rfl).1,(o.lt g rfl).2,fun j hj=>?_⟩
  rw [Nat.zero_add,o.cellAt j (by simpa [aP] using hj)]
  simp [aP,hj]
end
theorem aAB {tmps:Array Value}{Q:Ending→World→Prop}{w:World}{b:Nat}{v0 v1 v2 v3 y:Value}(h:w.heap[b]?=some (.cells #[v0,v1,v2,v3] 34 (0,0)))
  (h4:tmps[2]?.getD undef=.pointer (some ⟨b,0,none⟩)) (h5:tmps[3]?.getD undef=y) (hQ:Q (.returned (.tuple #[.agg #[v0,v1,v2,v3],y])) w) :
  bodyPost Tryz.prog Tryz.f28 Q Exit.ret ⟨tmps,[]⟩ w:=by
 obtain ⟨c0,c1,c2,c3⟩:=aK h
 exact bodyPost_ret (by simp [results,Tryz.results28,go_sem,h4,h5,c0,c1,c2,c3]) rfl hQ
theorem aEO (n:Nat) (la ga oa:Option Addr) (lc gc oc:Nat) (ls gs:List (Int×Int)) (os:List Int) (w:World) (hr:aG n ls gs os=true) (hL:PairsAt w la ls) (hG:PairsAt w ga gs) (hO:IntsAt w oa os) :
  Calls Tryz.prog 28 #[.agg #[.int .i64 n,.slice la ls.length lc,.slice ga gs.length gc,.slice oa os.length oc]] w (aAV w n (slL n ls gs os) (slG n ls gs os) (slO n ls gs os)):=by
 obtain ⟨W2,hW2⟩:∃W2,W2=(w.alloc (.cells #[.int .i64 n,.slice la ls.length lc,.slice ga gs.length gc,.slice oa os.length oc] 34)).alloc (.cells #[.int .i64 0,.slice none 0 0,.slice none 0 0,.slice none 0 0] 34):=⟨_,rfl⟩
 have s2:W2.heap.size=w.heap.size+2:=by rw [hW2];simp
 have B2:Below w.heap.size w W2:=by rw [hW2];exact ((Below.refl _ _).alloc (Nat.le_refl _) _).alloc (by simp) _
 have bC2:W2.heap[w.heap.size]?=some (.cells #[.int .i64 n,.slice la ls.length lc,.slice ga gs.length gc,.slice oa os.length oc] 34 (0,0)):=by rw [hW2];exact aA (aB _ _ _ rfl)
 have bA2:W2.heap[w.heap.size+1]?=some (.cells #[.int .i64 0,.slice none 0 0,.slice none 0 0,.slice none 0 0] 34 (0,0)):=by rw [hW2];exact aB _ _ _ (by simp)
 obtain ⟨q0,q1,q2,q3⟩:W2.cell? ⟨w.heap.size,0,none⟩=some (.int .i64 n)∧W2.cell? ⟨w.heap.size,1,none⟩=some (.slice la ls.length lc)∧W2.cell? ⟨w.heap.size,2,none⟩=some (.slice ga gs.length gc)∧W2.cell? ⟨w.heap.size,3,none⟩=some (.slice oa os.length oc):=by
  refine ⟨?_,?_,?_,?_⟩<;> (rw [cell_of_row _ _ _ _ _ _ bC2];rfl)
 obtain ⟨iO,hiO,zO0,zO1,zO2⟩:=info_parts Tryz.infoInt;obtain ⟨iG,hiG,zG0,zG1,zG2⟩:=info_parts Tryz.infoGS;obtain ⟨iL,hiL,zL0,zL1,zL2⟩:=info_parts Tryz.infoLS;have rN:=rightN_iff.1 hr;have h1:=rN.n4;have h2:=rN.l4;have h3:=rN.g30;have h4:=rN.o4;obtain ⟨F,hF⟩:∃F,F=n+ls.length+1:=⟨_,rfl⟩
 have F1:1≤F:=by omega
 have F9:F≤9:=by omega
 have hFI:(n:Int)+(ls.length:Int)+1=(F:Int):=by omega
 have fits:=aB5 rN;have rg:=aA9 (lc:=lc) (gc:=gc) (oc:=oc) W2 (hL.below B2) (hG.below B2) (hO.below B2) fits.1 fits.2.1 fits.2.2 hr;have HF:=aE hF;have HR:=aE rN;clear hF rN fits hr
 go_enter Tryz.func28,Tryz.ntmps28
 go_upto_region 1 with fail
 rw [←hW2];clear hW2
 go_wp2_with fail
 refine rg.mono ?_;rintro e W3 ⟨rfl,b3⟩;have B3:Below w.heap.size w W3:=B2.trans (b3.mono B2.size);have bC3:=(b3.block w.heap.size (by omega)).trans bC2;have bA3:=(b3.block (w.heap.size+1) (by omega)).trans bA2;have s3:=b3.size;clear q0 q1 q2 q3 bC2 bA2 rg;have q0:W3.cell? ⟨w.heap.size,0,none⟩=some (.int .i64 n):=by rw [cell_of_row _ _ _ _ _ _ bC3];rfl
 have q1:W3.cell? ⟨w.heap.size,1,none⟩=some (.slice la ls.length lc):=by rw [cell_of_row _ _ _ _ _ _ bC3];rfl
 have sz3:w.heap.size+2≤W3.heap.size:=by omega
 clear s2 s3 b3 B2
 go_wp2_with fail
 clear q0 q1
 go_loopw [6,7] (fun v i wr=>∃k:Nat,k≤F∧i=.int .i64 k∧wr.ownsRow (w.heap.size+2) 3 1 v k (aP (idn k))∧w.heap.size+2≤wr.heap.size∧wr.heap[w.heap.size]?=some (.cells #[.int .i64 n,.slice la ls.length lc,.slice ga gs.length gc,.slice oa os.length oc] 34 (0,0))∧wr.heap[w.heap.size+1]?=some (.cells #[.int .i64 0,.slice none 0 0,.slice none 0 0,.slice none 0 0] 34 (0,0))∧Below w.heap.size w wr) (fun _ i _=>F - (intOf i).toNat)
 case atStart=>exact ⟨0,Nat.zero_le _,rfl,⟨rfl,.inl ⟨rfl,rfl⟩⟩,sz3,bC3,bA3,B3⟩
 case round =>
  clear bC3 bA3 B3 sz3;obtain ⟨k,hk,rfl,hown,hsz,bC,bR,bel⟩:=hrel
  by_cases hk2:k<F
  ·have kI:(k:Int)<(F:Int):=by omega
   obtain ⟨X,hX⟩:∃X:Nat,X=2*k:=⟨_,rfl⟩
   have hXI:(2:Int)*(k:Int)=(X:Int):=(by omega)
   have HX:=aE hX;clear hX;have own5:=hown.alloc (.cells #[.int .i64 (X:Int)] 3)
   go_wp2_with (at_builtin;refine wpList_append_lies _ rfl (.tmp 33) (.tmp 36) 32 rfl (w.heap.size+2) 3 iO (.int .i64 0) 1 8 Tryz.underlying32 hiO zO0 zO1 zO2 rfl (by omega) _ _ _ rfl own5 ⟨wr.heap.size,0,none⟩ 1 1 [.int .i64 (X:Int)] rfl rfl (cell_one_new _ _ _) (by simp;rfl) (by omega) (by unfold maxLen;omega) (by omega) (by simp;omega) _ rfl ?_)
   intro g' cap' w1 hown1 hgrow hat1 hlt1;have G9:Grew _ w1 _ g':=⟨hgrow,hat1.imp id (fun e=>by rw [World.size_alloc];exact e)⟩
   have B9:Below w.heap.size w w1:=(bel.alloc bel.size _).grown hgrow (by simp;omega) (fun q hq=>by have:=(hown.lt q hq).1;omega);have C9:=aE ((G9.blk w.heap.size (by simp;omega) (fun e=>by have:=(hown.lt _ e).1;omega)).trans (aA bC));have A9:=aE ((G9.blk (w.heap.size+1) (by simp;omega) (fun e=>by have:=(hown.lt _ e).1;omega)).trans (aA bR));have O9:=aE hown1;have s9:w.heap.size+2≤w1.heap.size:=(by have:=hgrow.size;simp at this;omega)
   clear hgrow hown1 G9 hat1 hlt1 own5 hown;go_wp2
   go_roundw
   case rel=>exact ⟨k+1,by omega,by go_num,by rw [←vZ,aZ,←HX.out];exact O9.out,s9,C9.out,A9.out,B9⟩
   case measure=>simp [intOf];omega
  ·have hkF:k=F:=by omega
   rw [hkF] at hown;rw [hkF];clear hkF hk2 hk;obtain ⟨na,nc,rfl⟩:=aW hown;have I4:ZInv wr (w.heap.size+2) (.slice na F nc) (.slice none 0 0) (sl1 F (natP gs) 0).1 (sl1 F (natP gs) 0).2:=by
    refine ⟨hsz,?_,World.ownsRow_nil _ _ _ _,(fun q _ e=>by cases e)⟩
    show wr.ownsRow _ _ _ _ (idn F).length (aP (idn F))
    rw [jN];exact hown
   clear hown hsz
   go_wp2_with fail
   go_loopw [6,8,9] (fun nv kv i wr=>∃k:Nat,k≤gs.length∧i=.int .i64 k∧ZInv wr (w.heap.size+2) nv kv (sl1 F (natP gs) k).1 (sl1 F (natP gs) k).2∧wr.heap[w.heap.size]?=some (.cells #[.int .i64 n,.slice la ls.length lc,.slice ga gs.length gc,.slice oa os.length oc] 34 (0,0))∧wr.heap[w.heap.size+1]?=some (.cells #[.int .i64 0,.slice none 0 0,.slice none 0 0,.slice none 0 0] 34 (0,0))∧Below w.heap.size w wr) (fun _ _ i _=>gs.length - (intOf i).toNat)
   case atStart=>exact ⟨0,Nat.zero_le _,rfl,I4,bC,bR,bel⟩
   case round =>
    clear I4 bC bR bel;obtain ⟨k,hk,rfl,I,bC,bR,bel⟩:=hrel;have cG0:wr.cell? ⟨w.heap.size,2,none⟩=some (.slice ga gs.length gc):=by rw [cell_of_row _ _ _ _ _ _ bC];rfl
    by_cases hk2:k<gs.length
    ·obtain ⟨bl,ol,rfl,hlt,hcG⟩:=hG.get (by omega)
     have hx1':=(bel.cell (p:=⟨bl,ol+k*2,none⟩) hlt).trans (hcG k hk2).1;have hx2':=(bel.cell (p:=⟨bl,ol+k*2+1,none⟩) hlt).trans (hcG k hk2).2;obtain ⟨f1,f2,f3,f4⟩:=HR.out.gat k hk2;obtain ⟨a,hA⟩:=Int.eq_ofNat_of_zero_le f1;obtain ⟨c,hC⟩:=Int.eq_ofNat_of_zero_le f2;rw [hA,Int.toNat_natCast,←HF.out] at f3;rw [hC,Int.toNat_natCast,←HF.out] at f4;rw [hA] at hx1';rw [hC] at hx2';have hx1:wr.cell? ⟨bl,ol+k*2,none⟩=some (.int .i64 (a:Int)):=hx1';have hx2:wr.cell? ⟨bl,ol+k*2+1,none⟩=some (.int .i64 (c:Int)):=hx2';have hgk:(natP gs).getD k (0,0)=(a,c):=(by rw [qN,hA,hC,Int.toNat_natCast,Int.toNat_natCast])
     have hnl:=jV F (natP gs) k;obtain ⟨sm1,sm2⟩:=nL HR.out hk;rw [←HF.out] at sm1 sm2;have hkl:=jE F (natP gs) k;have hnext:sl1 F (natP gs) (k+1)=jX F (sl1 F (natP gs) k) (a,c):=(by rw [sl1,hgk])
     obtain ⟨nm,hnm⟩:∃x,x=(sl1 F (natP gs) k).1:=⟨_,rfl⟩
     obtain ⟨kp,hkp⟩:∃x,x=(sl1 F (natP gs) k).2:=⟨_,rfl⟩
     rw [show sl1 F (natP gs) k=(nm,kp) by rw [hnm,hkp]] at hnext;rw [←hnm] at I hnl sm1 sm2;rw [←hkp] at I hkl;obtain ⟨gn,capn,rfl,hBg,hgl,hcN⟩:=I.names (fun e=>by rw [e] at hnl;simp at hnl;omega);obtain ⟨x1,hX1⟩:∃x,x=putS nm a:=⟨_,rfl⟩
     obtain ⟨x2,hX2⟩:∃x,x=putS nm c:=⟨_,rfl⟩
     have p1:x1<1000:=(by rw [hX1];exact sm2 a f3)
     have p2:x2<1000:=(by rw [hX2];exact sm2 c f4)
     have oA:∀W,Below wr.heap.size wr W→Calls Tryz.prog 56 #[.slice (some ⟨gn,0,none⟩) nm.length capn,.int .i64 (a:Int)] W fun e w'=>e=.returned (.int .i64 (x1:Int))∧w'=W:=fun W hW=>by
      rw [hX1]
      exact kT a gn 0 nm.length capn nm W (by omega) (by omega) rfl sm1 (fun j hj=>(hW.cell (p:=⟨gn,_,none⟩) hgl).trans (hcN j hj))
     have oC:∀W,Below wr.heap.size wr W→Calls Tryz.prog 56 #[.slice (some ⟨gn,0,none⟩) nm.length capn,.int .i64 (c:Int)] W fun e w'=>e=.returned (.int .i64 (x2:Int))∧w'=W:=fun W hW=>by
      rw [hX2]
      exact kT c gn 0 nm.length capn nm W (by omega) (by omega) rfl sm1 (fun j hj=>(hW.cell (p:=⟨gn,_,none⟩) hgl).trans (hcN j hj))
     have hpG:putG nm (a,c)=(min x1 x2,max x1 x2):=(by unfold putG;rw [hX1,hX2])
     have NX:=aE hnext;have PG:=aE hpG;have OA:=aE oA;have OC:=aE oC;have NL:=aE hnl;have hkl30:kp.length≤30:=(by omega)
     have hnl50:nm.length≤50:=(by omega)
     have hkI:(k:Int)<(gs.length:Int):=(by omega)
     have hk0:(0:Int)≤(k:Int):=(by omega)
     have yb:bl<wr.heap.size:=Nat.lt_of_lt_of_le hlt bel.size;have hwsz:=bel.size;have hbs:=I.bs;have hCw:w.heap.size<wr.heap.size:=(by omega)
     have cG:=cG0;clear hA hC hgk hnext hnl hnm hkp hpG f1 f2 f3 f4 sm1 sm2 hx1' hx2' hcG hcN hkl cG0 hX1 hX2 oA oC
     go_upto_region 14 with fail
     go_cut [10] (fun p wy=>p=.pointer (some ⟨wr.heap.size,0,none⟩)∧wy.heap[wr.heap.size]?=some (.cells #[.int .i64 (x1:Int),.int .i64 (x2:Int)] 56 (0,0))∧Below wr.heap.size wr wy)
     case first =>
      have b80:Below wr.heap.size wr wr.drew:=(Below.refl _ wr).drew;have b81:Below wr.heap.size wr (wr.alloc (.cells #[.int .i64 0,.int .i64 0] 56)).drew:=((Below.refl _ wr).alloc (Nat.le_refl _) _).drew;have b82:Below wr.heap.size wr (wr.alloc (.cells #[.int .i64 (x1:Int),.int .i64 (x2:Int)] 56)).drew:=((Below.refl _ wr).alloc (Nat.le_refl _) _).drew;have held:∀W,Below wr.heap.size wr W→(fun w':World=>w'.cell? ⟨w.heap.size,2,none⟩=some (.slice (some ⟨bl,ol,none⟩) gs.length gc)∧w'.cell? ⟨bl,ol+k*2,none⟩=some (.int .i64 (a:Int))∧w'.cell? ⟨bl,ol+k*2+1,none⟩=some (.int .i64 (c:Int))) W:=fun W hW=>⟨(hW.cell (p:=⟨w.heap.size,2,none⟩) hCw).trans cG,(hW.cell (p:=⟨bl,ol+k*2,none⟩) yb).trans hx1,(hW.cell (p:=⟨bl,ol+k*2+1,none⟩) yb).trans hx2⟩
      have yE:(wr.alloc (.cells #[.int .i64 (x1:Int),.int .i64 (x2:Int)] 56)).drew.heap[wr.heap.size]?=some (.cells #[.int .i64 (x1:Int),.int .i64 (x2:Int)] 56 (0,0)):=heap_alloc_new _ _;refine wp_region_noPanic ?_;refine wp_region_any (by kernel_rfl) ?_;simp only [List.size_toArray,List.length_cons,List.length_nil,Nat.zero_add,Nat.reduceAdd];refine wpAny_of_held (S:=fun w'=>w'.cell? ⟨w.heap.size,2,none⟩=some (.slice (some ⟨bl,ol,none⟩) gs.length gc)∧w'.cell? ⟨bl,ol+k*2,none⟩=some (.int .i64 (a:Int))∧w'.cell? ⟨bl,ol+k*2+1,none⟩=some (.int .i64 (c:Int))) _ _ _ _ ?_;have hHeld:(fun w':World=>w'.cell? ⟨w.heap.size,2,none⟩=some (.slice (some ⟨bl,ol,none⟩) gs.length gc)∧w'.cell? ⟨bl,ol+k*2,none⟩=some (.int .i64 (a:Int))∧w'.cell? ⟨bl,ol+k*2+1,none⟩=some (.int .i64 (c:Int))) wr.drew:=⟨cG,hx1,hx2⟩
      refine tkH (i:=0) (v:=?_) (hS:=hHeld) (hy:=Or.inl ⟨by rfl,?_⟩) (h:=?_)
      rotate_left 1
      ·(intro w0 hSw;(try dsimp only at hSw);go_simp;try (with_reducible rfl))
      simp only [Act.put,sSet];refine tkH (i:=1) (v:=?_) (hS:=hHeld) (hy:=Or.inl ⟨by rfl,?_⟩) (h:=?_)
      rotate_left 1
      ·(intro w0 hSw;(try dsimp only at hSw);go_simp;try (with_reducible rfl))
      simp only [Act.put,sSet];refine tkH (i:=2) (v:=?_) (hS:=hHeld) (hy:=Or.inl ⟨by rfl,?_⟩) (h:=?_)
      rotate_left 1
      ·(intro w0 hSw;(try dsimp only at hSw);go_simp;try (with_reducible rfl))
      simp only [Act.put,sSet];refine tkH (i:=3) (v:=?_) (hS:=hHeld) (hy:=Or.inl ⟨by rfl,?_⟩) (h:=?_)
      rotate_left 1
      ·(intro w0 hSw;(try dsimp only at hSw);go_simp;try (with_reducible rfl))
      simp only [Act.put,sSet];refine tkH (i:=4) (v:=?_) (hS:=hHeld) (hy:=Or.inl ⟨by rfl,?_⟩) (h:=?_)
      rotate_left 1
      ·(intro w0 hSw;(try dsimp only at hSw);go_simp;try (with_reducible rfl))
      simp only [Act.put,sSet];refine tkH (i:=5) (v:=?_) (hS:=hHeld) (hy:=Or.inl ⟨by rfl,?_⟩) (h:=?_)
      rotate_left 1
      ·(intro w0 hSw;(try dsimp only at hSw);go_simp;try (with_reducible rfl))
      simp only [Act.put,sSet];refine tkH (i:=6) (v:=?_) (hS:=hHeld) (hy:=Or.inl ⟨by rfl,?_⟩) (h:=?_)
      rotate_left 1
      ·(intro w0 hSw;(try dsimp only at hSw);go_simp;try (with_reducible rfl))
      simp only [Act.put,sSet];refine tkH (i:=8) (v:=?_) (hS:=hHeld) (hy:=Or.inl ⟨by rfl,?_⟩) (h:=?_)
      rotate_left 1
      ·(intro w0 hSw;(try dsimp only at hSw);go_simp;try (with_reducible rfl))
      simp only [Act.put,sSet];refine tkH (i:=9) (v:=?_) (hS:=hHeld) (hy:=Or.inl ⟨by rfl,?_⟩) (h:=?_)
      rotate_left 1
      ·(intro w0 hSw;(try dsimp only at hSw);go_simp;try (with_reducible rfl))
      simp only [Act.put,sSet];refine tkH (i:=10) (v:=?_) (hS:=hHeld) (hy:=Or.inl ⟨by rfl,?_⟩) (h:=?_)
      rotate_left 1
      ·(intro w0 hSw;(try dsimp only at hSw);go_simp;try (with_reducible rfl))
      simp only [Act.put,sSet];refine tkH (i:=11) (v:=?_) (hS:=hHeld) (hy:=Or.inl ⟨by rfl,?_⟩) (h:=?_)
      rotate_left 1
      ·(intro w0 hSw;(try dsimp only at hSw);go_simp;try (with_reducible rfl))
      simp only [Act.put,sSet];refine tkH (i:=12) (v:=?_) (hS:=hHeld) (hy:=Or.inl ⟨by rfl,?_⟩) (h:=?_)
      rotate_left 1
      ·(intro w0 hSw;(try dsimp only at hSw);go_simp;try (with_reducible rfl))
      simp only [Act.put,sSet];refine tkH (i:=13) (v:=?_) (hS:=hHeld) (hy:=Or.inl ⟨by rfl,?_⟩) (h:=?_)
      rotate_left 1
      ·(intro w0 hSw;(try dsimp only at hSw);go_simp;try (with_reducible rfl))
      simp only [Act.put,sSet];refine tkH (i:=14) (v:=?_) (hS:=hHeld) (hy:=Or.inl ⟨by rfl,?_⟩) (h:=?_)
      rotate_left 1
      ·(intro w0 hSw;(try dsimp only at hSw);go_simp;try (with_reducible rfl))
      simp only [Act.put,sSet];refine wpAnyH_ready (rs:=[7,17]) (by kernel_rfl) (by simp) (AllReadyH.cons (by simp only [List.getElem?_toArray,List.getElem?_cons_succ,List.getElem?_cons_zero];rfl) (fun K hK=>?_) (AllReadyH.cons (by simp only [List.getElem?_toArray,List.getElem?_cons_succ,List.getElem?_cons_zero];rfl) (fun K hK=>?_) AllReadyH.nil))
      ·go_simp
       refine (OA.out _ b80).mono ?_;rintro e w' ⟨rfl,e9⟩;obtain rfl:=e9.symm;dsimp only;refine hK.out _ _ ?_ (fun hHeld=>?_)
       ·exact hHeld
       clear hK K
       try simp only [Act.put,sSet]
       refine wpAnyH_ready (rs:=[15,17]) (by kernel_rfl) (by simp) (AllReadyH.cons (by simp only [List.getElem?_toArray,List.getElem?_cons_succ,List.getElem?_cons_zero];rfl) (fun K hK=>?_) (AllReadyH.cons (by simp only [List.getElem?_toArray,List.getElem?_cons_succ,List.getElem?_cons_zero];rfl) (fun K hK=>?_) AllReadyH.nil))
       ·go_simp
        refine (OC.out _ b80).mono ?_;rintro e w' ⟨rfl,e9⟩;obtain rfl:=e9.symm;dsimp only;refine hK.out _ _ ?_ (fun hHeld=>?_)
        ·exact hHeld
        clear hK K
        try simp only [Act.put,sSet]
        refine tkH (i:=16) (v:=?_) (hS:=hHeld) (hy:=Or.inl ⟨by rfl,?_⟩) (h:=?_)
        rotate_left 1
        ·(intro w0 hSw;(try dsimp only at hSw);go_simp;try (with_reducible rfl))
        simp only [Act.put,sSet];refine wpAnyH_ready (rs:=[17]) (by kernel_rfl) (by simp) (AllReadyH.cons (by simp only [List.getElem?_toArray,List.getElem?_cons_succ,List.getElem?_cons_zero];rfl) (fun K hK=>?_) AllReadyH.nil);go_simp;refine hK.out _ _ (held _ b81) (fun hHeld=>?_);clear hK K
        try simp only [Act.put,sSet]
        refine wpAnyH_ready (rs:=[18]) (by kernel_rfl) (by simp) (AllReadyH.cons (by simp only [List.getElem?_toArray,List.getElem?_cons_succ,List.getElem?_cons_zero];rfl) (fun K hK=>?_) AllReadyH.nil);go_simp;refine hK.out _ _ (held _ b82) (fun hHeld=>?_);clear hK K;refine wpAnyH_done (by kernel_rfl) ?_ _;refine NoPanic.normal ?_;clear hHeld;go_wp2
        go_meet
        case rel=>exact ⟨rfl,yE,b82⟩
       ·go_simp
        refine hK.out _ _ (held _ b81) (fun hHeld=>?_);clear hK K
        try simp only [Act.put,sSet]
        refine wpAnyH_ready (rs:=[15]) (by kernel_rfl) (by simp) (AllReadyH.cons (by simp only [List.getElem?_toArray,List.getElem?_cons_succ,List.getElem?_cons_zero];rfl) (fun K hK=>?_) AllReadyH.nil);go_simp;refine (OC.out _ b81).mono ?_;rintro e w' ⟨rfl,e9⟩;obtain rfl:=e9.symm;dsimp only;refine hK.out _ _ ?_ (fun hHeld=>?_)
        ·exact hHeld
        clear hK K
        try simp only [Act.put,sSet]
        refine tkH (i:=16) (v:=?_) (hS:=hHeld) (hy:=Or.inl ⟨by rfl,?_⟩) (h:=?_)
        rotate_left 1
        ·(intro w0 hSw;(try dsimp only at hSw);go_simp;try (with_reducible rfl))
        simp only [Act.put,sSet];refine wpAnyH_ready (rs:=[18]) (by kernel_rfl) (by simp) (AllReadyH.cons (by simp only [List.getElem?_toArray,List.getElem?_cons_succ,List.getElem?_cons_zero];rfl) (fun K hK=>?_) AllReadyH.nil);go_simp;refine hK.out _ _ (held _ b82) (fun hHeld=>?_);clear hK K;refine wpAnyH_done (by kernel_rfl) ?_ _;refine NoPanic.normal ?_;clear hHeld;go_wp2
        go_meet
        case rel=>exact ⟨rfl,yE,b82⟩
      ·go_simp
       refine hK.out _ _ (held _ b81) (fun hHeld=>?_);clear hK K
       try simp only [Act.put,sSet]
       refine wpAnyH_ready (rs:=[7]) (by kernel_rfl) (by simp) (AllReadyH.cons (by simp only [List.getElem?_toArray,List.getElem?_cons_succ,List.getElem?_cons_zero];rfl) (fun K hK=>?_) AllReadyH.nil);go_simp;refine (OA.out _ b81).mono ?_;rintro e w' ⟨rfl,e9⟩;obtain rfl:=e9.symm;dsimp only;refine hK.out _ _ ?_ (fun hHeld=>?_)
       ·exact hHeld
       clear hK K
       try simp only [Act.put,sSet]
       refine wpAnyH_ready (rs:=[15]) (by kernel_rfl) (by simp) (AllReadyH.cons (by simp only [List.getElem?_toArray,List.getElem?_cons_succ,List.getElem?_cons_zero];rfl) (fun K hK=>?_) AllReadyH.nil);go_simp;refine (OC.out _ b81).mono ?_;rintro e w' ⟨rfl,e9⟩;obtain rfl:=e9.symm;dsimp only;refine hK.out _ _ ?_ (fun hHeld=>?_)
       ·exact hHeld
       clear hK K
       try simp only [Act.put,sSet]
       refine tkH (i:=16) (v:=?_) (hS:=hHeld) (hy:=Or.inl ⟨by rfl,?_⟩) (h:=?_)
       rotate_left 1
       ·(intro w0 hSw;(try dsimp only at hSw);go_simp;try (with_reducible rfl))
       simp only [Act.put,sSet];refine wpAnyH_ready (rs:=[18]) (by kernel_rfl) (by simp) (AllReadyH.cons (by simp only [List.getElem?_toArray,List.getElem?_cons_succ,List.getElem?_cons_zero];rfl) (fun K hK=>?_) AllReadyH.nil);go_simp;refine hK.out _ _ (held _ b82) (fun hHeld=>?_);clear hK K;refine wpAnyH_done (by kernel_rfl) ?_ _;refine NoPanic.normal ?_;clear hHeld;go_wp2
       go_meet
       case rel=>exact ⟨rfl,yE,b82⟩
     case rest =>
      obtain ⟨rfl,bx6,b6⟩:=hcut;obtain ⟨w6,rfl⟩:∃w6,w6=wc:=⟨_,rfl⟩
      have s6:wr.heap.size<w6.heap.size:=(Array.getElem?_eq_some_iff.1 bx6).1;clear cG hx1 hx2 OA OC;have q0:w6.cell? ⟨wr.heap.size,0,none⟩=some (.int .i64 (x1:Int)):=(by rw [cell_of_row _ _ _ _ _ _ bx6];rfl)
      have q1:w6.cell? ⟨wr.heap.size,1,none⟩=some (.int .i64 (x2:Int)):=(by rw [cell_of_row _ _ _ _ _ _ bx6];rfl)
      have g0:w6.frozen? ⟨wr.heap.size,0,none⟩=false:=frozen_of_row _ _ _ _ _ bx6;have g1:w6.frozen? ⟨wr.heap.size,1,none⟩=false:=frozen_of_row _ _ _ _ _ bx6
      go_upto_if 66 with fail
      go_cut [10] (fun p wy=>p=.pointer (some ⟨wr.heap.size,0,none⟩)∧wy.heap[wr.heap.size]?=some (.cells #[.int .i64 ((min x1 x2:Nat):Int),.int .i64 ((max x1 x2:Nat):Int)] 56 (0,0))∧Below wr.heap.size wr wy)
      case first =>
       by_cases hgt:x2<x1
       ·have hI:(x2:Int)<(x1:Int):=by omega
        have R1:=aE (show min x1 x2=x2 by omega);have R2:=aE (show max x1 x2=x1 by omega);clear hgt;go_wp2
        go_meet
        case rel=>rw [R1.out,R2.out];exact ⟨rfl,aM (aM bx6 0 _) 1 _,(b6.setCell (p:=⟨wr.heap.size,0,none⟩) (Nat.le_refl _) _).setCell (p:=⟨wr.heap.size,1,none⟩) (Nat.le_refl _) _⟩
       ·have hI:¬(x2:Int)<(x1:Int):=by omega
        have R1:=aE (show min x1 x2=x1 by omega);have R2:=aE (show max x1 x2=x2 by omega);clear hgt;go_wp2
        go_meet
        case rel=>rw [R1.out,R2.out];exact ⟨rfl,bx6,b6⟩
      case rest =>
       obtain ⟨rfl,bx7,b7⟩:=hcut;obtain ⟨w7,rfl⟩:∃w7,w7=wc:=⟨_,rfl⟩
       clear bx6 b6 s6 q0 q1 g0 g1;obtain ⟨x,hx⟩:∃x,x=min x1 x2:=⟨_,rfl⟩
       obtain ⟨y,hy⟩:∃y,y=max x1 x2:=⟨_,rfl⟩
       rw [←hx,←hy] at bx7;have x1000:x<1000:=(by omega)
       have y1000:y<1000:=(by omega)
       have NX2:Hid (sl1 F (natP gs) (k+1)=if x=0 then (nm++[0],kp) else if x=1 then (nm++[y],kp) else if x=y then (nm++[x],kp) else if x / 2=y / 2 then (nm++[0],kp) else if (x,y)∈kp then (nm++[2*(F+kp.idxOf (x,y))],kp) else (nm++[2*(F+kp.length)],kp++[(x,y)])):=by
        show _=_
        rw [NX.out,jX];simp only [PG.out,←hx,←hy]
       clear hx hy p1 p2 PG NX;have s7:wr.heap.size<w7.heap.size:=(Array.getElem?_eq_some_iff.1 bx7).1;have I7:=I.below b7;obtain ⟨ka,kc,hkv,pK⟩:=iM I7.ownK (fZ kp).symm;rw [fZ] at hkv;subst hkv;have q0:w7.cell? ⟨wr.heap.size,0,none⟩=some (.int .i64 (x:Int)):=(by rw [cell_of_row _ _ _ _ _ _ bx7];rfl)
       have q1:w7.cell? ⟨wr.heap.size,1,none⟩=some (.int .i64 (y:Int)):=(by rw [cell_of_row _ _ _ _ _ _ bx7];rfl)
       have call:=aGD kp x y ka kc kp.length w7 rfl (by omega) pK;clear pK I7
       go_wp2_with fail
       refine call.mono ?_;rintro e w8 ⟨rfl,b8⟩;have bx8:=(b8.block wr.heap.size s7).trans bx7;have b78:Below wr.heap.size wr w8:=b7.trans (b8.mono b7.size);have B8:Below w.heap.size w w8:=bel.trans (b78.mono bel.size);have I8:=I.below b78;have bC8:=(b78.block w.heap.size hCw).trans bC;have bR8:=(b78.block (w.heap.size+1) (by omega)).trans bR;have s8:wr.heap.size<w8.heap.size:=Nat.lt_of_lt_of_le s7 b8.size;clear q0 q1 call bx7;have q0:w8.cell? ⟨wr.heap.size,0,none⟩=some (.int .i64 (x:Int)):=(by rw [cell_of_row _ _ _ _ _ _ bx8];rfl)
       have q1:w8.cell? ⟨wr.heap.size,1,none⟩=some (.int .i64 (y:Int)):=(by rw [cell_of_row _ _ _ _ _ _ bx8];rfl)
       obtain ⟨old,hold⟩:∃o,o=oP kp (x,y):=⟨_,rfl⟩
       rw [←hold];have HOLD:=aE hold;clear hold
       by_cases e0:x=0
       ·have NX1:Hid (sl1 F (natP gs) (k+1)=(nm++[0],kp)):=by show _=_;rw [NX2.out,if_pos e0]
        have t0:((x:Int)==0)=true:=(by simp;omega)
        clear e0;have own5:=I8.ownN.alloc (.cells #[.int .i64 0] 3)
        go_wp2_with (at_builtin;refine wpList_append_lies _ rfl (.tmp 91) (.tmp 92) 32 rfl (w.heap.size+2) 3 iO (.int .i64 0) 1 8 Tryz.underlying32 hiO zO0 zO1 zO2 rfl (by omega) _ _ _ rfl own5 ⟨w8.heap.size,0,none⟩ 1 1 [.int .i64 0] rfl rfl (cell_one_new _ _ _) (by simp;rfl) (by omega) (by unfold maxLen;omega) (by omega) (by simp;omega) _ rfl ?_)
        intro g' cap' w1 hown1 hgrow hat1 hlt1;have G9:Grew _ w1 _ g':=⟨hgrow,hat1.imp id (fun e=>by rw [World.size_alloc];exact e)⟩
        have X9:=aE ((I8.alloc (.cells #[.int .i64 0] 3)).addN (x:=0) hown1 G9);have B9:Below w.heap.size w w1:=(B8.alloc B8.size _).grown hgrow (by simp;omega) (fun q hq=>by have:=(I8.ownN.lt q hq).1;omega);have C9:=aE ((G9.blk w.heap.size (by simp;omega) (fun e=>by have:=(I8.ownN.lt _ e).1;omega)).trans (aA bC8));have A9:=aE ((G9.blk (w.heap.size+1) (by simp;omega) (fun e=>by have:=(I8.ownN.lt _ e).1;omega)).trans (aA bR8));clear hgrow hown1 G9 hat1 hlt1 own5;go_wp2
        go_roundw
        case rel=>exact ⟨k+1,by omega,by go_num,by rw [NX1.out];exact X9.out,C9.out,A9.out,B9⟩
        case measure=>simp [intOf];omega
       ·have t0:((x:Int)==0)=false:=by simp;omega
        by_cases e1:x=1
        ·have NX1:Hid (sl1 F (natP gs) (k+1)=(nm++[y],kp)):=by show _=_;rw [NX2.out,if_neg e0,if_pos e1]
         have t1:((x:Int)==1)=true:=(by simp;omega)
         clear e0 e1;have own5:=I8.ownN.alloc (.cells #[.int .i64 (y:Int)] 3)
         go_wp2_with (at_builtin;refine wpList_append_lies _ rfl (.tmp 98) (.tmp 101) 32 rfl (w.heap.size+2) 3 iO (.int .i64 0) 1 8 Tryz.underlying32 hiO zO0 zO1 zO2 rfl (by omega) _ _ _ rfl own5 ⟨w8.heap.size,0,none⟩ 1 1 [.int .i64 (y:Int)] rfl rfl (cell_one_new _ _ _) (by simp;rfl) (by omega) (by unfold maxLen;omega) (by omega) (by simp;omega) _ rfl ?_)
         intro g' cap' w1 hown1 hgrow hat1 hlt1;have G9:Grew _ w1 _ g':=⟨hgrow,hat1.imp id (fun e=>by rw [World.size_alloc];exact e)⟩
         have X9:=aE ((I8.alloc (.cells #[.int .i64 (y:Int)] 3)).addN (x:=y) hown1 G9);have B9:Below w.heap.size w w1:=(B8.alloc B8.size _).grown hgrow (by simp;omega) (fun q hq=>by have:=(I8.ownN.lt q hq).1;omega);have C9:=aE ((G9.blk w.heap.size (by simp;omega) (fun e=>by have:=(I8.ownN.lt _ e).1;omega)).trans (aA bC8));have A9:=aE ((G9.blk (w.heap.size+1) (by simp;omega) (fun e=>by have:=(I8.ownN.lt _ e).1;omega)).trans (aA bR8));clear hgrow hown1 G9 hat1 hlt1 own5;go_wp2
         go_roundw
         case rel=>exact ⟨k+1,by omega,by go_num,by rw [NX1.out];exact X9.out,C9.out,A9.out,B9⟩
         case measure=>simp [intOf];omega
        ·have t1:((x:Int)==1)=false:=by simp;omega
         by_cases e2:x=y
         ·have NX1:Hid (sl1 F (natP gs) (k+1)=(nm++[x],kp)):=by show _=_;rw [NX2.out,if_neg e0,if_neg e1,if_pos e2]
          have t2:((x:Int)==(y:Int))=true:=(by simp;omega)
          clear e0 e1 e2;have own5:=I8.ownN.alloc (.cells #[.int .i64 (x:Int)] 3)
          go_wp2_with (at_builtin;refine wpList_append_lies _ rfl (.tmp 109) (.tmp 112) 32 rfl (w.heap.size+2) 3 iO (.int .i64 0) 1 8 Tryz.underlying32 hiO zO0 zO1 zO2 rfl (by omega) _ _ _ rfl own5 ⟨w8.heap.size,0,none⟩ 1 1 [.int .i64 (x:Int)] rfl rfl (cell_one_new _ _ _) (by simp;rfl) (by omega) (by unfold maxLen;omega) (by omega) (by simp;omega) _ rfl ?_)
          intro g' cap' w1 hown1 hgrow hat1 hlt1;have G9:Grew _ w1 _ g':=⟨hgrow,hat1.imp id (fun e=>by rw [World.size_alloc];exact e)⟩
          have X9:=aE ((I8.alloc (.cells #[.int .i64 (x:Int)] 3)).addN (x:=x) hown1 G9);have B9:Below w.heap.size w w1:=(B8.alloc B8.size _).grown hgrow (by simp;omega) (fun q hq=>by have:=(I8.ownN.lt q hq).1;omega);have C9:=aE ((G9.blk w.heap.size (by simp;omega) (fun e=>by have:=(I8.ownN.lt _ e).1;omega)).trans (aA bC8));have A9:=aE ((G9.blk (w.heap.size+1) (by simp;omega) (fun e=>by have:=(I8.ownN.lt _ e).1;omega)).trans (aA bR8));clear hgrow hown1 G9 hat1 hlt1 own5;go_wp2
          go_roundw
          case rel=>exact ⟨k+1,by omega,by go_num,by rw [NX1.out];exact X9.out,C9.out,A9.out,B9⟩
          case measure=>simp [intOf];omega
         ·have t2:((x:Int)==(y:Int))=false:=by simp;omega
          by_cases e3:x / 2=y / 2
          ·have NX1:Hid (sl1 F (natP gs) (k+1)=(nm++[0],kp)):=by show _=_;rw [NX2.out,if_neg e0,if_neg e1,if_neg e2,if_pos e3]
           have t3:((x:Int) / 2==(y:Int) / 2)=true:=(by simp;omega)
           clear e0 e1 e2 e3;have own5:=I8.ownN.alloc (.cells #[.int .i64 0] 3)
           go_wp2_with (at_builtin;refine wpList_append_lies _ rfl (.tmp 122) (.tmp 123) 32 rfl (w.heap.size+2) 3 iO (.int .i64 0) 1 8 Tryz.underlying32 hiO zO0 zO1 zO2 rfl (by omega) _ _ _ rfl own5 ⟨w8.heap.size,0,none⟩ 1 1 [.int .i64 0] rfl rfl (cell_one_new _ _ _) (by simp;rfl) (by omega) (by unfold maxLen;omega) (by omega) (by simp;omega) _ rfl ?_)
           intro g' cap' w1 hown1 hgrow hat1 hlt1;have G9:Grew _ w1 _ g':=⟨hgrow,hat1.imp id (fun e=>by rw [World.size_alloc];exact e)⟩
           have X9:=aE ((I8.alloc (.cells #[.int .i64 0] 3)).addN (x:=0) hown1 G9);have B9:Below w.heap.size w w1:=(B8.alloc B8.size _).grown hgrow (by simp;omega) (fun q hq=>by have:=(I8.ownN.lt q hq).1;omega);have C9:=aE ((G9.blk w.heap.size (by simp;omega) (fun e=>by have:=(I8.ownN.lt _ e).1;omega)).trans (aA bC8));have A9:=aE ((G9.blk (w.heap.size+1) (by simp;omega) (fun e=>by have:=(I8.ownN.lt _ e).1;omega)).trans (aA bR8));clear hgrow hown1 G9 hat1 hlt1 own5;go_wp2
           go_roundw
           case rel=>exact ⟨k+1,by omega,by go_num,by rw [NX1.out];exact X9.out,C9.out,A9.out,B9⟩
           case measure=>simp [intOf];omega
          ·have t3:((x:Int) / 2==(y:Int) / 2)=false:=by simp;omega
           by_cases e4:(x,y)∈kp
           ·obtain ⟨i,hi⟩:∃i,i=kp.idxOf (x,y):=⟨_,rfl⟩
            have hi30:i<30:=(by rw [hi];exact Nat.lt_of_lt_of_le (List.idxOf_lt_length_iff.2 e4) (by omega))
            obtain ⟨S',hS'⟩:∃s:Nat,s=2*(F+i):=⟨_,rfl⟩
            have hSI:(2:Int)*((F:Int)+(i:Int))=(S':Int):=(by omega)
            have NX1:Hid (sl1 F (natP gs) (k+1)=(nm++[S'],kp)):=(by show _=_;rw [NX2.out,if_neg e0,if_neg e1,if_neg e2,if_neg e3,if_pos e4,hS',hi])
            have ho:old=(i:Int):=(by rw [HOLD.out];unfold oP;rw [if_pos e4,hi])
            have hi0:(0:Int)≤(i:Int):=(by omega)
            subst ho;clear e0 e1 e2 e3 e4 hi hS' HOLD;have own5:=I8.ownN.alloc (.cells #[.int .i64 (S':Int)] 3)
            go_wp2_with (at_builtin;refine wpList_append_lies _ rfl (.tmp 128) (.tmp 133) 32 rfl (w.heap.size+2) 3 iO (.int .i64 0) 1 8 Tryz.underlying32 hiO zO0 zO1 zO2 rfl (by omega) _ _ _ rfl own5 ⟨w8.heap.size,0,none⟩ 1 1 [.int .i64 (S':Int)] rfl rfl (cell_one_new _ _ _) (by simp;rfl) (by omega) (by unfold maxLen;omega) (by omega) (by simp;omega) _ rfl ?_)
            intro g' cap' w1 hown1 hgrow hat1 hlt1;have G9:Grew _ w1 _ g':=⟨hgrow,hat1.imp id (fun e=>by rw [World.size_alloc];exact e)⟩
            have X9:=aE ((I8.alloc (.cells #[.int .i64 (S':Int)] 3)).addN (x:=S') hown1 G9);have B9:Below w.heap.size w w1:=(B8.alloc B8.size _).grown hgrow (by simp;omega) (fun q hq=>by have:=(I8.ownN.lt q hq).1;omega);have C9:=aE ((G9.blk w.heap.size (by simp;omega) (fun e=>by have:=(I8.ownN.lt _ e).1;omega)).trans (aA bC8));have A9:=aE ((G9.blk (w.heap.size+1) (by simp;omega) (fun e=>by have:=(I8.ownN.lt _ e).1;omega)).trans (aA bR8));clear hgrow hown1 G9 hat1 hlt1 own5;go_wp2
            go_roundw
            case rel=>exact ⟨k+1,by omega,by go_num,by rw [NX1.out];exact X9.out,C9.out,A9.out,B9⟩
            case measure=>simp [intOf];omega
           ·obtain ⟨S',hS'⟩:∃s:Nat,s=2*(F+kp.length):=⟨_,rfl⟩
            have hSI:(2:Int)*((F:Int)+(kp.length:Int))=(S':Int):=(by omega)
            have NX1:Hid (sl1 F (natP gs) (k+1)=(nm++[S'],kp++[(x,y)])):=(by show _=_;rw [NX2.out,if_neg e0,if_neg e1,if_neg e2,if_neg e3,if_neg e4,hS'])
            have ho:old=-1:=(by rw [HOLD.out];unfold oP;rw [if_neg e4])
            subst ho;clear e0 e1 e2 e3 e4 hS' HOLD;have own5:=I8.ownN.alloc (.cells #[.int .i64 (S':Int)] 3)
            go_wp2_with (at_builtin;refine wpList_append_lies _ rfl (.tmp 75) (.tmp 81) 32 rfl (w.heap.size+2) 3 iO (.int .i64 0) 1 8 Tryz.underlying32 hiO zO0 zO1 zO2 rfl (by omega) _ _ _ rfl own5 ⟨w8.heap.size,0,none⟩ 1 1 [.int .i64 (S':Int)] rfl rfl (cell_one_new _ _ _) (by simp;rfl) (by omega) (by unfold maxLen;omega) (by omega) (by simp;omega) _ rfl ?_)
            intro g' cap' w1 hown1 hgrow hat1 hlt1;have G9:Grew _ w1 _ g':=⟨hgrow,hat1.imp id (fun e=>by rw [World.size_alloc];exact e)⟩
            have X9:=aE ((I8.alloc (.cells #[.int .i64 (S':Int)] 3)).addN (x:=S') hown1 G9);have B9:Below w.heap.size w w1:=(B8.alloc B8.size _).grown hgrow (by simp;omega) (fun q hq=>by have:=(I8.ownN.lt q hq).1;omega);have C9:=aE ((G9.blk w.heap.size (by simp;omega) (fun e=>by have:=(I8.ownN.lt _ e).1;omega)).trans (aA bC8));have A9:=aE ((G9.blk (w.heap.size+1) (by simp;omega) (fun e=>by have:=(I8.ownN.lt _ e).1;omega)).trans (aA bR8));have I9:=X9.out;have bC9:=C9.out;have bR9:=A9.out;have hbs9:=I9.bs;have bx9:=(G9.blk wr.heap.size (by simp;omega) (fun e=>by have:=(I.ownN.lt _ e).2;omega)).trans (aA bx8);clear q0 q1;have q0:w1.cell? ⟨wr.heap.size,0,none⟩=some (.int .i64 (x:Int)):=(by rw [cell_of_row _ _ _ _ _ _ bx9];rfl)
            have q1:w1.cell? ⟨wr.heap.size,1,none⟩=some (.int .i64 (y:Int)):=(by rw [cell_of_row _ _ _ _ _ _ bx9];rfl)
            have own9:=I9.ownK.alloc (.cells #[.int .i64 (x:Int),.int .i64 (y:Int)] 56);have s1:w.heap.size+2≤w1.heap.size:=hbs9;clear hgrow hown1 G9 hat1 hlt1 own5 X9 C9 A9 bx9
            go_wp2_with (at_builtin;refine wpList_append_lies _ rfl (.tmp 83) (.tmp 85) 31 rfl (w.heap.size+2) 56 iG (.agg #[.int .i64 0,.int .i64 0]) 2 16 Tryz.underlying31 hiG zG0 zG1 zG2 rfl (by omega) _ _ _ rfl own9 ⟨w1.heap.size,0,none⟩ 1 1 [.int .i64 (x:Int),.int .i64 (y:Int)] rfl rfl (World.news_of_block (aB _ _ _ rfl)) (by simp [Value.oneCell']) (by omega) (by unfold maxLen;omega) (by omega) (by simp;omega) _ rfl ?_)
            intro gk capk w10 hown10 hgrow10 hat10 hlt10;have G10:Grew _ w10 _ gk:=⟨hgrow10,hat10.imp id (fun e=>by rw [World.size_alloc];exact e)⟩
            have X10:=aE ((I9.alloc (.cells #[.int .i64 (x:Int),.int .i64 (y:Int)] 56)).addK hown10 G10);have B10:Below w.heap.size w w10:=(B9.alloc B9.size _).grown hgrow10 (by simp;omega) (fun q hq=>by have:=(I9.ownK.lt q hq).1;omega);have C10:=aE ((G10.blk w.heap.size (by simp;omega) (fun e=>by have:=(I9.ownK.lt _ e).1;omega)).trans (aA bC9));have A10:=aE ((G10.blk (w.heap.size+1) (by simp;omega) (fun e=>by have:=(I9.ownK.lt _ e).1;omega)).trans (aA bR9));clear hgrow10 hat10 hlt10 hown10 G10 own9 q0 q1;go_wp2
            go_roundw
            case rel=>exact ⟨k+1,by omega,by go_num,by rw [NX1.out];exact X10.out,C10.out,A10.out,B10⟩
            case measure=>simp [intOf];omega
    ·have hkN:k=gs.length:=by omega
     have hN1:(sl1 F (natP gs) gs.length).1=slN1 n ls gs:=(by unfold slN1;rw [←HF.out])
     have hK1:(sl1 F (natP gs) gs.length).2=fJ n ls gs:=(by unfold fJ;rw [←HF.out])
     have hnl:=jV F (natP gs) gs.length;obtain ⟨sm1,_⟩:=nL HR.out (Nat.le_refl gs.length);rw [←HF.out] at sm1;rw [hkN,hN1,hK1] at I;rw [hN1] at hnl sm1;rw [hkN];clear hkN hk2 hk hN1 hK1;obtain ⟨nm,hnm⟩:∃x,x=slN1 n ls gs:=⟨_,rfl⟩
     obtain ⟨kp,hkp⟩:∃x,x=fJ n ls gs:=⟨_,rfl⟩
     rw [←hnm] at I hnl sm1;rw [←hkp] at I;have HNM:=aE hnm;have HKP:=aE hkp;clear hnm hkp;obtain ⟨gn,capn,rfl,hBg,hgl,hcN⟩:=I.names (fun e=>by rw [e] at hnl;simp at hnl;omega);obtain ⟨ka,kc,rfl⟩:=aW I.ownK;obtain ⟨wp,rfl⟩:∃wp,wp=wr:=⟨_,rfl⟩
     have hbs:=I.bs;have IZ:=aE I;have q0:wp.cell? ⟨w.heap.size,0,none⟩=some (.int .i64 n):=(by rw [cell_of_row _ _ _ _ _ _ bC];rfl)
     obtain ⟨W5,hW5⟩:∃W5,W5=wp.alloc (.cells #[.int .i64 n,.slice none 0 0,.slice none 0 0,.slice none 0 0] 34):=⟨_,rfl⟩
     have B5:Below wp.heap.size wp W5:=(by rw [hW5];exact (Below.refl _ _).alloc (Nat.le_refl _) _)
     have I5:OInv W5 wp.heap.size (wp.heap.size+1) (.int .i64 n) (.slice none 0 0) (.slice none 0 0) (.slice none 0 0) [] []:=⟨by omega,by rw [hW5];simp,by rw [hW5];exact aB _ _ _ rfl,World.ownsRow_nil _ _ _ _,World.ownsRow_nil _ _ _ _,(fun q e=>by cases e)⟩
     have hnl40:nm.length≤50:=(by omega)
     have oX:∀(x1:Nat) W,x1 / 2<nm.length→Below wp.heap.size wp W→Calls Tryz.prog 56 #[.slice (some ⟨gn,0,none⟩) nm.length capn,.int .i64 (x1:Int)] W fun e w'=>e=.returned (.int .i64 (putS nm x1:Nat))∧w'=W:=fun x1 W hx hW =>
      kT x1 gn 0 nm.length capn nm W hx (by omega) rfl sm1 (fun j hj=>(hW.cell (p:=⟨gn,_,none⟩) hgl).trans (hcN j hj))
     have HX:=aE oX;have HNL:=aE hnl;have Bp:=bel;have bCp:=aE bC;have bRp:=aE bR;clear I hnl sm1 hcN oX bel bC bR
     go_wp2_with fail
     rw [←hW5];clear hW5 q0 cG0
     go_loopw [13] (fun i wr=>∃(k:Nat) (lv:Value),k≤ls.length∧i=.int .i64 k∧OInv wr wp.heap.size (wp.heap.size+1) (.int .i64 n) (.slice none 0 0) lv (.slice none 0 0) (nmL nm ls k) []∧Below wp.heap.size wp wr) (fun i _=>ls.length - (intOf i).toNat)
     case atStart=>exact ⟨0,_,Nat.zero_le _,rfl,I5,B5⟩
     case round =>
      clear I5 B5;obtain ⟨k,lv,hk,rfl,I,bel⟩:=hrel;have bCw:=(bel.block w.heap.size (by omega)).trans bCp.out;have cL0:wr.cell? ⟨w.heap.size,1,none⟩=some (.slice la ls.length lc):=by rw [cell_of_row _ _ _ _ _ _ bCw];rfl
      by_cases hk2:k<ls.length
      ·obtain ⟨bl,ol,rfl,hlt,hcL⟩:=hL.get (by omega)
       have belw:Below w.heap.size w wr:=Bp.trans (bel.mono Bp.size);have hx1':=(belw.cell (p:=⟨bl,ol+k*2,none⟩) hlt).trans (hcL k hk2).1;have hx2:=(belw.cell (p:=⟨bl,ol+k*2+1,none⟩) hlt).trans (hcL k hk2).2;have f1:=HR.out.lat k hk2;obtain ⟨x1,hX1⟩:=Int.eq_ofNat_of_zero_le f1.1;obtain ⟨x2,hX2⟩:∃x,x=(ls.getD k (0,0)).2:=⟨_,rfl⟩
       have f2:=f1.2.1;rw [hX1,Int.toNat_natCast,←HF.out,←HNL.out] at f2;rw [hX1] at hx1';obtain ⟨p1,hp1⟩:∃p,p=putS nm x1:=⟨_,rfl⟩
       have HK:Hid (nmL nm ls (k+1)=nmL nm ls k++[((p1:Int),x2)]):=(by show _=_;rw [aCZ,hX1,←hX2,hp1,Int.toNat_natCast])
       rw [←hX2] at hx2;have hx1:wr.cell? ⟨bl,ol+k*2,none⟩=some (.int .i64 (x1:Int)):=hx1';have oX:∀W,Below wp.heap.size wp W→Calls Tryz.prog 56 #[.slice (some ⟨gn,0,none⟩) nm.length capn,.int .i64 (x1:Int)] W fun e w'=>e=.returned (.int .i64 (p1:Int))∧w'=W:=fun W hW=>by rw [hp1];exact HX.out x1 W f2 hW
       have OX:=aE oX;have cC:wr.cell? ⟨wp.heap.size,1,none⟩=some lv:=(by rw [cell_of_row _ _ _ _ _ _ I.boxC];rfl)
       have fC:wr.frozen? ⟨wp.heap.size,1,none⟩=false:=frozen_of_row _ _ _ _ _ I.boxC;have hsz:=I.bs;have y2:wp.heap.size<wr.heap.size:=(by omega)
       have yb:bl<wr.heap.size:=(by omega)
       have yC:w.heap.size<wr.heap.size:=(by omega)
       have hk0:(0:Int)≤(k:Int):=(by omega)
       have own:=I.ownL;have hkl:(k:Int)<(ls.length:Int):=(by omega)
       rw [jA] at own;clear hX1 hX2 hp1 hcL f1 f2 hx1' oX bCw belw
       go_upto_region 34 with fail
       refine wp_region_noPanic ?_;refine bO (by kernel_rfl) (by kernel_rfl) ?_;simp only [List.pop_toArray,List.dropLast_cons_cons,List.dropLast_singleton,List.size_toArray,List.length_cons,List.length_nil,Nat.zero_add,Nat.reduceAdd];refine wpAny_of_held (S:=fun w'=>w'.cell? ⟨wp.heap.size,1,none⟩=some lv∧w'.cell? ⟨w.heap.size,1,none⟩=some (.slice (some ⟨bl,ol,none⟩) ls.length lc)∧w'.cell? ⟨bl,ol+k*2,none⟩=some (.int .i64 (x1:Int))∧w'.cell? ⟨bl,ol+k*2+1,none⟩=some (.int .i64 x2)) _ _ _ _ ?_;have hHeld:(fun w':World=>w'.cell? ⟨wp.heap.size,1,none⟩=some lv∧w'.cell? ⟨w.heap.size,1,none⟩=some (.slice (some ⟨bl,ol,none⟩) ls.length lc)∧w'.cell? ⟨bl,ol+k*2,none⟩=some (.int .i64 (x1:Int))∧w'.cell? ⟨bl,ol+k*2+1,none⟩=some (.int .i64 x2)) wr.drew:=⟨cC,cL0,hx1,hx2⟩
       refine tkH (i:=0) (v:=?_) (hS:=hHeld) (hy:=Or.inl ⟨by rfl,?_⟩) (h:=?_)
       rotate_left 1
       ·(intro w0 hSw;(try dsimp only at hSw);go_simp;try (with_reducible rfl))
       simp only [Act.put,sSet];refine tkH (i:=1) (v:=?_) (hS:=hHeld) (hy:=Or.inl ⟨by rfl,?_⟩) (h:=?_)
       rotate_left 1
       ·(intro w0 hSw;(try dsimp only at hSw);go_simp;try (with_reducible rfl))
       simp only [Act.put,sSet];refine tkH (i:=2) (v:=?_) (hS:=hHeld) (hy:=Or.inl ⟨by rfl,?_⟩) (h:=?_)
       rotate_left 1
       ·(intro w0 hSw;(try dsimp only at hSw);go_simp;try (with_reducible rfl))
       simp only [Act.put,sSet];refine tkH (i:=3) (v:=?_) (hS:=hHeld) (hy:=Or.inl ⟨by rfl,?_⟩) (h:=?_)
       rotate_left 1
       ·(intro w0 hSw;(try dsimp only at hSw);go_simp;try (with_reducible rfl))
       simp only [Act.put,sSet];refine tkH (i:=4) (v:=?_) (hS:=hHeld) (hy:=Or.inl ⟨by rfl,?_⟩) (h:=?_)
       rotate_left 1
       ·(intro w0 hSw;(try dsimp only at hSw);go_simp;try (with_reducible rfl))
       simp only [Act.put,sSet];refine tkH (i:=5) (v:=?_) (hS:=hHeld) (hy:=Or.inl ⟨by rfl,?_⟩) (h:=?_)
       rotate_left 1
       ·(intro w0 hSw;(try dsimp only at hSw);go_simp;try (with_reducible rfl))
       simp only [Act.put,sSet];refine tkH (i:=6) (v:=?_) (hS:=hHeld) (hy:=Or.inl ⟨by rfl,?_⟩) (h:=?_)
       rotate_left 1
       ·(intro w0 hSw;(try dsimp only at hSw);go_simp;try (with_reducible rfl))
       simp only [Act.put,sSet];refine tkH (i:=7) (v:=?_) (hS:=hHeld) (hy:=Or.inl ⟨by rfl,?_⟩) (h:=?_)
       rotate_left 1
       ·(intro w0 hSw;(try dsimp only at hSw);go_simp;try (with_reducible rfl))
       simp only [Act.put,sSet];refine tkH (i:=8) (v:=?_) (hS:=hHeld) (hy:=Or.inl ⟨by rfl,?_⟩) (h:=?_)
       rotate_left 1
       ·(intro w0 hSw;(try dsimp only at hSw);go_simp;try (with_reducible rfl))
       simp only [Act.put,sSet];refine tkH (i:=10) (v:=?_) (hS:=hHeld) (hy:=Or.inl ⟨by rfl,?_⟩) (h:=?_)
       rotate_left 1
       ·(intro w0 hSw;(try dsimp only at hSw);go_simp;try (with_reducible rfl))
       simp only [Act.put,sSet];refine tkH (i:=11) (v:=?_) (hS:=hHeld) (hy:=Or.inl ⟨by rfl,?_⟩) (h:=?_)
       rotate_left 1
       ·(intro w0 hSw;(try dsimp only at hSw);go_simp;try (with_reducible rfl))
       simp only [Act.put,sSet];refine tkH (i:=12) (v:=?_) (hS:=hHeld) (hy:=Or.inl ⟨by rfl,?_⟩) (h:=?_)
       rotate_left 1
       ·(intro w0 hSw;(try dsimp only at hSw);go_simp;try (with_reducible rfl))
       simp only [Act.put,sSet];refine tkH (i:=13) (v:=?_) (hS:=hHeld) (hy:=Or.inl ⟨by rfl,?_⟩) (h:=?_)
       rotate_left 1
       ·(intro w0 hSw;(try dsimp only at hSw);go_simp;try (with_reducible rfl))
       simp only [Act.put,sSet];refine tkH (i:=14) (v:=?_) (hS:=hHeld) (hy:=Or.inl ⟨by rfl,?_⟩) (h:=?_)
       rotate_left 1
       ·(intro w0 hSw;(try dsimp only at hSw);go_simp;try (with_reducible rfl))
       simp only [Act.put,sSet];refine tkH (i:=15) (v:=?_) (hS:=hHeld) (hy:=Or.inl ⟨by rfl,?_⟩) (h:=?_)
       rotate_left 1
       ·(intro w0 hSw;(try dsimp only at hSw);go_simp;try (with_reducible rfl))
       simp only [Act.put,sSet];refine wpAnyH_ready (rs:=[9]) (by kernel_rfl) (by simp) (AllReadyH.cons (by simp only [List.getElem?_toArray,List.getElem?_cons_succ,List.getElem?_cons_zero];rfl) (fun K hK=>?_) AllReadyH.nil);go_simp;refine (OX.out _ (bel.trans (Below.refl _ _).drew)).mono ?_;rintro e w' ⟨rfl,e9⟩;obtain rfl:=e9.symm;dsimp only;refine hK.out _ _ ?_ (fun hHeld=>?_)
       ·exact hHeld
       clear hK K
       try simp only [Act.put,sSet]
       refine tkH (i:=16) (v:=?_) (hS:=hHeld) (hy:=Or.inl ⟨by rfl,?_⟩) (h:=?_)
       rotate_left 1
       ·(intro w0 hSw;(try dsimp only at hSw);go_simp;try (with_reducible rfl))
       simp only [Act.put,sSet];refine wpAnyH_ready (rs:=[17]) (by kernel_rfl) (by simp) (AllReadyH.cons (by simp only [List.getElem?_toArray,List.getElem?_cons_succ,List.getElem?_cons_zero];rfl) (fun K hK=>?_) AllReadyH.nil);go_simp;refine hK.out _ _ ?_ (fun hHeld=>?_)
       ·simp [go_sem,World.cell?_alloc_past,y2,yC,yb,cC,cL0,hx1,hx2]
       clear hK K
       try simp only [Act.put,sSet]
       refine wpAnyH_ready (rs:=[18]) (by kernel_rfl) (by simp) (AllReadyH.cons (by simp only [List.getElem?_toArray,List.getElem?_cons_succ,List.getElem?_cons_zero];rfl) (fun K hK=>?_) AllReadyH.nil);refine step_append_lies _ (by rfl) (.tmp 146) (.tmp 162) 30 (by rfl) (wp.heap.size+1) 54 iL (.agg #[.int .i64 0,.int .i64 0]) 2 16 Tryz.underlying30 hiL zL0 zL1 zL2 rfl (by omega) lv k (flat (nmL nm ls k)) (by rfl) ((own.alloc _).drew) ⟨wr.heap.size,0,none⟩ 1 1 [.int .i64 (p1:Int),.int .i64 x2] (by rfl) rfl (aG2 _ _ _ _) (by simp [Value.oneCell']) (by omega) (by unfold maxLen;omega) (by omega) (by simp;omega) _ rfl ?_;intro g' cap' w1 hown1 hgrow hat hlt1;have G8:Grew _ w1 lv g':=⟨hgrow,hat⟩
       have hblk:∀j,j<wp.heap.size+1→w1.heap[j]?=wr.heap[j]?:=fun j hj=>(G8.blk j (by show j<(wr.heap.push _).size;simp;omega) (fun e=>by have:=(own.lt _ e).1;omega)).trans (Deep.blk_alloc_lt _ _ _ (by omega))
       have cC1:w1.cell? ⟨wp.heap.size,1,none⟩=some lv:=(World.cell?_of_block (w:=wr) (hblk wp.heap.size (by omega))).trans cC;have fC1:w1.frozen? ⟨wp.heap.size,1,none⟩=false:=(World.frozen?_of_block (w:=wr) (hblk wp.heap.size (by omega))).trans fC;refine hK.out _ _ ?_ (fun hHeld=>?_)
       ·exact ⟨cC1,(World.cell?_of_block (w:=wr) (hblk w.heap.size (by omega))).trans cL0,(World.cell?_of_block (w:=wr) (hblk bl (by omega))).trans hx1,(World.cell?_of_block (w:=wr) (hblk bl (by omega))).trans hx2⟩
       clear hK K
       try simp only [Act.put,sSet]
       refine tkH (i:=19) (v:=?_) (hS:=hHeld) (hy:=Or.inl ⟨by rfl,?_⟩) (h:=?_)
       rotate_left 1
       ·(intro w0 hSw;(try dsimp only at hSw);go_simp;try (with_reducible rfl))
       simp only [Act.put,sSet];refine wpAnyH_done (by kernel_rfl) ?_ _;refine dR (by simp only [List.size_toArray,List.length_cons,List.length_nil,Nat.zero_add,Nat.reduceAdd,Nat.reduceSub,List.getElem?_toArray,List.getElem?_cons_succ,List.getElem?_cons_zero];rfl) (fun K hK=>?_);go_simp;refine hK _ _ (NoPanic.normal ?_);clear hK K hHeld;have own1:w1.ownsRow (wp.heap.size+1) 54 2 (.slice (some ⟨g',0,none⟩) ((nmL nm ls k).length+1) cap') ((nmL nm ls k).length+1) (flat (nmL nm ls k)++ [.int .i64 (p1:Int),.int .i64 x2]):=(by rw [jA];exact hown1)
       have x8:=((I.alloc (.cells #[.int .i64 (p1:Int),.int .i64 x2] 54)).drew).addL own1 G8;rw [jA,←HK.out] at x8;have bel1:Below wp.heap.size wp w1:=bel.trans ⟨hgrow.os,hgrow.tape,hgrow.output,Nat.le_trans (by show wr.heap.size≤(wr.heap.push _).size;simp) hgrow.size,fun j hj=>hblk j (by omega)⟩;have X8:=aE x8;clear x8;go_wp2
       go_roundw
       case rel=>exact ⟨k+1,_,by omega,by go_num,X8.out,bel1.setCell (p:=⟨wp.heap.size,1,none⟩) (Nat.le_refl _) _⟩
       case measure=>simp [intOf];omega
      ·have hkN:k=ls.length:=by omega
       rw [hkN] at I;rw [hkN];clear hkN hk2 hk;have cO0:wr.cell? ⟨w.heap.size,3,none⟩=some (.slice oa os.length oc):=by rw [cell_of_row _ _ _ _ _ _ bCw];rfl
       go_wp2_with fail
       clear cO0 cL0 bCw
       go_loopw [14] (fun i wr=>∃(k:Nat) (ov:Value),k≤os.length∧i=.int .i64 k∧OInv wr wp.heap.size (wp.heap.size+1) (.int .i64 n) (.slice none 0 0) lv ov (nmL nm ls ls.length) (nmO nm os k)∧Below wp.heap.size wp wr) (fun i _=>os.length - (intOf i).toNat)
       case atStart=>exact ⟨0,_,Nat.zero_le _,rfl,I,bel⟩
       case round =>
        clear I bel;obtain ⟨k,ov,hk,rfl,I,bel⟩:=hrel;have bCw:=(bel.block w.heap.size (by omega)).trans bCp.out;have cO0:wr.cell? ⟨w.heap.size,3,none⟩=some (.slice oa os.length oc):=by rw [cell_of_row _ _ _ _ _ _ bCw];rfl
        by_cases hk2:k<os.length
        ·obtain ⟨bl,ol,rfl,hlt,hcO⟩:=hO.get (by omega)
         have belw:Below w.heap.size w wr:=Bp.trans (bel.mono Bp.size);have hx1':=(belw.cell (p:=⟨bl,ol+k,none⟩) hlt).trans (hcO k hk2);have f1:=HR.out.out k hk2;obtain ⟨x1,hX1⟩:=Int.eq_ofNat_of_zero_le f1.1;have f2:=f1.2;rw [hX1,Int.toNat_natCast,←HF.out,←HNL.out] at f2;rw [hX1] at hx1';obtain ⟨p1,hp1⟩:∃p,p=putS nm x1:=⟨_,rfl⟩
         have HK:Hid (nmO nm os (k+1)=nmO nm os k++[(p1:Int)]):=(by show _=_;rw [aD0,hX1,hp1,Int.toNat_natCast])
         have hx1:wr.cell? ⟨bl,ol+k,none⟩=some (.int .i64 (x1:Int)):=hx1';have oX:=HX.out x1 wr f2 bel;rw [←hp1] at oX;have hsz:=I.bs;have hk0:(0:Int)≤(k:Int):=(by omega)
         have hkl:(k:Int)<(os.length:Int):=(by omega)
         have own:=I.ownO.alloc (.cells #[.int .i64 (p1:Int)] 3);rw [jB] at own;have OX:=aE oX;clear hX1 hp1 hcO f1 f2 hx1' oX bCw belw
         go_wp2_with fail
         refine OX.out.mono ?_;rintro e w' ⟨rfl,e9⟩;obtain rfl:=e9.symm;have cC:wr.cell? ⟨wp.heap.size,3,none⟩=some ov:=by rw [cell_of_row _ _ _ _ _ _ I.boxC];rfl
         go_wp2_with (at_builtin;refine wpList_append_lies _ rfl (.tmp 180) (.tmp 182) 32 rfl (wp.heap.size+1) 3 iO (.int .i64 0) 1 8 Tryz.underlying32 hiO zO0 zO1 zO2 rfl (by omega) _ _ _ rfl own ⟨wr.heap.size,0,none⟩ 1 1 [.int .i64 (p1:Int)] rfl rfl (cell_one_new _ _ _) (by simp;rfl) (by omega) (by unfold maxLen;omega) (by omega) (by simp;omega) _ rfl ?_)
         intro g' cap' w1 hown1 hgrow hat hlt1;have G8:Grew _ w1 ov g':=⟨hgrow,hat.imp id (fun e=>by rw [World.size_alloc];exact e)⟩
         have hblk:∀j,j<wp.heap.size+1→w1.heap[j]?=wr.heap[j]?:=fun j hj=>(G8.blk j (by simp;omega) (fun e=>by have:=(I.ownO.lt _ e).1;omega)).trans (Deep.blk_alloc_lt _ _ _ (by omega))
         have cC1:w1.cell? ⟨wp.heap.size,3,none⟩=some ov:=(World.cell?_of_block (w:=wr) (hblk wp.heap.size (by omega))).trans cC;have fC1:w1.frozen? ⟨wp.heap.size,3,none⟩=false:=(World.frozen?_of_block (w:=wr) (hblk wp.heap.size (by omega))).trans (frozen_of_row _ _ _ _ _ I.boxC);have own1:w1.ownsRow (wp.heap.size+1) 3 1 (.slice (some ⟨g',0,none⟩) ((nmO nm os k).length+1) cap') ((nmO nm os k).length+1) (ivs (nmO nm os k)++ [.int .i64 (p1:Int)]):=(by rw [jB];exact hown1)
         have x8:=(I.alloc (.cells #[.int .i64 (p1:Int)] 3)).addO own1 G8;rw [jB,←HK.out] at x8;have bel1:Below wp.heap.size wp w1:=bel.trans ⟨hgrow.os,hgrow.tape,hgrow.output,Nat.le_trans (by simp) hgrow.size,fun j hj=>hblk j (by omega)⟩;have X8:=aE x8;clear x8 cC;go_wp2
         go_roundw
         case rel=>exact ⟨k+1,_,by omega,by go_num,X8.out,bel1.setCell (p:=⟨wp.heap.size,3,none⟩) (Nat.le_refl _) _⟩
         case measure=>simp [intOf];omega
        ·have hkN:k=os.length:=by omega
         rw [hkN] at I;rw [hkN];clear hkN hk2 hk;obtain ⟨L1,hL1⟩:∃x,x=nmL nm ls ls.length:=⟨_,rfl⟩
         obtain ⟨O1,hO1⟩:∃x,x=nmO nm os os.length:=⟨_,rfl⟩
         rw [←hL1,←hO1] at I;have lL1:L1.length=ls.length:=(by rw [hL1,jA])
         have lO1:O1.length=os.length:=(by rw [hO1,jB])
         have hr:=HR.out;have kle:kp.length≤gs.length:=(by rw [HKP.out];exact sN)
         have hok:mI F kp:=(by rw [HKP.out,HF.out];exact hr.keptOk)
         have fL:∀i,i<L1.length→0≤(L1.getD i (0,0)).1∧(L1.getD i (0,0)).1.toNat / 2<F+kp.length:=fun i hi=>by
          rw [lL1] at hi;have:=wU hr (hr.lat i hi).2.1;rw [hL1,aG4 hi,HF.out,HKP.out,HNM.out];dsimp only;rw [Int.toNat_natCast]
          exact ⟨Int.natCast_nonneg _,this⟩
         have fO:∀i,i<O1.length→0≤O1.getD i 0∧(O1.getD i 0).toNat / 2<F+kp.length:=fun i hi=>by
          rw [lO1] at hi;have:=wU hr (hr.out i hi).2;rw [hO1,aG5 hi,HF.out,HKP.out,HNM.out,Int.toNat_natCast]
          exact ⟨Int.natCast_nonneg _,this⟩
         have pK:PairsAt wr ka (z2 kp):=by
          obtain ⟨a',c',hv,pK⟩:=iM (IZ.out.below bel).ownK (fZ kp).symm;simp only [Value.slice.injEq] at hv;obtain ⟨rfl,-,-⟩:=hv
          exact pK
         obtain ⟨la2,lc2,rfl,-⟩:=iM I.ownL rfl;obtain ⟨oa2,oc2,rfl,-⟩:=wE I.ownO rfl;have call:=aEA n F (wp.heap.size+1) la2 ka oa2 lc2 kc oc2 L1 O1 kp (aET n ls gs os) wr (by omega) (by omega) (by omega) F9 F1 I.bs I.ownL I.ownO I.lo pK fL fO hok (by
          unfold aET;rw [hL1,hO1,HNM.out,aD5,HF.out,HKP.out])
         have e2:(sl2 F (aET n ls gs os) kp kp.length).1=slN2 n ls gs os:=(by rw [HF.out,HKP.out];rfl)
         have e3:(sl2 F (aET n ls gs os) kp kp.length).2=uZ n ls gs os:=(by rw [HF.out,HKP.out];rfl)
         rw [e2,e3] at call;have g1:nmL (slN2 n ls gs os) L1 L1.length=slL n ls gs os:=(by rw [hL1,HNM.out];exact aK5)
         have g2:nmO (slN2 n ls gs os) O1 O1.length=slO n ls gs os:=(by rw [hO1,HNM.out];exact aK6)
         rw [g1,g2] at call;obtain ⟨SL,hSL⟩:∃x,x=slL n ls gs os:=⟨_,rfl⟩
         obtain ⟨SG,hSG⟩:∃x,x=z2 (uZ n ls gs os):=⟨_,rfl⟩
         obtain ⟨SO,hSO⟩:∃x,x=slO n ls gs os:=⟨_,rfl⟩
         rw [←hSL,←hSG,←hSO] at call;have CALL:=aE call;have HSL:=aE hSL;have HSG:=aE hSG;have HSO:=aE hSO;obtain ⟨k0,k1,k2,k3⟩:=aK I.boxC;have bRw:=(bel.block (w.heap.size+1) (by omega)).trans bRp.out;have bw:Below w.heap.size w wr:=Bp.trans (bel.mono Bp.size);have szw:=I.bs;have IH:=aE I;clear hL1 hO1 lL1 lO1 hr kle hok fL fO pK call e2 e3 g1 g2 hSL hSG hSO bCw I
         go_wp2_with fail
         refine CALL.out.mono ?_;rintro e w1 ⟨gv,rfl,oL,oG,oO,b1⟩;have bA1:=(b1.block (w.heap.size+1) (by omega)).trans bRw;obtain ⟨u0,u1,u2,u3⟩:=aK bA1;have v0:w1.frozen? ⟨w.heap.size+1,0,none⟩=false:=frozen_of_row _ _ _ _ _ bA1;have v1:w1.frozen? ⟨w.heap.size+1,1,none⟩=false:=frozen_of_row _ _ _ _ _ bA1;have v2:w1.frozen? ⟨w.heap.size+1,2,none⟩=false:=frozen_of_row _ _ _ _ _ bA1;have v3:w1.frozen? ⟨w.heap.size+1,3,none⟩=false:=frozen_of_row _ _ _ _ _ bA1;obtain ⟨ga2,gn2,gc2,rfl⟩:=bQ oG;have bel1:Below w.heap.size w w1:=bw.trans (b1.mono (by omega));clear k0 k1 k2 k3 CALL cO0;go_wp2;refine aAB (b:=w.heap.size+1) (aS bA1 _ _ _ _) (by rfl) (by rfl) ?_;have hSG2:SG=slG n ls gs os:=HSG.out;rw [←hSG2,←HSL.out,←HSO.out]
         exact ⟨_,_,_,rfl,bG (b:=w.heap.size+1) oL (by omega) (by omega) _ _ _ _,bG (b:=w.heap.size+1) oG (by omega) (by omega) _ _ _ _,bG (b:=w.heap.size+1) oO (by omega) (by omega) _ _ _ _,
          (fun q h h'=>by have:=(IH.out.ownL.lt q h).2;have:=(oG.lt q h').1;omega),IH.out.lo,(fun q h h'=>by have:=(IH.out.ownO.lt q h').2;have:=(oG.lt q h).1;omega),aH bel1 (by omega) _ _ _ _⟩
end Go.Proofs.YtgpaajdfkekjiaaGreatDoor
