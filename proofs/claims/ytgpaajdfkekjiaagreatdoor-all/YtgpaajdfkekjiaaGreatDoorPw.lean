/-
  A part of the proof of the statement All: texts of ours, made small by program (blanks, names).
-/
import Derived.Test.YtgpaajdfkekjiaaGreatDoorPg
import Derived.Test.YtgpaajdfkekjiaaGreatDoorPt
import Derived.Test.YtgpaajdfkekjiaaGreatDoorPv
import Derived.Handy
namespace Go.Proofs.YtgpaajdfkekjiaaGreatDoor
set_option maxHeartbeats 8000000
set_option maxRecDepth 100000
open Go.RowKit
structure YInv (wr:World) (B U T:Nat) (f:Nat→Bool) (nv kv:Value) (nm:List Nat) (st:List (Nat×Nat)):Prop where
 bs:B≤wr.heap.size
 ownN:wr.ownsRow B 3 1 nv nm.length (aP nm)
 ownK:wr.ownsRow B 56 2 kv st.length (flat (z2 st))
 nk:∀q,nv.ownBlock=some q→kv.ownBlock≠some q
 row:wr.rowIs U 4 T (bvf f)
 nU:nv.ownBlock≠some U
 kU:kv.ownBlock≠some U
section
variable {wr wr':World}{B U T:Nat}{f:Nat→Bool}{nv kv:Value}{nm:List Nat}{st:List (Nat×Nat)}
theorem YInv.below (I:YInv wr B U T f nv kv nm st) (h:Below wr.heap.size wr wr'):YInv wr' B U T f nv kv nm st :=
 ⟨Nat.le_trans I.bs h.size,eD I.ownN h,eD I.ownK h,I.nk,I.row.of_block (h.block U I.row.lt),I.nU,I.kU⟩
theorem YInv.alloc (I:YInv wr B U T f nv kv nm st) (o:Obj):YInv (wr.alloc o) B U T f nv kv nm st:=I.below ((Below.refl _ _).alloc (Nat.le_refl _) _)
theorem YInv.addN (I:YInv wr B U T f nv kv nm st){g' cap' x:Nat}(own':wr'.ownsRow B 3 1 (.slice (some ⟨g',0,none⟩) (nm.length+1) cap') (nm.length+1) (aP nm++[.int .i64 (x:Int)])) (G:Grew wr wr' nv g') :
  YInv wr' B U T f (.slice (some ⟨g',0,none⟩) (nm.length+1) cap') kv (nm++[x]) st:=by
 have hM:g'≠U:=fun e=>by
  rcases G.hat with e' | e'
  ·exact I.nU (e▸e')
  ·have:=I.row.lt;omega
 refine ⟨Nat.le_trans I.bs G.grow.size,?_,dE I.ownK G (fun q e e'=>I.nk q e' e),fun q hq=>?_,I.row.of_block (G.blk U I.row.lt I.nU),fun e=>hM (by simpa [Value.ownBlock] using e),I.kU⟩
 ·rw [aZ,List.length_append];exact own'
 ·simp only [Value.ownBlock,Option.some.injEq] at hq
  subst hq
  exact apart I.ownK G (fun q e e'=>I.nk q e' e)
theorem YInv.addK (I:YInv wr B U T f nv kv nm st){g' cap':Nat}{x y:Nat}(own':wr'.ownsRow B 56 2 (.slice (some ⟨g',0,none⟩) (st.length+1) cap') (st.length+1) (flat (z2 st)++ [.int .i64 (x:Int),.int .i64 (y:Int)])) (G:Grew wr wr' kv g') :
  YInv wr' B U T f nv (.slice (some ⟨g',0,none⟩) (st.length+1) cap') nm (st++[(x,y)]):=by
 have hM:g'≠U:=fun e=>by
  rcases G.hat with e' | e'
  ·exact I.kU (e▸e')
  ·have:=I.row.lt;omega
 refine ⟨Nat.le_trans I.bs G.grow.size,dE I.ownN G I.nk,?_,fun q hq e=>?_,I.row.of_block (G.blk U I.row.lt I.kU),I.nU,fun e=>hM (by simpa [Value.ownBlock] using e)⟩
 ·have e:z2 (st++[(x,y)])=z2 st++[((x:Int),(y:Int))]:=by simp [z2]
  rw [e,fS,List.length_append];exact own'
 ·simp only [Value.ownBlock,Option.some.injEq] at e
  subst e
  exact apart I.ownN G I.nk hq
theorem YInv.names (I:YInv wr B U T f nv kv nm st) (h0:nm≠[]):∃g cap,nv=.slice (some ⟨g,0,none⟩) nm.length cap∧B≤g∧g<wr.heap.size∧∀j,j<nm.length→wr.cell? ⟨g,0+j,none⟩=some (.int .i64 ((nm.getD j 0:Nat):Int)):=by
 have o:=I.ownN
 rcases I.ownN.2 with ⟨_,h⟩ | ⟨g,cap,cur,rfl,_⟩
 ·exact absurd (List.length_eq_zero_iff.1 h) h0
 ·refine ⟨g,cap,rfl,(o.lt g rfl).1,(o.lt g rfl).2,fun j hj=>?_⟩
  rw [Nat.zero_add,o.cellAt j (by simpa [aP] using hj)]
  simp [aP,hj]
end
theorem aD8 (F:Nat) (use:Nat→Bool) (kp:List (Nat×Nat)) (k:Nat):sl2 F use kp (k+1)=if use (F+k) then ((sl2 F use kp k).1++[2*(F+(sl2 F use kp k).2.length)],(sl2 F use kp k).2++[(putS ((sl2 F use kp k).1++[2*(F+(sl2 F use kp k).2.length)]) (kp.getD k (0,0)).1,putS ((sl2 F use kp k).1++[2*(F+(sl2 F use kp k).2.length)]) (kp.getD k (0,0)).2)]) else ((sl2 F use kp k).1++[0],(sl2 F use kp k).2):=by rw [sl2]
theorem kW (F:Nat) (use:Nat→Bool) (kp:List (Nat×Nat)):∀k,∀x∈(sl2 F use kp k).1,x<2*(F+k)+1
 | 0,x,hx=>by
  simp only [sl2,idn,List.mem_map,List.mem_range] at hx;obtain ⟨a,ha,rfl⟩:=hx
  omega
 | k+1,x,hx=>by
  have hle:=jG (first:=F) (use:=use) (kept:=kp) k;rw [sl2] at hx
  split at hx
  ·rcases List.mem_append.1 hx with h | h
   ·have:=kW F use kp k x h;omega
   ·simp at h;omega
  ·rcases List.mem_append.1 hx with h | h
   ·have:=kW F use kp k x h;omega
   ·simp at h;omega
theorem aJZ {tmps:Array Value}{Q:Ending→World→Prop}{w:World}{b:Nat}{v0 v1 v2 v3:Value}(h:w.heap[b]?=some (.cells #[v0,v1,v2,v3] 34 (0,0)))
  (h6:tmps[2]?.getD undef=.pointer (some ⟨b,0,none⟩)) (hQ:Q (.returned (.agg #[v0,v1,v2,v3])) w) :
  bodyPost Tryz.prog Tryz.f81 Q Exit.ret ⟨tmps,[]⟩ w:=by
 obtain ⟨c0,c1,c2,c3⟩:=aK h
 exact bodyPost_ret (by simp [results,Tryz.results81,go_sem,h6,c0,c1,c2,c3]) rfl hQ
def aF3 (f:Nat→Bool) (T:Nat) (w:World) (e:Ending) (w':World):Prop:=∃U,e=.returned (.slice (some ⟨U,0,none⟩) T T)∧w.heap.size≤U∧w'.rowIs U 4 T (bvf f)∧Below w.heap.size w w'
theorem aH8 (n T F:Nat) (la ga oa:Option Addr) (lc gc oc:Nat) (ls gs:List (Int×Int)) (os:List Int) (kp:List (Nat×Nat)) (w:World) (h1:n≤4) (h2:ls.length≤4) (h3:gs.length≤30) (h4:os.length≤4) (hT:T=n+ls.length+gs.length+1) (hF:F=n+ls.length+1) (hz:gs=z2 kp) (hok:mI F kp)
  (fL:∀i,i<ls.length→0≤(ls.getD i (0,0)).1∧(ls.getD i (0,0)).1.toNat / 2<F+kp.length) (fO:∀i,i<os.length→0≤os.getD i 0∧(os.getD i 0).toNat / 2<F+kp.length)
  (hL:PairsAt w la ls) (hG:PairsAt w ga gs) (hO:IntsAt w oa os) :
  Calls Tryz.prog 99 #[.agg #[.int .i64 n,.slice la ls.length lc,.slice ga gs.length gc,.slice oa os.length oc]] w (aF3 (need F (ls.map (fun p=>p.1.toNat)++ os.map fun s=>s.toNat) kp kp.length) T w):=by
 have hkl:gs.length=kp.length:=by rw [hz,fZ]
 have hTF:T=F+kp.length:=by omega
 have hgz:∀i,gs.getD i (0,0)=(((kp.getD i (0,0)).1:Int),((kp.getD i (0,0)).2:Int)):=fun i=>by rw [hz,aAS]
 have hn:natP gs=kp:=by rw [hz,aKU]
 have fL':∀i,i<ls.length→0≤(ls.getD i (0,0)).1∧(ls.getD i (0,0)).1.toNat / 2<T:=fun i hi=>by have:=fL i hi;exact ⟨this.1,by omega⟩
 have fO':∀i,i<os.length→0≤os.getD i 0∧(os.getD i 0).toNat / 2<T:=fun i hi=>by have:=fO i hi;exact ⟨this.1,by omega⟩
 have fG':∀i,i<gs.length→0≤(gs.getD i (0,0)).1∧0≤(gs.getD i (0,0)).2∧(gs.getD i (0,0)).1.toNat / 2<T∧(gs.getD i (0,0)).2.toNat / 2<T:=fun i hi=>by
  rw [hgz i];have:=hok i (by omega);dsimp only;rw [Int.toNat_natCast,Int.toNat_natCast]
  exact ⟨Int.natCast_nonneg _,Int.natCast_nonneg _,by omega,by omega⟩
 refine (aJR n T F la ga oa lc gc oc ls gs os w h1 h2 h3 h4 hT hF hL hG hO fL' fO' fG').mono ?_;rintro e w' ⟨U,he,hU,hr,hb⟩;rw [hn,hkl] at hr
 exact ⟨U,he,hU,hr,hb⟩
theorem aJV (n F:Nat) (la ga oa:Option Addr) (lc gc oc:Nat) (ls gs:List (Int×Int)) (os:List Int) (kp:List (Nat×Nat)) (w:World) (h1:n≤4) (h2:ls.length≤4) (h3:gs.length≤30) (h4:os.length≤4) (hF:F=n+ls.length+1) (hz:gs=z2 kp) (hok:mI F kp)
  (fL:∀i,i<ls.length→0≤(ls.getD i (0,0)).1∧(ls.getD i (0,0)).1.toNat / 2<F+kp.length) (fO:∀i,i<os.length→0≤os.getD i 0∧(os.getD i 0).toNat / 2<F+kp.length)
  (hL:PairsAt w la ls) (hG:PairsAt w ga gs) (hO:IntsAt w oa os) :
  Calls Tryz.prog 81 #[.agg #[.int .i64 n,.slice la ls.length lc,.slice ga gs.length gc,.slice oa os.length oc]] w
   (aHI w n (nmL (sl2 F (need F (ls.map (fun p=>p.1.toNat)++ os.map fun s=>s.toNat) kp kp.length) kp kp.length).1 ls ls.length) (z2 (sl2 F (need F (ls.map (fun p=>p.1.toNat)++ os.map fun s=>s.toNat) kp kp.length) kp kp.length).2)
    (nmO (sl2 F (need F (ls.map (fun p=>p.1.toNat)++ os.map fun s=>s.toNat) kp kp.length) kp kp.length).1 os os.length)):=by
 have hkl:gs.length=kp.length:=by rw [hz,fZ]
 obtain ⟨f,hf⟩:∃f,f=need F (ls.map (fun p=>p.1.toNat)++ os.map fun s=>s.toNat) kp kp.length:=⟨_,rfl⟩
 have hcl:∀i,i<kp.length→f (F+i)=true→(f ((kp.getD i (0,0)).1 / 2)=true∧f ((kp.getD i (0,0)).2 / 2)=true):=fun i hi hu=>by rw [hf] at hu ⊢;exact aBJ hok hi hu
 have hgz:∀i,gs.getD i (0,0)=(((kp.getD i (0,0)).1:Int),((kp.getD i (0,0)).2:Int)):=fun i=>by rw [hz,aAS]
 obtain ⟨T,hT⟩:∃T,T=n+ls.length+gs.length+1:=⟨_,rfl⟩
 have hTF:T=F+kp.length:=by omega
 have uAny:∀W,Below w.heap.size w W→Calls Tryz.prog 99 #[.agg #[.int .i64 n,.slice la ls.length lc,.slice ga gs.length gc,.slice oa os.length oc]] W (aF3 f T W):=fun W hW=>by
  rw [hf]
  exact aH8 n T F la ga oa lc gc oc ls gs os kp W h1 h2 h3 h4 hT hF hz hok fL fO (hL.below hW) (hG.below hW) (hO.below hW)
 rw [←hf];have HF0:=aE hf;clear hf;obtain ⟨W2,hW2⟩:∃W2,W2=(w.alloc (.cells #[.int .i64 n,.slice la ls.length lc,.slice ga gs.length gc,.slice oa os.length oc] 34)).alloc (.cells #[.int .i64 0,.slice none 0 0,.slice none 0 0,.slice none 0 0] 34):=⟨_,rfl⟩
 have s2:W2.heap.size=w.heap.size+2:=by rw [hW2];simp
 have B2:Below w.heap.size w W2:=by rw [hW2];exact ((Below.refl _ _).alloc (Nat.le_refl _) _).alloc (by simp) _
 have bC2:W2.heap[w.heap.size]?=some (.cells #[.int .i64 n,.slice la ls.length lc,.slice ga gs.length gc,.slice oa os.length oc] 34 (0,0)):=by rw [hW2];exact aA (aB _ _ _ rfl)
 have bA2:W2.heap[w.heap.size+1]?=some (.cells #[.int .i64 0,.slice none 0 0,.slice none 0 0,.slice none 0 0] 34 (0,0)):=by rw [hW2];exact aB _ _ _ (by simp)
 obtain ⟨iG,hiG,zG0,zG1,zG2⟩:=info_parts Tryz.infoGS;obtain ⟨iO,hiO,zO0,zO1,zO2⟩:=info_parts Tryz.infoInt;obtain ⟨q0,q1,q2,q3⟩:W2.cell? ⟨w.heap.size,0,none⟩=some (.int .i64 n)∧W2.cell? ⟨w.heap.size,1,none⟩=some (.slice la ls.length lc)∧W2.cell? ⟨w.heap.size,2,none⟩=some (.slice ga gs.length gc)∧W2.cell? ⟨w.heap.size,3,none⟩=some (.slice oa os.length oc):=by
  refine ⟨?_,?_,?_,?_⟩<;> (rw [cell_of_row _ _ _ _ _ _ bC2];rfl)
 have hF1:F=1+n+ls.length:=by omega
 have F1:1≤F:=by omega
 have F9:F≤9:=by omega
 have HF:=aE hF;have HF1:=aE hF1;have HKL:=aE hkl;have HTF:=aE hTF;have HOK:=aE hok;have HCL:=aE hcl;have HGZ:=aE hgz;have FL:=aE fL;have FO:=aE fO;have S2:=aE s2;clear hF hF1 hkl hTF hok hcl hgz hz hT fL fO
 go_enter Tryz.func81,Tryz.ntmps81
 go_upto_region 1 with fail
 rw [←hW2];clear hW2
 go_wp2_with fail
 refine (zJ n ls.length F la lc _ _ W2 h1 h2 HF1.out).mono ?_;rintro e W3 ⟨v,rfl,own3,b3⟩;have B3:Below w.heap.size w W3:=B2.trans (b3.mono B2.size);have bC3:=(b3.block w.heap.size (by omega)).trans bC2;have bA3:=(b3.block (w.heap.size+1) (by omega)).trans bA2;clear bC2 bA2 q0 q1 q2 q3
 rcases own3.2 with ⟨_,hz⟩ | ⟨g,cap,cur,rfl,_⟩
 ·omega
 obtain ⟨q0,q1,q2,q3⟩:W3.cell? ⟨w.heap.size,0,none⟩=some (.int .i64 n)∧W3.cell? ⟨w.heap.size,1,none⟩=some (.slice la ls.length lc)∧W3.cell? ⟨w.heap.size,2,none⟩=some (.slice ga gs.length gc)∧W3.cell? ⟨w.heap.size,3,none⟩=some (.slice oa os.length oc):=by
  refine ⟨?_,?_,?_,?_⟩<;> (rw [cell_of_row _ _ _ _ _ _ bC3];rfl)
 have s3:=b3.size
 go_wp2_with fail
 refine (uAny W3 B3).mono ?_;rintro e W4 ⟨U,rfl,hU3,row4,b4⟩;have B4:Below w.heap.size w W4:=B3.trans (b4.mono B3.size);have bC4:=(b4.block w.heap.size (by omega)).trans bC3;have bA4:=(b4.block (w.heap.size+1) (by omega)).trans bA3;clear q0 q1 q2 q3;have q2:W4.cell? ⟨w.heap.size,2,none⟩=some (.slice ga gs.length gc):=by rw [cell_of_row _ _ _ _ _ _ bC4];rfl
 have I4:YInv W4 (w.heap.size+2) U T f (.slice (some ⟨g,0,none⟩) F cap) (.slice none 0 0) (sl2 F f kp 0).1 (sl2 F f kp 0).2:=by
  have o4:W4.ownsRow (w.heap.size+2) 3 1 (.slice (some ⟨g,0,none⟩) F cap) F (aP (idn F)):=by rw [←S2.out];exact eD own3 b4
  refine ⟨by have:=b4.size;omega,?_,World.ownsRow_nil _ _ _ _,(fun q _ e=>by cases e),row4,?_,(fun e=>by cases e)⟩
  ·show W4.ownsRow _ _ _ _ (idn F).length (aP (idn F))
   rw [jN];exact o4
  ·intro e
   have:=(own3.lt _ e).2
   omega
 have hUw:w.heap.size+2≤U:=by omega
 clear bC3 bA3 own3 B3 s3 S2 s2 row4 b3 b4 uAny
 go_wp2_with fail
 clear q2
 go_loopw [3,6,18] (fun nv kv i wr=>∃k:Nat,k≤gs.length∧i=.int .i64 k∧YInv wr (w.heap.size+2) U T f nv kv (sl2 F f kp k).1 (sl2 F f kp k).2∧wr.heap[w.heap.size]?=some (.cells #[.int .i64 n,.slice la ls.length lc,.slice ga gs.length gc,.slice oa os.length oc] 34 (0,0))∧wr.heap[w.heap.size+1]?=some (.cells #[.int .i64 0,.slice none 0 0,.slice none 0 0,.slice none 0 0] 34 (0,0))∧Below w.heap.size w wr)
  (fun _ _ i _=>gs.length - (intOf i).toNat)
 case atStart=>exact ⟨0,Nat.zero_le _,rfl,I4,bC4,bA4,B4⟩
 case round =>
  clear I4 bC4 bA4 B4;obtain ⟨k,hk,rfl,I,bC,bA,bel⟩:=hrel
  by_cases hk2:k<gs.length
  ·obtain ⟨bl,ol,rfl,hlt,hcG⟩:=hG.get (by omega)
   have hx1':=(bel.cell (p:=⟨bl,ol+k*2,none⟩) hlt).trans (hcG k hk2).1;have hx2':=(bel.cell (p:=⟨bl,ol+k*2+1,none⟩) hlt).trans (hcG k hk2).2;rw [HGZ.out k] at hx1' hx2';have hk3:k<kp.length:=(by have:=HKL.out;omega)
   have okk:=HOK.out k hk3;have ord:=fun hu=>aGV HOK.out HCL.out hk3 (use:=f) hu
   have hnext:=aD8 F f kp k;obtain ⟨a,hA⟩:∃a,a=(kp.getD k (0,0)).1:=⟨_,rfl⟩
   obtain ⟨c,hC⟩:∃c,c=(kp.getD k (0,0)).2:=⟨_,rfl⟩
   rw [←hA,←hC] at okk ord hnext;have hx1:wr.cell? ⟨bl,ol+k*2,none⟩=some (.int .i64 (a:Int)):=(by rw [hA];exact hx1')
   have hx2:wr.cell? ⟨bl,ol+k*2+1,none⟩=some (.int .i64 (c:Int)):=(by rw [hC];exact hx2')
   have hnl:=jF F f kp k;have hsl:=jG (first:=F) (use:=f) (kept:=kp) k;have tin:=kW F f kp k;obtain ⟨nm,hnm⟩:∃x,x=(sl2 F f kp k).1:=⟨_,rfl⟩
   obtain ⟨st,hst⟩:∃x,x=(sl2 F f kp k).2:=⟨_,rfl⟩
   rw [←hnm] at I hnl tin hnext ord;rw [←hst] at I hsl hnext ord;obtain ⟨S',hS'⟩:∃s,s=2*(F+st.length):=⟨_,rfl⟩
   rw [←hS'] at hnext ord;have hSI:(2:Int)*((F:Int)+(st.length:Int))=(S':Int):=(by omega)
   obtain ⟨x,hx⟩:∃x,x=putS (nm++[S']) a:=⟨_,rfl⟩
   obtain ⟨y,hy⟩:∃y,y=putS (nm++[S']) c:=⟨_,rfl⟩
   rw [←hx,←hy] at ord hnext;have tin2:∀z∈nm++[S'],z<1000:=fun z hz=>by
    rcases List.mem_append.1 hz with h | h
    ·have:=tin z h;omega
    ·simp at h;omega
   have hnl2:(nm++[S']).length=F+k+1:=(by rw [List.length_append,hnl];rfl)
   have oG:f (F+k)=true→∀W g' cap',g'<W.heap.size→(∀j,j<nm.length+1→W.cell? ⟨g',0+j,none⟩=some (.int .i64 (((nm++[S']).getD j 0:Nat):Int)))→Calls Tryz.prog 100 #[.slice (some ⟨g',0,none⟩) (nm.length+1) cap',.agg #[.int .i64 (a:Int),.int .i64 (c:Int)]] W fun e w'=>e=.returned (.agg #[.int .i64 (x:Int),.int .i64 (y:Int)])∧Below W.heap.size W w':=fun hu W g' cap' hg hcs=>by
    have h:=uK a c g' 0 (nm.length+1) cap' (nm++[S']) W (by omega) (by omega) (by omega) (by simp) tin2 hg hcs;have o:=ord hu;have e:putG (nm++[S']) (a,c)=(x,y):=by
     unfold putG;dsimp only;rw [←hx,←hy,Nat.min_eq_left (by omega),Nat.max_eq_right (by omega)]
    rw [e] at h
    exact h
   have hTk:F+k<T:=(by have:=HTF.out;omega)
   have cU:=I.row.cell hTk;unfold bvf at cU;have hFk:(F:Int)+(k:Int)<(T:Int):=(by omega)
   obtain ⟨W5,hW5⟩:∃W5,W5=wr.alloc (.cells #[.int .i64 (a:Int),.int .i64 (c:Int)] 56):=⟨_,rfl⟩
   have bw5:Below wr.heap.size wr W5:=(by rw [hW5];exact (Below.refl _ _).alloc (Nat.le_refl _) _)
   have s5:wr.heap.size<W5.heap.size:=(by rw [hW5];simp)
   have bx5:W5.heap[wr.heap.size]?=some (.cells #[.int .i64 (a:Int),.int .i64 (c:Int)] 56 (0,0)):=(by rw [hW5];exact heap_alloc_new _ _)
   have c50:W5.cell? ⟨wr.heap.size,0,none⟩=some (.int .i64 (a:Int)):=(by rw [cell_of_row _ _ _ _ _ _ bx5];rfl)
   have c51:W5.cell? ⟨wr.heap.size,1,none⟩=some (.int .i64 (c:Int)):=(by rw [cell_of_row _ _ _ _ _ _ bx5];rfl)
   have hkI:(k:Int)<(gs.length:Int):=(by omega)
   have hkl30:st.length≤30:=(by omega)
   have hnl50:nm.length≤50:=(by omega)
   have hwsz:=bel.size;have yb:bl<wr.heap.size:=Nat.lt_of_lt_of_le hlt bel.size;have I5:=I.below bw5;have B5:Below w.heap.size w W5:=bel.trans (bw5.mono hwsz);have bC5:=(bw5.block w.heap.size (Array.getElem?_eq_some_iff.1 bC).1).trans bC;have bA5:=(bw5.block (w.heap.size+1) (Array.getElem?_eq_some_iff.1 bA).1).trans bA;have hbs5:=I5.bs;have cU5:=(bw5.cell (p:=⟨U,F+k,none⟩) I.row.lt).trans cU;have hNlt:=fun q h=>(I.ownN.lt q h).2
   have hKlt:=fun q h=>(I.ownK.lt q h).2
   obtain ⟨na,nc,rfl⟩:=aW I.ownN;obtain ⟨ka,kc,rfl⟩:=aW I.ownK;have NX:=aE hnext;have OG:=aE oG;have TIN:=aE tin2;have NL:=aE hnl;clear hA hC hnext hnm hst hx hy ord okk tin tin2 hx1' hx2' hcG cU oG hS' I bC bA hnl hnl2 hsl
   go_upto_region 8 with fail
   rw [←hW5];clear hW5
   cases hff:f (F+k) with
   | false =>
    rw [hff] at cU5;have NX1:Hid (sl2 F f kp (k+1)=(nm++[0],st)):=(by show _=_;rw [NX.out,hff];rfl)
    have own5:=I5.ownN.alloc (.cells #[.int .i64 0] 3)
    go_wp2_with (at_builtin;refine wpList_append_lies _ rfl (.tmp 30) (.tmp 31) 165 rfl (w.heap.size+2) 3 iO (.int .i64 0) 1 8 Tryz.underlying165 hiO zO0 zO1 zO2 rfl (by omega) _ _ _ rfl own5 ⟨W5.heap.size,0,none⟩ 1 1 [.int .i64 0] rfl rfl (cell_one_new _ _ _) (by simp;rfl) (by omega) (by unfold maxLen;omega) (by omega) (by simp;omega) _ rfl ?_)
    intro g' cap' w1 hown1 hgrow hat1 hlt1;have G9:Grew _ w1 _ g':=⟨hgrow,hat1.imp id (fun e=>by rw [World.size_alloc];exact e)⟩
    have X9:=aE ((I5.alloc (.cells #[.int .i64 0] 3)).addN (x:=0) hown1 G9);have B9:Below w.heap.size w w1:=(B5.alloc B5.size _).grown hgrow (by simp;omega) (fun q hq=>by have:=(I5.ownN.lt q hq).1;omega);have C9:=aE ((G9.blk w.heap.size (by simp;omega) (fun e=>by have:=(I5.ownN.lt _ e).1;omega)).trans (aA bC5));have A9:=aE ((G9.blk (w.heap.size+1) (by simp;omega) (fun e=>by have:=(I5.ownN.lt _ e).1;omega)).trans (aA bA5));clear hgrow hown1 G9 hat1 hlt1;go_wp2
    go_roundw
    case rel=>exact ⟨k+1,by omega,by go_num,by rw [NX1.out];exact X9.out,C9.out,A9.out,B9⟩
    case measure=>simp [intOf];omega
   | true =>
    rw [hff] at cU5;have NX1:Hid (sl2 F f kp (k+1)=(nm++[S'],st++[(x,y)])):=(by show _=_;rw [NX.out,hff];rfl)
    have own5:=I5.ownN.alloc (.cells #[.int .i64 (S':Int)] 3)
    go_wp2_with (at_builtin;refine wpList_append_lies _ rfl (.tmp 33) (.tmp 39) 165 rfl (w.heap.size+2) 3 iO (.int .i64 0) 1 8 Tryz.underlying165 hiO zO0 zO1 zO2 rfl (by omega) _ _ _ rfl own5 ⟨W5.heap.size,0,none⟩ 1 1 [.int .i64 (S':Int)] rfl rfl (cell_one_new _ _ _) (by simp;rfl) (by omega) (by unfold maxLen;omega) (by omega) (by simp;omega) _ rfl ?_)
    intro g' cap' w6 hown1 hgrow hat1 hlt1;have G6:Grew _ w6 _ g':=⟨hgrow,hat1.imp id (fun e=>by rw [World.size_alloc];exact e)⟩
    have I6:=(I5.alloc (.cells #[.int .i64 (S':Int)] 3)).addN hown1 G6;have B6:Below w.heap.size w w6:=(B5.alloc B5.size _).grown hgrow (by simp;omega) (fun q hq=>by have:=(I5.ownN.lt q hq).1;omega);have bC6:=(G6.blk w.heap.size (by simp;omega) (fun e=>by have:=(I5.ownN.lt _ e).1;omega)).trans (aA bC5);have bA6:=(G6.blk (w.heap.size+1) (by simp;omega) (fun e=>by have:=(I5.ownN.lt _ e).1;omega)).trans (aA bA5);have bx6:=(G6.blk wr.heap.size (by simp;omega) (fun e=>by have:=hNlt _ e;omega)).trans (aA bx5);have hlt6:g'<w6.heap.size:=(hown1.lt g' rfl).2;have hcs6:∀j,j<nm.length+1→w6.cell? ⟨g',0+j,none⟩=some (.int .i64 (((nm++[S']).getD j 0:Nat):Int)):=fun j hj=>by
     have o:=hown1;rw [←aZ] at o;have hj2:j<(nm++[S']).length:=(by simpa using hj)
     rw [Nat.zero_add,o.cellAt j (by simpa [aP] using hj)];simp only [aP,List.getElem?_map,List.getElem?_eq_getElem hj2,List.getD_eq_getElem?_getD,Option.map_some,Option.getD_some]
    have call:=OG.out hff w6 g' cap' hlt6 hcs6;have c60:w6.cell? ⟨wr.heap.size,0,none⟩=some (.int .i64 (a:Int)):=(by rw [cell_of_row _ _ _ _ _ _ bx6];rfl)
    have c61:w6.cell? ⟨wr.heap.size,1,none⟩=some (.int .i64 (c:Int)):=(by rw [cell_of_row _ _ _ _ _ _ bx6];rfl)
    have hsz6:W5.heap.size≤w6.heap.size:=Nat.le_trans (by simp) hgrow.size;clear hgrow hown1 G6 hat1 hlt1 hcs6 own5 I5 cU5 c50 c51 bx5 bC5 bA5
    go_wp2_with fail
    refine call.mono ?_;rintro e w7 ⟨rfl,b7⟩;have I7:=I6.below b7;have B7:Below w.heap.size w w7:=B6.trans (b7.mono B6.size);have bC7:=(b7.block w.heap.size (Array.getElem?_eq_some_iff.1 bC6).1).trans bC6;have bA7:=(b7.block (w.heap.size+1) (Array.getElem?_eq_some_iff.1 bA6).1).trans bA6;have hsz7:=b7.size;have hbs7:=I7.bs;have own7:=I7.ownK.alloc (.cells #[.int .i64 (x:Int),.int .i64 (y:Int)] 56);clear call I6 b7 bC6 bA6 c60 c61 bx6
    go_wp2_with (at_builtin;refine wpList_append_lies _ rfl (.tmp 41) (.tmp 45) 31 rfl (w.heap.size+2) 56 iG (.agg #[.int .i64 0,.int .i64 0]) 2 16 Tryz.underlying31 hiG zG0 zG1 zG2 rfl (by omega) _ _ _ rfl own7 ⟨w7.heap.size,0,none⟩ 1 1 [.int .i64 (x:Int),.int .i64 (y:Int)] rfl rfl (World.news_of_block (aB _ _ _ rfl)) (by simp [Value.oneCell']) (by omega) (by unfold maxLen;omega) (by omega) (by simp;omega) _ rfl ?_)
    intro gk capk w1 hown1 hgrow hat1 hlt1;have G9:Grew _ w1 _ gk:=⟨hgrow,hat1.imp id (fun e=>by rw [World.size_alloc];exact e)⟩
    have X9:=aE ((I7.alloc (.cells #[.int .i64 (x:Int),.int .i64 (y:Int)] 56)).addK hown1 G9);have B9:Below w.heap.size w w1:=(B7.alloc B7.size _).grown hgrow (by simp;omega) (fun q hq=>by have:=(I7.ownK.lt q hq).1;omega);have C9:=aE ((G9.blk w.heap.size (by simp;omega) (fun e=>by have:=(I7.ownK.lt _ e).1;omega)).trans (aA bC7));have A9:=aE ((G9.blk (w.heap.size+1) (by simp;omega) (fun e=>by have:=(I7.ownK.lt _ e).1;omega)).trans (aA bA7));clear hgrow hown1 G9 hat1 hlt1;go_wp2
    go_roundw
    case rel=>exact ⟨k+1,by omega,by go_num,by rw [NX1.out];exact X9.out,C9.out,A9.out,B9⟩
    case measure=>simp [intOf];omega
  ·have hkN:k=kp.length:=by have:=HKL.out;omega
   have hkG:k=gs.length:=(by omega)
   have hnl:=jF F f kp kp.length;have tin:=kW F f kp kp.length;rw [hkN] at I;rw [hkG];clear hkN hkG hk2 hk;obtain ⟨nm,hnm⟩:∃x,x=(sl2 F f kp kp.length).1:=⟨_,rfl⟩
   obtain ⟨st,hst⟩:∃x,x=(sl2 F f kp kp.length).2:=⟨_,rfl⟩
   rw [←hnm] at I hnl tin;rw [←hst] at I;have HNM:=aE hnm;have HST:=aE hst;clear hnm hst;have h30:kp.length≤30:=(by have:=HKL.out;omega)
   obtain ⟨gn,capn,rfl,hBg,hgl,hcN⟩:=I.names (fun e=>by rw [e] at hnl;simp at hnl;omega);obtain ⟨ka,kc,rfl⟩:=aW I.ownK;obtain ⟨q0,q1,q2,q3⟩:wr.cell? ⟨w.heap.size,0,none⟩=some (.int .i64 n)∧wr.cell? ⟨w.heap.size,1,none⟩=some (.slice la ls.length lc)∧wr.cell? ⟨w.heap.size,2,none⟩=some (.slice ga gs.length gc)∧wr.cell? ⟨w.heap.size,3,none⟩=some (.slice oa os.length oc):=by
    refine ⟨?_,?_,?_,?_⟩<;> (rw [cell_of_row _ _ _ _ _ _ bC];rfl)
   have call:=nD n la oa ka ga lc oc st.length kc gs.length gc ls os gn 0 nm.length capn nm wr h2 h4 (hL.below bel) (hO.below bel) (by omega) rfl (fun x hx=>by have:=tin x hx;omega) hgl hcN
    (fun i hi=>by have:=FL.out i hi;exact ⟨this.1,by omega⟩) (fun i hi=>by have:=FO.out i hi;exact ⟨this.1,by omega⟩)
   have hbs:=I.bs;have hnl2:=aE hnl;clear hnl hcN tin
   go_wp2_with fail
   refine call.mono ?_;rintro e w1 ⟨lv,ov,rfl,oL,oO,lo,b1⟩;have bA1:=(b1.block (w.heap.size+1) (Array.getElem?_eq_some_iff.1 bA).1).trans bA;obtain ⟨u0,u1,u2,u3⟩:=aK bA1;have v0:w1.frozen? ⟨w.heap.size+1,0,none⟩=false:=frozen_of_row _ _ _ _ _ bA1;have v1:w1.frozen? ⟨w.heap.size+1,1,none⟩=false:=frozen_of_row _ _ _ _ _ bA1;have v2:w1.frozen? ⟨w.heap.size+1,2,none⟩=false:=frozen_of_row _ _ _ _ _ bA1;have v3:w1.frozen? ⟨w.heap.size+1,3,none⟩=false:=frozen_of_row _ _ _ _ _ bA1;obtain ⟨la',ln',lc',rfl⟩:=bQ oL;obtain ⟨oa',on',oc',rfl⟩:=bQ oO;have oG:w1.ownsRow (w.heap.size+2) 56 2 (.slice ka st.length kc) (z2 st).length (flat (z2 st)):=(by rw [fZ];exact eD I.ownK b1)
   have bel1:Below w.heap.size w w1:=bel.trans (b1.mono bel.size);have hwsz:=bel.size;have hKlt:=fun q (hq:(Value.slice ka st.length kc).ownBlock=some q)=>(I.ownK.lt q hq).2
   clear call I q0 q1 q2 q3 bC bA;go_wp2;refine aJZ (b:=w.heap.size+1) (aS bA1 _ _ _ _) (by rfl) ?_;rw [←HNM.out,←HST.out]
   exact ⟨_,_,_,rfl,bG (b:=w.heap.size+1) oL (by omega) (by omega) _ _ _ _,bG (b:=w.heap.size+1) oG (by omega) (by omega) _ _ _ _,bG (b:=w.heap.size+1) oO (by omega) (by omega) _ _ _ _,
    (fun q h h'=>by have:=(oL.lt q h).1;have:=hKlt q h';omega),lo,(fun q h h'=>by have:=(oO.lt q h').1;have:=hKlt q h;omega),aH bel1 (by omega) _ _ _ _⟩
end Go.Proofs.YtgpaajdfkekjiaaGreatDoor
