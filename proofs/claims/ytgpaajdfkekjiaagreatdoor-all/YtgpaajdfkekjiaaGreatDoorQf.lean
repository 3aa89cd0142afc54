/-
  A part of the proof of the statement All: texts of ours, made small by program (blanks, names).
-/
import Derived.Test.YtgpaajdfkekjiaaGreatDoorPg
import Derived.Test.YtgpaajdfkekjiaaGreatDoorQe
namespace Go.Proofs.YtgpaajdfkekjiaaGreatDoor
set_option maxHeartbeats 8000000
set_option maxRecDepth 100000
open Go.RowKit
def aFK (w:World) (P:Nat):Nat:=match w.cell? ⟨P,0,none⟩ with | some (.slice _ n _)=>n | _=>0
theorem mY {M:Duo}{B P:Nat}{w:World}{hv:Value}{es:List (List Nat×Value)}(h:WaysAt M B w P hv es):aFK w P=es.length:=by
 obtain ⟨a,c,e⟩:=h.form;unfold aFK;rw [h.cell,e]
theorem OfInv.below {M:Duo}{A P:Nat}{bA bB:Array Value}{w wr wr':World}{hv:Value}{E:List (List Nat)}{es:List (List Nat×Value)}(h:OfInv M A P bA bB w wr hv E es) (hb:Below wr.heap.size wr wr'):OfInv M A P bA bB w wr' hv E es:=by
 obtain ⟨k,a,b,r,be,sz⟩:=h.boxes (Keeps.of_below (S:=aR P hv) hb)
 exact ⟨h.pq,h.heap,h.ways.below hb,k,a,b,r,be,sz⟩
theorem row8 {w:World}{A:Nat}{a0 a1 a2 a3 b0 b1 b2 b3:Value}(hA:w.heap[A]?=some (.cells #[a0,a1,a2,a3] 34 (0,0))) (hB:w.heap[A+1]?=some (.cells #[b0,b1,b2,b3] 34 (0,0))) :
  w.cell? ⟨A,0,none⟩=some a0∧w.cell? ⟨A,1,none⟩=some a1∧w.cell? ⟨A,2,none⟩=some a2∧w.cell? ⟨A,3,none⟩=some a3∧w.cell? ⟨A+1,0,none⟩=some b0∧w.cell? ⟨A+1,1,none⟩=some b1∧w.cell? ⟨A+1,2,none⟩=some b2∧w.cell? ⟨A+1,3,none⟩=some b3:=by
 refine ⟨?_,?_,?_,?_,?_,?_,?_,?_⟩
 ·rw [cell_of_row _ _ _ _ _ _ hA];rfl
 ·rw [cell_of_row _ _ _ _ _ _ hA];rfl
 ·rw [cell_of_row _ _ _ _ _ _ hA];rfl
 ·rw [cell_of_row _ _ _ _ _ _ hA];rfl
 ·rw [cell_of_row _ _ _ _ _ _ hB];rfl
 ·rw [cell_of_row _ _ _ _ _ _ hB];rfl
 ·rw [cell_of_row _ _ _ _ _ _ hB];rfl
 ·rw [cell_of_row _ _ _ _ _ _ hB];rfl
theorem aKY (n:Nat) (la ga:List (Int×Int)) (oa:List Int) (lb gb:List (Int×Int)) (ob:List Int) (la1 ga1 oa1 lb1 gb1 ob1:Option Addr) (lc1 gc1 oc1 ld1 gd1 od1:Nat) (w:World)
  (ka:tW n la ga oa) (kb:tW n lb gb ob) (hab:ob.length=oa.length) (hdb:TabDB w)
  (pLa:PairsAt w la1 la) (pGa:PairsAt w ga1 ga) (pOa:IntsAt w oa1 oa) (pLb:PairsAt w lb1 lb) (pGb:PairsAt w gb1 gb) (pOb:IntsAt w ob1 ob) :
  Calls Tryz.prog 60 #[.agg #[.int .i64 n,.slice la1 la.length lc1,.slice ga1 ga.length gc1,.slice oa1 oa.length oc1],.agg #[.int .i64 n,.slice lb1 lb.length ld1,.slice gb1 gb.length gd1,.slice ob1 ob.length od1]] w (aMD (duo n la ga oa lb gb ob) w):=by
 obtain ⟨M,hM⟩:∃M,M=duo n la ga oa lb gb ob:=⟨_,rfl⟩
 have hsm:M.Small:=by rw [hM];exact rI ka.l4 kb.l4
 have hK16:M.K≤16:=by rw [hM];exact aKM ka.n4
 have hKn:M.K=2^n:=by rw [hM];rfl
 have hp0:M.p0=(cK la la.length,cK lb lb.length):=by rw [hM];rfl
 obtain ⟨stA,hstA⟩:∃x:Nat,cK la la.length=x:=⟨_,rfl⟩
 obtain ⟨stB,hstB⟩:∃x:Nat,cK lb lb.length=x:=⟨_,rfl⟩
 rw [hstA,hstB] at hp0;have HP0:=aI hp0;have HM:=aI hM;have HKN:=aI hKn;rw [←hM];have HAB:=aI hab;clear hp0 hM hKn hab;have n4:=ka.n4;have cirA:∀W,Below w.heap.size w W→CirW W (.agg #[.int .i64 n,.slice la1 la.length lc1,.slice ga1 ga.length gc1,.slice oa1 oa.length oc1]) n la ga oa:=fun W hb=>⟨la1,lc1,ga1,gc1,oa1,oc1,rfl,pLa.below hb,pGa.below hb,pOa.below hb⟩
 have cirB:∀W,Below w.heap.size w W→CirW W (.agg #[.int .i64 n,.slice lb1 lb.length ld1,.slice gb1 gb.length gd1,.slice ob1 ob.length od1]) n lb gb ob:=fun W hb=>⟨lb1,ld1,gb1,gd1,ob1,od1,rfl,pLb.below hb,pGb.below hb,pOb.below hb⟩
 obtain ⟨W4,hW4⟩:∃W4,W4=(((w.alloc (.cells #[.int .i64 n,.slice la1 la.length lc1,.slice ga1 ga.length gc1,.slice oa1 oa.length oc1] 34)).alloc (.cells #[.int .i64 n,.slice lb1 lb.length ld1,.slice gb1 gb.length gd1,.slice ob1 ob.length od1] 34)).alloc (.cells #[.bool false,.int .i64 0,.slice none 0 0,.int .i64 0] 82)).alloc (.cells Tryz.zeroCells145 145):=⟨_,rfl⟩
 have s4:W4.heap.size=w.heap.size+4:=by rw [hW4];simp
 have B4:Below w.heap.size w W4:=by rw [hW4];exact ((((Below.refl _ _).alloc (Nat.le_refl _) _).alloc (by simp) _).alloc (by simp;omega) _).alloc (by simp;omega) _
 have xA:W4.heap[w.heap.size]?=some (.cells #[.int .i64 n,.slice la1 la.length lc1,.slice ga1 ga.length gc1,.slice oa1 oa.length oc1] 34 (0,0)):=by rw [hW4];exact aA (aA (aA (aB _ _ _ rfl)))
 have xB:W4.heap[w.heap.size+1]?=some (.cells #[.int .i64 n,.slice lb1 lb.length ld1,.slice gb1 gb.length gd1,.slice ob1 ob.length od1] 34 (0,0)):=by rw [hW4];exact aA (aA (aB _ _ _ (by simp)))
 have xR:W4.heap[w.heap.size+1+1]?=some (.cells #[.bool false,.int .i64 0,.slice none 0 0,.int .i64 0] 82 (0,0)):=by rw [hW4];exact aA (aB _ _ _ (by simp))
 have xK:KnownAt W4 (w.heap.size+3) []:=by
  refine ⟨Tryz.zeroCells145,by rw [hW4];exact aB _ _ _ (by simp),by rw [aAT];simp,fun p q hp hq=>?_⟩;rw [aAT,Array.getElem?_replicate,if_pos (by omega)]
  simp
 have hSA:=row8 xA xB;have pLa4:=pLa.below B4;have pLb4:=pLb.below B4
 go_enter Tryz.func60,Tryz.ntmps60
 go_upto_region 3 with fail
 rw [←hW4];clear hW4
 go_cut [7] (fun p wx=>∃(P:Nat) (hv:Value),p=.pointer (some ⟨P,0,none⟩)∧OfInv M w.heap.size P #[.int .i64 n,.slice la1 la.length lc1,.slice ga1 ga.length gc1,.slice oa1 oa.length oc1] #[.int .i64 n,.slice lb1 lb.length ld1,.slice gb1 gb.length gd1,.slice ob1 ob.length od1] w wx hv [] [([],.slice none 0 0)])
 case first =>
  refine wp_region_noPanic ?_;refine wp_region_any (by kernel_rfl) ?_;simp only [List.size_toArray,List.length_cons,List.length_nil,Nat.zero_add,Nat.reduceAdd];refine wpAny_of_held (S:=fun w'=>w'.cell? ⟨w.heap.size,0,none⟩=some (.int .i64 n)∧w'.cell? ⟨w.heap.size,1,none⟩=some (.slice la1 la.length lc1)∧w'.cell? ⟨w.heap.size,2,none⟩=some (.slice ga1 ga.length gc1)∧w'.cell? ⟨w.heap.size,3,none⟩=some (.slice oa1 oa.length oc1)∧w'.cell? ⟨w.heap.size+1,0,none⟩=some (.int .i64 n)∧w'.cell? ⟨w.heap.size+1,1,none⟩=some (.slice lb1 lb.length ld1)∧w'.cell? ⟨w.heap.size+1,2,none⟩=some (.slice gb1 gb.length gd1)∧w'.cell? ⟨w.heap.size+1,3,none⟩=some (.slice ob1 ob.length od1)) _ _ _ _ ?_;have hHeld:(fun w':World=>w'.cell? ⟨w.heap.size,0,none⟩=some (.int .i64 n)∧w'.cell? ⟨w.heap.size,1,none⟩=some (.slice la1 la.length lc1)∧w'.cell? ⟨w.heap.size,2,none⟩=some (.slice ga1 ga.length gc1)∧w'.cell? ⟨w.heap.size,3,none⟩=some (.slice oa1 oa.length oc1)∧w'.cell? ⟨w.heap.size+1,0,none⟩=some (.int .i64 n)∧w'.cell? ⟨w.heap.size+1,1,none⟩=some (.slice lb1 lb.length ld1)∧w'.cell? ⟨w.heap.size+1,2,none⟩=some (.slice gb1 gb.length gd1)∧w'.cell? ⟨w.heap.size+1,3,none⟩=some (.slice ob1 ob.length od1)) W4.drew:=hSA;refine tkH (i:=0) (v:=?_) (hS:=hHeld) (hy:=Or.inl ⟨by rfl,?_⟩) (h:=?_)
  rotate_left 1
  ·(intro w0 hSw;(try dsimp only at hSw);go_simp;try (with_reducible rfl))
  simp only [Act.put,sSet];refine tkH (i:=2) (v:=?_) (hS:=hHeld) (hy:=Or.inl ⟨by rfl,?_⟩) (h:=?_)
  rotate_left 1
  ·(intro w0 hSw;(try dsimp only at hSw);go_simp;try (with_reducible rfl))
  simp only [Act.put,sSet];refine wpAnyH_ready (rs:=[1]) (by kernel_rfl) (by simp) (AllReadyH.cons (by simp only [List.getElem?_toArray,List.getElem?_cons_succ,List.getElem?_cons_zero];rfl) (fun K hK=>?_) AllReadyH.nil);go_simp;refine (nN _ la1 lc1 _ _ la W4.drew ka.l4 pLa4 ka.ini).mono ?_;rintro e w5 ⟨rfl,b5⟩;rw [hstA];have blk5:∀k,k<w.heap.size+4→w5.heap[k]?=W4.heap[k]?:=fun k hk=>b5.block k (by show k<W4.heap.size;omega)
  have hS5:=row8 ((blk5 _ (by omega)).trans xA) ((blk5 _ (by omega)).trans xB);have B5:Below W4.heap.size W4 w5:=((Below.refl _ _).drew).trans (b5.mono (Nat.le_refl _));dsimp only;refine hK.out _ _ ?_ (fun hHeld=>?_)
  ·exact hS5
  clear hK K
  try simp only [Act.put,sSet]
  refine wpAnyH_ready (rs:=[3]) (by kernel_rfl) (by simp) (AllReadyH.cons (by simp only [List.getElem?_toArray,List.getElem?_cons_succ,List.getElem?_cons_zero];rfl) (fun K hK=>?_) AllReadyH.nil);go_simp;refine (nN _ lb1 ld1 _ _ lb w5 kb.l4 (pLb4.below B5) kb.ini).mono ?_;rintro e w6 ⟨rfl,b6⟩;rw [hstB];have s5:w.heap.size+4≤w5.heap.size:=by have:=B5.size;omega
  have blk6:∀k,k<w.heap.size+4→w6.heap[k]?=W4.heap[k]?:=fun k hk=>(b6.block k (by omega)).trans (blk5 k hk)
  have hS6:=row8 ((blk6 _ (by omega)).trans xA) ((blk6 _ (by omega)).trans xB);have B6:Below W4.heap.size W4 w6:=B5.trans (b6.mono B5.size);have s6:w.heap.size+4≤w6.heap.size:=by have:=B6.size;omega
  dsimp only;refine hK.out _ _ ?_ (fun hHeld=>?_)
  ·exact hS6
  clear hK K
  try simp only [Act.put,sSet]
  refine tkH (i:=4) (v:=?_) (hS:=hHeld) (hy:=Or.inl ⟨by rfl,?_⟩) (h:=?_)
  rotate_left 1
  ·(intro w0 hSw;(try dsimp only at hSw);go_simp;try (with_reducible rfl))
  simp only [Act.put,sSet];refine wpAnyH_ready (rs:=[5]) (by kernel_rfl) (by simp) (AllReadyH.cons (by simp only [List.getElem?_toArray,List.getElem?_cons_succ,List.getElem?_cons_zero];rfl) (fun K hK=>?_) AllReadyH.nil);go_simp;have hS7:=row8 (A:=w.heap.size) (w:=w6.alloc (.cells #[.slice none 0 0,.int .i64 stA,.int .i64 stB,.int .i64 0] 148)) (aA ((blk6 _ (by omega)).trans xA)) (aA ((blk6 _ (by omega)).trans xB));refine hK.out _ _ ?_ (fun hHeld=>?_)
  ·exact hS7
  clear hK K
  try simp only [Act.put,sSet]
  refine wpAnyH_ready (rs:=[6]) (by kernel_rfl) (by simp) (AllReadyH.cons (by simp only [List.getElem?_toArray,List.getElem?_cons_succ,List.getElem?_cons_zero];rfl) (fun K hK=>?_) AllReadyH.nil);go_simp;have hS8:=row8 (A:=w.heap.size) (w:=(w6.alloc (.cells #[.slice none 0 0,.int .i64 stA,.int .i64 stB,.int .i64 0] 148)).alloc (.cells #[.slice (some ⟨w6.heap.size,0,none⟩) 1 1] 150)) (aA (aA ((blk6 _ (by omega)).trans xA))) (aA (aA ((blk6 _ (by omega)).trans xB)));refine hK.out _ _ ?_ (fun hHeld=>?_)
  ·exact hS8
  clear hK K
  try simp only [Act.put,sSet]
  refine tkH (i:=7) (v:=?_) (hS:=hHeld) (hy:=Or.inl ⟨by rfl,?_⟩) (h:=?_)
  rotate_left 1
  ·(intro w0 hSw;(try dsimp only at hSw);go_simp;try (with_reducible rfl))
  simp only [Act.put,sSet];refine wpAnyH_done (by kernel_rfl) ?_ _;refine NoPanic.normal ?_;go_wp2
  go_meet
  case rel =>
   refine ⟨w6.heap.size+1,.slice (some ⟨w6.heap.size,0,none⟩) 1 1,rfl,?_⟩;obtain ⟨X,hX⟩:∃X,X=(w6.alloc (.cells #[.slice none 0 0,.int .i64 stA,.int .i64 stB,.int .i64 0] 148)).alloc (.cells #[.slice (some ⟨w6.heap.size,0,none⟩) 1 1] 150):=⟨_,rfl⟩
   rw [←hX];have bX:Below w6.heap.size w6 X:=(by rw [hX];exact ((Below.refl _ _).alloc (Nat.le_refl _) _).alloc (by simp) _)
   have sX:X.heap.size=w6.heap.size+2:=(by rw [hX];simp)
   have c1:X.heap[w6.heap.size]?=some (.cells #[.slice none 0 0,.int .i64 stA,.int .i64 stB,.int .i64 0] 148 (0,0)):=(by rw [hX];exact aA (aB _ _ _ rfl))
   have c2:X.heap[w6.heap.size+1]?=some (.cells #[.slice (some ⟨w6.heap.size,0,none⟩) 1 1] 150 (0,0)):=(by rw [hX];exact aB _ _ _ (by simp))
   have blkX:∀k,k<w.heap.size+4→X.heap[k]?=W4.heap[k]?:=fun k hk=>(bX.block k (by omega)).trans (blk6 k hk)
   have hr0:M.run []=(stA,stB):=HP0.out;refine ⟨Duo.PQ.start,?_,⟨by omega,by omega,by rw [cell_of_row _ _ _ _ _ _ c2];rfl,frozen_of_row _ _ _ _ _ c2,?_,by simp [Value.ownBlock],?_⟩,xK.block (blkX _ (by omega)),(blkX _ (by omega)).trans xA,(blkX _ (by omega)).trans xB,(blkX _ (by omega)).trans xR,(B4.trans (B6.mono B4.size)).trans (bX.mono (by omega)),by omega⟩
   ·intro k k0 kn
    simp at kn
    omega
   ·refine ⟨by simp [rowW,wayL],.inr ⟨w6.heap.size,1,_,rfl,by omega,c1,by simp,by simp [maxLen],by simp,?_⟩⟩
    simp [rowW,wayL,hr0,Duo.difL]
   ·intro e he
    simp at he
    subst he
    exact InAt.nil _ _
 case rest =>
  obtain ⟨P,hv0,rfl,I0⟩:=hcut;clear hSA pLa4 pLb4 xA xB xR xK B4 s4 hstA hstB HP0
  go_wp2_with fail
  go_loopw [6,8,9] (fun s6 _ _ wr=>∃(E:List (List Nat)) (es:List (List Nat×Value)) (hv:Value),s6=.int .i64 (E.length:Nat)∧OfInv M w.heap.size P #[.int .i64 n,.slice la1 la.length lc1,.slice ga1 ga.length gc1,.slice oa1 oa.length oc1] #[.int .i64 n,.slice lb1 lb.length ld1,.slice gb1 gb.length gd1,.slice ob1 ob.length od1] w wr hv E es) (fun s6 _ _ wr=>17*(256 - (intOf s6).toNat)+aFK wr P)
  case atStart=>exact ⟨[],[([],.slice none 0 0)],hv0,rfl,I0⟩
  case round =>
   clear I0;obtain ⟨E,es,hv,rfl,I⟩:=hrel;have few:=I.few hsm;have hlen:=I.len hsm hK16;have hgood:=I.good hsm hK16;have cP:=I.ways.cell;obtain ⟨a0,c0,hform⟩:=I.ways.form;have HF:=aI hform;clear hform
   go_wp2_with fail
   refine (aBF hv _ _ _ _ HF.out).mono ?_;rintro r w1 ⟨rfl,hw1⟩;obtain rfl:=hw1.symm
   by_cases h0:es.length=0
   ·have hnil:es=[]:=List.length_eq_zero_iff.1 h0
    have HSays:=aI (show M.Says true E.length [] 0 by have:=I.pq;rw [hnil] at this;exact this.same hK16);have hq:¬(0:Int)<(es.length:Int):=(by omega)
    have bxR:=I.bxR;obtain ⟨F0,F1,F2,F3⟩:=aK bxR;have G0:wr.frozen? ⟨w.heap.size+1+1,0,none⟩=false:=frozen_of_row _ _ _ _ _ bxR;have G1:wr.frozen? ⟨w.heap.size+1+1,1,none⟩=false:=frozen_of_row _ _ _ _ _ bxR;have G2:wr.frozen? ⟨w.heap.size+1+1,2,none⟩=false:=frozen_of_row _ _ _ _ _ bxR;have G3:wr.frozen? ⟨w.heap.size+1+1,3,none⟩=false:=frozen_of_row _ _ _ _ _ bxR;clear h0 hnil;go_wp2;refine xZ (b:=w.heap.size+1+1) (dD bxR _ _ _ _) (by rfl) ?_
    exact ⟨true,E.length,[],0,.slice none 0 0,HSays.out,rfl,World.ownsRow_nil _ _ _ _,by simp,aH I.bel (by omega) _ _ _ _⟩
   ·have hq:(0:Int)<(es.length:Int):=by omega
    have hpos:0<es.length:=(by omega)
    have hpop:=aBA M (w.heap.size+4) P hv es wr I.ways hgood hpos (by omega) I.heap;unfold pX at hpop
    go_wp2_with fail
    refine hpop.mono ?_;rintro r w1 ⟨e,es1,hv1,rfl,hperm,hmin,ways1,heap1,in1,hob1,K1⟩;have HO1:=aI hob1;clear hob1;clear hpop;obtain ⟨kn1,bxA1,bxB1,bxR1,bel1,sz1⟩:=I.boxes K1;obtain ⟨x,ve⟩:=e;dsimp only at hmin in1;obtain ⟨av,cv,rfl,hinr⟩:=in1;have in1:InAt w1 (inX (w.heap.size+4) P hv1) (.slice av x.length cv) x:=⟨av,cv,rfl,hinr⟩
    have hrun:=Duo.run_small hsm x;obtain ⟨sa,hsa⟩:∃y:Nat,y=(M.run x).1:=⟨_,rfl⟩
    obtain ⟨sb,hsb⟩:∃y:Nat,y=(M.run x).2:=⟨_,rfl⟩
    obtain ⟨d,hd⟩:∃y:Nat,y=M.difL x:=⟨_,rfl⟩
    have sa16:sa<16:=(by rw [hsa];exact hrun.1)
    have sb16:sb<16:=(by rw [hsb];exact hrun.2)
    have hd16:d<16:=by
     rw [hd,HM.out]
     exact Nat.lt_of_lt_of_le (rH HAB.out x) (eY ka.o4)
    have eV:wayV M (x,.slice av x.length cv)=.agg #[.slice av x.length cv,.int .i64 sa,.int .i64 sb,.int .i64 d]:=(by unfold wayV;rw [hsa,hsb,hd])
    have hkeys:(cT es).Perm (x :: cT es1):=(hperm.map Prod.fst).symm;have PQ1:=aI (I.pq.perm hkeys);have hxl:x.length≤256:=(by have:=PQ1.out.len x (by simp);omega)
    have HMIN:=aI (show ∀y∈cT es1,code x≤code y from fun y hy=>by obtain ⟨z,hz,rfl⟩:=List.mem_map.1 hy;exact hmin z hz);have hl1:es1.length+1=es.length:=(by have:=hperm.length_eq;simpa using this)
    have HSA:=aI hsa;have HSB:=aI hsb;have HD:=aI hd;have hAs:=Tryz.asWay (.agg #[.slice av x.length cv,.int .i64 sa,.int .i64 sb,.int .i64 d]);rw [eV];clear eV hsa hsb hd hmin hperm hkeys hrun;obtain ⟨b8,hb8⟩:∃b8,w1.heap.size=b8:=⟨_,rfl⟩
    obtain ⟨W2,hW2⟩:∃W2,W2=w1.alloc (.cells #[.slice av x.length cv,.int .i64 sa,.int .i64 sb,.int .i64 d] 148):=⟨_,rfl⟩
    have a2:Below w1.heap.size w1 W2:=(by rw [hW2];exact (Below.refl _ _).alloc (Nat.le_refl _) _)
    have s2:W2.heap.size=b8+1:=(by rw [hW2];simp [hb8])
    have b8x:W2.heap[b8]?=some (.cells #[.slice av x.length cv,.int .i64 sa,.int .i64 sb,.int .i64 d] 148 (0,0)):=(by rw [hW2];exact aB _ _ _ hb8.symm)
    have blk2:∀k,k<b8→W2.heap[k]?=w1.heap[k]?:=fun k hk=>a2.block k (by omega)
    have sz1':w.heap.size+4≤b8:=(by omega)
    obtain ⟨q0,q1,q2,q3⟩:=aK b8x;have bel2:Below w.heap.size w W2:=bel1.trans (a2.mono bel1.size);have ways2:=ways1.below a2;have in2:=in1.below a2;have kn2:=kn1.block (blk2 _ (by omega));have bxA2:=(blk2 w.heap.size (by omega)).trans bxA1;have bxB2:=(blk2 (w.heap.size+1) (by omega)).trans bxB1;have bxR2:=(blk2 (w.heap.size+1+1) (by omega)).trans bxR1
    go_upto_region 6 with fail
    rw [←hW2];clear hW2 kn1 bxA1 bxB1 bxR1 bel1 ways1 in1 a2 blk2 hAs;have HB8:=aI hb8;clear hb8
    by_cases hd0:d=0
    ·have hneI:((d:Int) != 0)=false:=by simp [hd0]
     have hd0':M.difL x=0:=(by rw [←HD.out];exact hd0)
     have HD0:=aI hd0';have hpair:M.run x=(sa,sb):=(by rw [HSA.out,HSB.out])
     have HPR:=aI hpair;have kc:W2.cell? ⟨w.heap.size+1+1+1,sa*16+sb,none⟩=some (.bool (decide ((sa,sb)∈E.map M.run))):=kn2.get sa16 sb16;have i0:(0:Int)≤(sa:Int):=(by omega)
     have i1:(sa:Int)<16:=(by omega)
     have j0:(0:Int)≤(sb:Int):=(by omega)
     have j1:(sb:Int)<16:=(by omega)
     clear hd0' hpair hd0
     by_cases hk:(sa,sb)∈E.map M.run
     ·rw [decide_eq_true hk] at kc
      go_wp2
      go_quiet (fail)
      rename_i nq
      go_wp2;have hinv:OfInv M w.heap.size P #[.int .i64 n,.slice la1 la.length lc1,.slice ga1 ga.length gc1,.slice oa1 oa.length oc1] #[.int .i64 n,.slice lb1 lb.length ld1,.slice gb1 gb.length gd1,.slice ob1 ob.length od1] w W2 hv1 E es1:=⟨PQ1.out.skip HD0.out (by rw [HPR.out];exact hk),heap1,ways2,kn2,bxA2,bxB2,bxR2,bel2,by omega⟩
      have hinv2:=hinv.below (below_drewN (Below.refl _ _) nq);refine ⟨⟨E,es1,hv1,rfl,hinv2⟩,?_⟩;rw [mY hinv2.ways,mY I.ways]
      omega
     ·rw [decide_eq_false hk] at kc
      go_wp2
      go_quiet (fail)
      rename_i nq
      obtain ⟨W3,hW3⟩:∃W3,W3=W2.drewN nq:=⟨_,rfl⟩
      have a3:Below W2.heap.size W2 W3:=(by rw [hW3];exact below_drewN (Below.refl _ _) nq)
      have z3:W3.heap.size=W2.heap.size:=(by rw [hW3];rfl)
      have p1:W3.cell? ⟨b8,1,none⟩=some (.int .i64 sa):=(a3.cell (p:=⟨b8,1,none⟩) (by show b8<W2.heap.size;omega)).trans q1;have p2:W3.cell? ⟨b8,2,none⟩=some (.int .i64 sb):=(a3.cell (p:=⟨b8,2,none⟩) (by show b8<W2.heap.size;omega)).trans q2;have kc3:W3.cell? ⟨w.heap.size+1+1+1,sa*16+sb,none⟩=some (.bool false):=(a3.cell (p:=⟨w.heap.size+1+1+1,sa*16+sb,none⟩) (by show w.heap.size+1+1+1<W2.heap.size;omega)).trans kc;have kf3:W3.frozen? ⟨w.heap.size+1+1+1,sa*16+sb,none⟩=false:=(a3.frozen (p:=⟨w.heap.size+1+1+1,sa*16+sb,none⟩) (by show w.heap.size+1+1+1<W2.heap.size;omega)).trans (kn2.frz _)
      go_wp2_with fail
      rw [←hW3];clear hW3;refine wp_region_noPanic ?_;refine wp_region_any (by kernel_rfl) ?_;simp only [List.size_toArray,List.length_cons,List.length_nil,Nat.zero_add,Nat.reduceAdd];refine wpAny_of_held (S:=fun w'=>w'.cell? ⟨b8,1,none⟩=some (.int .i64 sa)∧w'.cell? ⟨b8,2,none⟩=some (.int .i64 sb)) _ _ _ _ ?_;have hHeld:(fun w':World=>w'.cell? ⟨b8,1,none⟩=some (.int .i64 sa)∧w'.cell? ⟨b8,2,none⟩=some (.int .i64 sb)) W3.drew:=⟨p1,p2⟩
      refine tkH (i:=0) (v:=?_) (hS:=hHeld) (hy:=Or.inl ⟨by rfl,?_⟩) (h:=?_)
      rotate_left 1
      ·(intro w0 hSw;(try dsimp only at hSw);go_simp;try (with_reducible rfl))
      simp only [Act.put,sSet];refine tkH (i:=1) (v:=?_) (hS:=hHeld) (hy:=Or.inl ⟨by rfl,?_⟩) (h:=?_)
      rotate_left 1
      ·(intro w0 hSw;(try dsimp only at hSw);go_simp;try (with_reducible rfl))
      simp only [Act.put,sSet];refine tkH (i:=2) (v:=?_) (hS:=hHeld) (hy:=Or.inl ⟨by rfl,?_⟩) (h:=?_)
      rotate_left 1
      ·(intro w0 hSw;(try dsimp only at hSw);go_simp;try (with_reducible rfl))
      simp only [Act.put,sSet];refine tkH (i:=3) (v:=?_) (hS:=hHeld) (hy:=Or.inl ⟨by rfl,?_⟩) (h:=?_)
      rotate_left 1
      ·(intro w0 hSw;(try dsimp only at hSw);go_simp;try (with_reducible rfl))
      simp only [Act.put,sSet];refine tkH (i:=4) (v:=?_) (hS:=hHeld) (hy:=Or.inl ⟨by rfl,?_⟩) (h:=?_)
      rotate_left 1
      ·(intro w0 hSw;(try dsimp only at hSw);go_simp;try (with_reducible rfl))
      simp only [Act.put,sSet];refine tkH (i:=5) (v:=?_) (hS:=hHeld) (hy:=Or.inl ⟨by rfl,?_⟩) (h:=?_)
      rotate_left 1
      ·(intro w0 hSw;(try dsimp only at hSw);go_simp;try (with_reducible rfl))
      simp only [Act.put,sSet];refine wpAnyH_ready (rs:=[6]) (by kernel_rfl) (by simp) (AllReadyH.cons (by simp only [List.getElem?_toArray,List.getElem?_cons_succ,List.getElem?_cons_zero];rfl) (fun K hK=>?_) AllReadyH.nil);go_simp;have ob4:∀k,k≠w.heap.size+1+1+1→(W3.setCell ⟨w.heap.size+1+1+1,sa*16+sb,none⟩ (.bool true)).drew.heap[k]?=W3.heap[k]?:=fun k hn=>Deep.blk_setCell_other _ _ _ _ hn
      refine hK.out _ _ ?_ (fun hHeld=>?_)
      ·exact ⟨(World.cell?_of_block (w:=W3) (ob4 b8 (by omega))).trans p1,(World.cell?_of_block (w:=W3) (ob4 b8 (by omega))).trans p2⟩
      clear hK K
      try simp only [Act.put,sSet]
      refine wpAnyH_done (by kernel_rfl) ?_ _;refine NoPanic.normal ?_;clear hHeld;obtain ⟨W5,hW5⟩:∃W5,W5=(W3.setCell ⟨w.heap.size+1+1+1,sa*16+sb,none⟩ (.bool true)).drew:=⟨_,rfl⟩
      have z5:W5.heap.size=W2.heap.size:=(by rw [hW5];show (W3.setCell _ _).heap.size=_;rw [Deep.nblk_setCell];exact z3)
      have ob5:∀k,k<W2.heap.size→k≠w.heap.size+1+1+1→W5.heap[k]?=W2.heap[k]?:=fun k hk hn=>by
       rw [hW5]
       show (W3.setCell _ _).heap[k]?=_
       rw [Deep.blk_setCell_other _ _ _ _ hn]
       exact a3.block k hk
      have K5:Keeps (fun k=>k=w.heap.size+1+1+1) W2 W5:=⟨by rw [hW5];exact a3.os,by rw [hW5];exact a3.tape,by rw [hW5];exact a3.output,by omega,ob5⟩
      have kn5:KnownAt W5 (w.heap.size+3) ((E++[x]).map M.run):=by
       have h1:=(kn2.block (a3.block _ (by omega))).add sa16 sb16;rw [List.map_append,List.map_singleton,HPR.out,hW5]
       exact h1
      rw [←hW5];clear hW5 p1 p2 kc3 kf3 kc kn2;have hPb:P≠b8:=(by have:=ways2.lt;have:=HB8.out;intro e;have h1:=I.ways.lt;have h2:=K1.size;omega)
      have hnb:hv1.ownBlock≠some b8:=fun e=>by
       rw [HO1.out] at e;have:=(I.ways.own.lt b8 e).2;have h2:=K1.size;have:=HB8.out
       omega
      have I5:InnInv M w.heap.size P b8 #[.int .i64 n,.slice la1 la.length lc1,.slice ga1 ga.length gc1,.slice oa1 oa.length oc1] #[.int .i64 n,.slice lb1 lb.length ld1,.slice gb1 gb.length gd1,.slice ob1 ob.length od1] #[.slice av x.length cv,.int .i64 sa,.int .i64 sb,.int .i64 d] w W5 hv1 (E++[x]) es1 x (.slice av x.length cv) 0 es1 :=
       ⟨by simp [Duo.kids],heap1,ways2.keepsLow K5 (fun k hk=>by rw [show k=_ from hk];omega),in2.keeps K5 (fun k hk=>.inr (by rw [show k=_ from hk];omega)),hnb,kn5,(ob5 _ (by omega) (by omega)).trans bxA2,(ob5 _ (by omega) (by omega)).trans bxB2,(ob5 _ (by omega) (by omega)).trans bxR2,(ob5 _ (by omega) (by omega)).trans b8x,bel2.trans (K5.below (by omega) (fun k hk=>by rw [show k=_ from hk];omega)),by omega,by omega,hPb⟩
      have PQX:=aI (PQ1.out.expand HD0.out (by rw [HPR.out];exact hk) HMIN.out);have few1:E.length+1≤256:=(by have:=PQX.out.few hsm;simpa using this)
      have A0:W5.cell? ⟨w.heap.size,0,none⟩=some (.int .i64 n):=(by rw [cell_of_row _ _ _ _ _ _ I5.bxA];rfl)
      obtain ⟨Kk,hKk⟩:∃Kk,Kk=M.K:=⟨_,rfl⟩
      have hKk16:Kk≤16:=(by rw [hKk];exact hK16)
      have hsh1:wrap64 ((2:Int)^n)=(Kk:Int):=(by rw [hKk,HKN.out];exact aJ0 n n4)
      have hsh2:IntKind.i64.wrap ((2:Int)^n)=(Kk:Int):=(by rw [hKk,HKN.out];exact aGE n n4)
      have HKK:=aI hKk;clear hKk;have HI5:=aI I5;clear I5 q0 q1 q2 q3 b8x ways2 in2 bxA2 bxB2 bxR2 bel2 K5 kn5 ob5 a3 s2 z3 z5
      go_wp2_with fail
      go_loopw [54,9] (fun s54 _ wi=>∃(k:Nat) (es2:List (List Nat×Value)) (hv2:Value),s54=.int .i64 k∧k≤Kk∧InnInv M w.heap.size P b8 #[.int .i64 n,.slice la1 la.length lc1,.slice ga1 ga.length gc1,.slice oa1 oa.length oc1] #[.int .i64 n,.slice lb1 lb.length ld1,.slice gb1 gb.length gd1,.slice ob1 ob.length od1] #[.slice av x.length cv,.int .i64 sa,.int .i64 sb,.int .i64 d] w wi hv2 (E++[x]) es1 x (.slice av x.length cv) k es2) (fun s54 _ _=>Kk - (intOf s54).toNat)
      case atStart=>exact ⟨0,es1,hv1,rfl,Nat.zero_le _,HI5.out⟩
      case round =>
       clear HI5 hsh1 hsh2;obtain ⟨k,es2,hv2,rfl,hkK,J⟩:=hrel
       by_cases hk2:k<Kk
       ·have hkI:(k:Int)<(Kk:Int):=by omega
        have hxx:=row8 J.bxA J.bxB;obtain ⟨A0,A1,A2,A3,D0,D1,D2,D3⟩:=hxx;have bx8:=J.bx8;obtain ⟨q0,q1,q2,q3⟩:=aK bx8;have hfur:=aB8 n la ga oa lb gb ob _ _ (inX (w.heap.size+4) P hv2) (.slice av x.length cv) x k wr ka kb (cirA wr J.bel) (cirB wr J.bel) (by omega) J.inx (by omega);rw [←HM.out] at hfur;have eV:wayV M (x,.slice av x.length cv)=.agg #[.slice av x.length cv,.int .i64 sa,.int .i64 sb,.int .i64 d]:=(by unfold wayV;rw [HSA.out,HSB.out,HD.out])
        rw [eV] at hfur;clear eV
        go_wp2_with fail
        refine hfur.mono ?_;rintro r wf ⟨v',rfl,hin',bf⟩;clear hfur;have hmem:∀y,y∈cT es2++[x++[k]]→y∈cT es1++Duo.kids x M.K:=fun y hy=>by
         rcases List.mem_append.1 hy with hy | hy
         ·rcases List.mem_append.1 (J.perm.mem_iff.1 hy) with h | h
          ·exact List.mem_append.2 (.inl h)
          ·obtain ⟨i,hi,rfl⟩:=Duo.mem_kids.1 h
           exact List.mem_append.2 (.inr (Duo.mem_kids.2 ⟨i,by rw [←HKK.out];omega,rfl⟩))
         ·simp at hy
          subst hy
          exact List.mem_append.2 (.inr (Duo.mem_kids.2 ⟨k,by rw [←HKK.out];omega,rfl⟩))
        have hgd:∀y,y∈cT es2++[x++[k]]→Dig y∧y.length≤500:=fun y hy=>by
         have h1:=PQX.out.valid y (hmem y hy);have h2:=PQX.out.len y (hmem y hy);have h3:(E++[x]).length=E.length+1:=by simp
         exact ⟨Duo.dig_of_valid hK16 h1,by omega⟩
        have hl2:es2.length=es1.length+k:=(by have:=J.perm.length_eq;rw [dJ,List.length_append,dJ,Duo.kids_len] at this;exact this)
        have hwf:=bf.size;have ht8:=J.t8;have hs8:=J.s8;have hpush:=yW M (w.heap.size+4) P hv2 es2 (x++[k],v') wf (J.ways.below bf) (fun e he=>hgd e.1 (List.mem_append.2 (.inl (List.mem_map.2 ⟨e,he,rfl⟩)))) (hgd (x++[k]) (by simp)) (hin' (inX (w.heap.size+4) P hv2) (fun j hj=>by
         rcases hj with hj | hj
         ·exact (J.ways.blocks hj).2
         ·omega)) (by omega) (by omega) J.heap
        unfold pX at hpush;have HMM:=aI hmem;have HGD:=aI hgd;have HL2:=aI hl2;clear hmem hgd hl2 hin' A0 A1 A2 A3 D0 D1 D2 D3 q0 q1 q2 q3 bx8
        go_wp2_with fail
        refine hpush.mono ?_;rintro r wp ⟨rfl,hv3,es3,hp3,ways3,heap3,K3,hn3⟩;have HJ2:=aI (J.next bf hp3 ways3 heap3 K3 hn3);clear hpush hp3 ways3 heap3 hn3;go_wp2
        go_roundw
        case rel=>exact ⟨k+1,es3,hv3,by go_num,by omega,HJ2.out⟩
        case measure=>simp [intOf];omega
       ·have hkI:¬(k:Int)<(Kk:Int):=by omega
        have hkk:k=M.K:=(by rw [←HKK.out];omega)
        have hpm:=J.perm;rw [hkk] at hpm;have HPQ:=aI (PQX.out.perm hpm.symm);have hl2:es2.length=es1.length+M.K:=(by have:=hpm.length_eq;rw [dJ,List.length_append,dJ,Duo.kids_len] at this;exact this)
        have HJ:=aI J;have ht8:=J.t8;have hs8:=J.s8;have HL2:=aI hl2;clear hpm hl2 J hkk;go_wp2;have J:=HJ.out;have hinv:OfInv M w.heap.size P #[.int .i64 n,.slice la1 la.length lc1,.slice ga1 ga.length gc1,.slice oa1 oa.length oc1] #[.int .i64 n,.slice lb1 lb.length ld1,.slice gb1 gb.length gd1,.slice ob1 ob.length od1] w wr hv2 (E++[x]) es2:=⟨HPQ.out,J.heap,J.ways,J.known,J.bxA,J.bxB,J.bxR,J.bel,by omega⟩
        refine ⟨⟨E++[x],es2,hv2,by simp,hinv⟩,?_⟩;rw [mY J.ways,mY I.ways,HL2.out];simp only [intOf]
        omega
    ·have hneI:((d:Int) != 0)=true:=by simp;omega
     have hcv:IntKind.u64.wrap (d:Int)=(d:Int):=(by unfold IntKind.wrap;simp [IntKind.bits,IntKind.signed];omega)
     have HSays:=aI (show M.Says false 0 x d by rw [HD.out];exact PQ1.out.differs hK16 (by rw [←HD.out];exact hd0) HMIN.out);have hdb2:TabDB W2.drew:=(hdb.below bel2).below ((Below.refl _ _).drew);obtain ⟨F0,F1,F2,F3⟩:=aK bxR2;have G0:W2.frozen? ⟨w.heap.size+1+1,0,none⟩=false:=frozen_of_row _ _ _ _ _ bxR2;have G1:W2.frozen? ⟨w.heap.size+1+1,1,none⟩=false:=frozen_of_row _ _ _ _ _ bxR2;have G2:W2.frozen? ⟨w.heap.size+1+1,2,none⟩=false:=frozen_of_row _ _ _ _ _ bxR2;have G3:W2.frozen? ⟨w.heap.size+1+1,3,none⟩=false:=frozen_of_row _ _ _ _ _ bxR2
     go_wp2_with fail
     refine wp_region_noPanic ?_;refine bO (by kernel_rfl) (by kernel_rfl) ?_;simp only [List.pop_toArray,List.dropLast_cons_cons,List.dropLast_singleton,List.size_toArray,List.length_cons,List.length_nil,Nat.zero_add,Nat.reduceAdd];refine wpAny_of_held (S:=fun w'=>w'.cell? ⟨b8,0,none⟩=some (.slice av x.length cv)∧w'.cell? ⟨b8,3,none⟩=some (.int .i64 d)) _ _ _ _ ?_;have hHeld:(fun w':World=>w'.cell? ⟨b8,0,none⟩=some (.slice av x.length cv)∧w'.cell? ⟨b8,3,none⟩=some (.int .i64 d)) W2.drew:=⟨q0,q3⟩
     refine tkH (i:=0) (v:=?_) (hS:=hHeld) (hy:=Or.inl ⟨by rfl,?_⟩) (h:=?_)
     rotate_left 1
     ·(intro w0 hSw;(try dsimp only at hSw);go_simp;try (with_reducible rfl))
     simp only [Act.put,sSet];refine tkH (i:=1) (v:=?_) (hS:=hHeld) (hy:=Or.inl ⟨by rfl,?_⟩) (h:=?_)
     rotate_left 1
     ·(intro w0 hSw;(try dsimp only at hSw);go_simp;try (with_reducible rfl))
     simp only [Act.put,sSet];refine tkH (i:=2) (v:=?_) (hS:=hHeld) (hy:=Or.inl ⟨by rfl,?_⟩) (h:=?_)
     rotate_left 1
     ·(intro w0 hSw;(try dsimp only at hSw);go_simp;try (with_reducible rfl))
     simp only [Act.put,sSet];refine tkH (i:=3) (v:=?_) (hS:=hHeld) (hy:=Or.inl ⟨by rfl,?_⟩) (h:=?_)
     rotate_left 1
     ·(intro w0 hSw;(try dsimp only at hSw);go_simp;try (with_reducible rfl))
     simp only [Act.put,sSet];refine tkH (i:=4) (v:=?_) (hS:=hHeld) (hy:=Or.inl ⟨by rfl,?_⟩) (h:=?_)
     rotate_left 1
     ·(intro w0 hSw;(try dsimp only at hSw);go_simp;try (with_reducible rfl))
     simp only [Act.put,sSet];refine wpAnyH_ready (rs:=[5]) (by kernel_rfl) (by simp) (AllReadyH.cons (by simp only [List.getElem?_toArray,List.getElem?_cons_succ,List.getElem?_cons_zero];rfl) (fun K hK=>?_) AllReadyH.nil);go_simp;refine (aM8 d (by omega) hd16 W2.drew hdb2).mono ?_;rintro r w3 ⟨rfl,hw3⟩;obtain rfl:=hw3.symm;dsimp only;refine hK.out _ _ ?_ (fun hHeld=>?_)
     ·exact ⟨q0,q3⟩
     clear hK K
     try simp only [Act.put,sSet]
     refine tkH (i:=6) (v:=?_) (hS:=hHeld) (hy:=Or.inl ⟨by rfl,?_⟩) (h:=?_)
     rotate_left 1
     ·(intro w0 hSw;(try dsimp only at hSw);go_simp;try (with_reducible rfl))
     simp only [Act.put,sSet];refine wpAnyH_done (by kernel_rfl) ?_ _;refine dR (by simp only [List.size_toArray,List.length_cons,List.length_nil,Nat.zero_add,Nat.reduceAdd,Nat.reduceSub,List.getElem?_toArray,List.getElem?_cons_succ,List.getElem?_cons_zero];rfl) (fun K hK=>?_);go_simp;refine hK _ _ (NoPanic.normal ?_);clear hK K hHeld;go_wp2;refine xZ (b:=w.heap.size+1+1) (dD (w:=W2.drew) bxR2 _ _ _ _) (by rfl) ?_;refine ⟨false,0,x,d,.slice av x.length cv,HSays.out,rfl,in2.owned (fun k hk=>.inr (by omega)) (fun q hq=>?_),hxl,aH (w':=W2.drew) bel2.drew (by omega) _ _ _ _⟩;have hq2:q≠w.heap.size+1+1:=fun e=>in2.notX hq (.inr (by omega))
     exact (uA W2.drew (w.heap.size+1+1) _ _ _ _).block q (in2.ltSize hq) hq2
end Go.Proofs.YtgpaajdfkekjiaaGreatDoor
