/-
  A part of the proof of the statement All: texts of ours, made small by program (blanks, names).
-/
import Derived.Test.YtgpaajdfkekjiaaGreatDoorPg
import Derived.Test.YtgpaajdfkekjiaaGreatDoorQc
import Derived.Test.YtgpaajdfkekjiaaGreatDoorPo
import Derived.Deep.RegionWith
namespace Go.Proofs.YtgpaajdfkekjiaaGreatDoor
set_option maxHeartbeats 8000000
set_option maxRecDepth 100000
open Go.RowKit
theorem Tryz.infoWay:(Tryz.prog.info? 148).map (fun i=>(i.zero,i.size,i.bytes))=some (some (.agg #[.slice none 0 0,.int .i64 0,.int .i64 0,.int .i64 0]),4,48):=by kernel_rfl
theorem Tryz.asWay (v:Value) (w:World):(Instr.typeAssert (.iface 148 v) 20 148 false).run Tryz.prog w=.ok v w:=by kernel_rfl
def wayV (M:Duo) (e:List Nat×Value):Value:=.agg #[e.2,.int .i64 ((M.run e.1).1:Nat),.int .i64 ((M.run e.1).2:Nat),.int .i64 (M.difL e.1:Nat)]
theorem aMN (w:World) (a b c d:Value) (t:TypeId):∀j x,[a,b,c,d][j]?=some x→(w.alloc (.cells #[a,b,c,d] t)).drew.cell? ((⟨w.heap.size,0,none⟩:Addr).add j)=some x :=
 fun j x hx=>World.news_of_block (w:=(w.alloc (.cells #[a,b,c,d] t)).drew) (heap_alloc_new w _) j x hx
theorem WaysAt.more {M:Duo}{B P:Nat}{w w1 W:World}{hv:Value}{es:List (List Nat×Value)}(h:WaysAt M B w P hv es) (hW:Below w.heap.size w W) (e:List Nat×Value) (he:InAt w (inX B P hv) e.2 e.1){g' cap':Nat}
  (own1:w1.ownsRow B 148 4 (.slice (some ⟨g',0,none⟩) (es.length+1) cap') (es.length+1) (rowW M es++wayL M e)) (G:Grew W w1 hv g') :
  WaysAt M B (w1.setCell ⟨P,0,none⟩ (.slice (some ⟨g',0,none⟩) (es.length+1) cap')) P (.slice (some ⟨g',0,none⟩) (es.length+1) cap') (es++[e])∧Keeps (aR P hv) w (w1.setCell ⟨P,0,none⟩ (.slice (some ⟨g',0,none⟩) (es.length+1) cap')):=by
 have hPW:P<W.heap.size:=Nat.lt_of_lt_of_le h.lt hW.size;have hg:g'≠P:=by
  rcases G.hat with e1 | e1
  ·exact fun e2=>h.ap (by rw [e1,e2])
  ·omega
 have hs1:=G.grow.size;have hbP:w1.heap[P]?=w.heap[P]?:=(G.blk P hPW h.ap).trans (hW.block P h.lt);have cP:w1.cell? ⟨P,0,none⟩=some hv:=(World.cell?_of_block (w:=w) hbP).trans h.cell;have fP:w1.frozen? ⟨P,0,none⟩=false:=(World.frozen?_of_block (w:=w) hbP).trans h.frz;obtain ⟨w2,hw2⟩:∃w2,w2=w1.setCell ⟨P,0,none⟩ (.slice (some ⟨g',0,none⟩) (es.length+1) cap'):=⟨_,rfl⟩
 have sz2:w2.heap.size=w1.heap.size:=by rw [hw2,Deep.nblk_setCell]
 have ob:∀k,k≠P→w2.heap[k]?=w1.heap[k]?:=fun k hk=>by rw [hw2];exact Deep.blk_setCell_other _ _ _ _ hk
 have K:Keeps (aR P hv) w w2:=by
  refine ⟨?_,?_,?_,by rw [sz2];exact Nat.le_trans hW.size hs1,fun k hk hn=>?_⟩
  ·rw [hw2];exact G.grow.os.trans hW.os
  ·rw [hw2];exact G.grow.tape.trans hW.tape
  ·rw [hw2];exact G.grow.output.trans hW.output
  ·rw [ob k (fun e=>hn (.inl e)),G.blk k (Nat.lt_of_lt_of_le hk hW.size) (fun e=>hn (.inr e)),hW.block k hk]
 have cell2:w2.cell? ⟨P,0,none⟩=some (.slice (some ⟨g',0,none⟩) (es.length+1) cap'):=by rw [hw2];exact World.cell?_setCell_same _ _ _ cP
 have frz2:w2.frozen? ⟨P,0,none⟩=false:=by rw [hw2,World.frozen?_setCell];exact fP
 have own2:w2.ownsRow B 148 4 (.slice (some ⟨g',0,none⟩) (es.length+1) cap') (es.length+1) (rowW M es++wayL M e):=aL own1 (fun q hq=>ob q (by simp only [Value.ownBlock,Option.some.injEq] at hq;omega));rw [←hw2];clear hw2;have up:∀x:List Nat×Value,InAt w (inX B P hv) x.2 x.1→InAt w2 (inX B P (.slice (some ⟨g',0,none⟩) (es.length+1) cap')) x.2 x.1:=fun x hx=>by
  obtain ⟨a,c,hv',hi,hl,hn,hb,ho⟩:=hx.keeps K (fun _ h=>.inl h);refine ⟨a,c,hv',hi,hl,hn,(fun b eb=>⟨fun hh=>?_,(hb b eb).2⟩),ho⟩
  rcases hh with (hh | hh) | hh
  ·exact (hb b eb).1 (.inl (.inl hh))
  ·simp only [Value.ownBlock,Option.some.injEq] at hh
   rcases G.hat with e1 | e1
   ·exact (hb b eb).1 (.inl (.inr (by rw [e1,hh])))
   ·obtain ⟨a',_,hv2,_,_,_,hb0,_⟩:=hx
    rw [hv'] at hv2;simp only [Value.slice.injEq] at hv2;have:=(hb0 b (by rw [←hv2.1];exact eb)).2;have:=hW.size
    omega
  ·exact (hb b eb).1 (.inr hh)
 refine ⟨⟨h.lo,by rw [sz2];omega,cell2,frz2,?_,?_,fun x hx=>?_⟩,K⟩
 ·rw [aGN,List.length_append];exact own2
 ·simp only [Value.ownBlock,ne_eq,Option.some.injEq];exact hg
 ·rcases List.mem_append.1 hx with hx | hx
  ·exact up x (h.ins x hx)
  ·simp at hx;subst hx;exact up x he
theorem aJ1 (M:Duo) (B P:Nat) (hv:Value) (es:List (List Nat×Value)) (e:List Nat×Value) (w:World) (h:WaysAt M B w P hv es) (he:InAt w (inX B P hv) e.2 e.1) (hn:es.length≤10000) (hB:B≤w.heap.size) :
  Calls Tryz.prog 177 #[.pointer (some ⟨P,0,none⟩),.iface 148 (wayV M e)] w fun r w'=>r=.returned (.tuple #[])∧∃hv',(WaysAt M B w' P hv' (es++[e])∧∀q,hv'.ownBlock=some q→hv.ownBlock=some q∨w.heap.size≤q)∧Keeps (aR P hv) w w':=by
 obtain ⟨iW,hiW,zW0,zW1,zW2⟩:=info_parts Tryz.infoWay;obtain ⟨ve,hve⟩:∃v,v=e.2:=⟨_,rfl⟩
 obtain ⟨ae,hae⟩:∃x:Nat,x=(M.run e.1).1:=⟨_,rfl⟩
 obtain ⟨be,hbe⟩:∃x:Nat,x=(M.run e.1).2:=⟨_,rfl⟩
 obtain ⟨de,hde⟩:∃x:Nat,x=M.difL e.1:=⟨_,rfl⟩
 obtain ⟨av,lv,cv,rfl⟩:∃a n c,ve=.slice a n c:=by obtain ⟨a,c,e2,_⟩:=he;exact ⟨a,_,c,hve.trans e2⟩
 have eV:wayV M e=.agg #[.slice av lv cv,.int .i64 ae,.int .i64 be,.int .i64 de]:=by unfold wayV;rw [←hve,←hae,←hbe,←hde]
 have eL:wayL M e=[.slice av lv cv,.int .i64 ae,.int .i64 be,.int .i64 de]:=by unfold wayL;rw [←hve,←hae,←hbe,←hde]
 rw [eV];have HL:=aI eL;clear eL eV hve hae hbe hde;have cP:=h.cell;have fP:=h.frz;have hP:=h.lt;have own:=h.own;have hAs:=Tryz.asWay (.agg #[.slice av lv cv,.int .i64 ae,.int .i64 be,.int .i64 de])
 go_enter Tryz.func177,Tryz.ntmps177
 go_wp2_with fail
 refine wp_region_noPanic ?_;refine bO (by kernel_rfl) (by kernel_rfl) ?_;simp only [List.pop_toArray,List.dropLast_cons_cons,List.dropLast_singleton,List.size_toArray,List.length_cons,List.length_nil,Nat.zero_add,Nat.reduceAdd];refine wpAny_of_held (S:=fun w'=>w'.cell? ⟨P,0,none⟩=some hv) _ _ _ _ ?_;have hHeld:(fun w':World=>w'.cell? ⟨P,0,none⟩=some hv) w.drew:=cP;refine tkH (i:=0) (v:=?_) (hS:=hHeld) (hy:=Or.inl ⟨by rfl,?_⟩) (h:=?_)
 rotate_left 1
 ·(intro w0 hSw;(try dsimp only at hSw);go_simp;try (with_reducible rfl))
 simp only [Act.put,sSet];refine tkH (i:=1) (v:=?_) (hS:=hHeld) (hy:=Or.inl ⟨by rfl,?_⟩) (h:=?_)
 rotate_left 1
 ·(intro w0 hSw;(try dsimp only at hSw);go_simp;try (with_reducible rfl))
 simp only [Act.put,sSet];refine tkH (i:=2) (v:=?_) (hS:=hHeld) (hy:=Or.inl ⟨by rfl,?_⟩) (h:=?_)
 rotate_left 1
 ·(intro w0 hSw;(try dsimp only at hSw);go_simp;try (with_reducible rfl))
 simp only [Act.put,sSet];refine tkH (i:=3) (v:=?_) (hS:=hHeld) (hy:=Or.inl ⟨by rfl,?_⟩) (h:=?_)
 rotate_left 1
 ·(intro w0 hSw;(try dsimp only at hSw);go_simp;try (with_reducible rfl))
 simp only [Act.put,sSet];refine tkH (i:=4) (v:=?_) (hS:=hHeld) (hy:=Or.inl ⟨by rfl,?_⟩) (h:=?_)
 rotate_left 1
 ·(intro w0 hSw;(try dsimp only at hSw);go_simp;try (with_reducible rfl))
 simp only [Act.put,sSet];refine tkH (i:=5) (v:=?_) (hS:=hHeld) (hy:=Or.inl ⟨by rfl,?_⟩) (h:=?_)
 rotate_left 1
 ·(intro w0 hSw;(try dsimp only at hSw);go_simp;try (with_reducible rfl))
 simp only [Act.put,sSet];refine wpAnyH_ready (rs:=[6]) (by kernel_rfl) (by simp) (AllReadyH.cons (by simp only [List.getElem?_toArray,List.getElem?_cons_succ,List.getElem?_cons_zero];rfl) (fun K hK=>?_) AllReadyH.nil);go_simp;refine hK.out _ _ ?_ (fun hHeld=>?_)
 ·simp [go_sem,World.cell?_alloc_past,hP,cP]
 clear hK K
 try simp only [Act.put,sSet]
 refine wpAnyH_ready (rs:=[7]) (by kernel_rfl) (by simp) (AllReadyH.cons (by simp only [List.getElem?_toArray,List.getElem?_cons_succ,List.getElem?_cons_zero];rfl) (fun K hK=>?_) AllReadyH.nil);refine step_append_lies _ (by rfl) (.tmp 7) (.tmp 10) 150 (by rfl) B 148 iW (.agg #[.slice none 0 0,.int .i64 0,.int .i64 0,.int .i64 0]) 4 48 Tryz.underlying150 hiW zW0 zW1 zW2 rfl (by omega) hv es.length (rowW M es) (by rfl) ((own.alloc _).drew) ⟨w.heap.size,0,none⟩ 1 1 [.slice av lv cv,.int .i64 ae,.int .i64 be,.int .i64 de] (by rfl) rfl (aMN _ _ _ _ _ _) (by simp [Value.oneCell']) (by omega) (by unfold maxLen;omega) (by omega) (by simp;omega) _ rfl ?_;intro g' cap' w1 hown1 hgrow hat hlt1;have G8:Grew _ w1 hv g':=⟨hgrow,hat⟩
 have bW:Below w.heap.size w (w.alloc (.cells #[.slice av lv cv,.int .i64 ae,.int .i64 be,.int .i64 de] 148)).drew:=((Below.refl _ _).alloc (Nat.le_refl _) _).drew;have hbP:w1.heap[P]?=w.heap[P]?:=(G8.blk P (Nat.lt_of_lt_of_le hP bW.size) h.ap).trans (bW.block P hP);have cP1:w1.cell? ⟨P,0,none⟩=some hv:=(World.cell?_of_block (w:=w) hbP).trans cP;have fP1:w1.frozen? ⟨P,0,none⟩=false:=(World.frozen?_of_block (w:=w) hbP).trans fP;rw [←HL.out] at hown1;have fin:=aI (h.more bW e he hown1 G8);have hnew:=aI (show ∀q,(Value.slice (some ⟨g',0,none⟩) (es.length+1) cap').ownBlock=some q→hv.ownBlock=some q∨w.heap.size≤q from fun q hq=>by
  simp only [Value.ownBlock,Option.some.injEq] at hq
  rcases hat with e1 | e1
  ·exact .inl (by rw [e1,hq])
  ·have:=bW.size
   exact .inr (by rw [←hq,e1];exact this))
 refine hK.out _ _ ?_ (fun hHeld=>?_)
 ·exact cP1
 clear hK K
 try simp only [Act.put,sSet]
 refine tkH (i:=8) (v:=?_) (hS:=hHeld) (hy:=Or.inl ⟨by rfl,?_⟩) (h:=?_)
 rotate_left 1
 ·(intro w0 hSw;(try dsimp only at hSw);go_simp;try (with_reducible rfl))
 simp only [Act.put,sSet];refine wpAnyH_done (by kernel_rfl) ?_ _;refine dR (by simp only [List.size_toArray,List.length_cons,List.length_nil,Nat.zero_add,Nat.reduceAdd,Nat.reduceSub,List.getElem?_toArray,List.getElem?_cons_succ,List.getElem?_cons_zero];rfl) (fun K hK=>?_);go_simp;refine hK _ _ (NoPanic.normal ?_);clear hK K hHeld;go_wp2
 go_end0
 exact ⟨rfl,⟨_,fin.out.1,hnew.out⟩,fin.out.2⟩
theorem WaysAt.below {M:Duo}{B P:Nat}{w w':World}{hv:Value}{es:List (List Nat×Value)}(h:WaysAt M B w P hv es) (hb:Below w.heap.size w w'):WaysAt M B w' P hv es :=
 ⟨h.lo,Nat.lt_of_lt_of_le h.lt hb.size,(hb.cell (p:=⟨P,0,none⟩) h.lt).trans h.cell,(hb.frozen (p:=⟨P,0,none⟩) h.lt).trans h.frz,aL h.own (fun q hq=>hb.block q (h.own.lt q hq).2),h.ap,fun e he=>(h.ins e he).below hb⟩
theorem Keeps.alloc {S:Nat→Prop}{a b:World}(h:Keeps S a b) (o:Obj):Keeps S a (b.alloc o) :=
 h.trans (Keeps.of_below ((Below.refl _ _).alloc (Nat.le_refl _) _))
theorem WaysAt.less {M:Duo}{B P:Nat}{w w':World}{g n cap:Nat}{es:List (List Nat×Value)}{e:List Nat×Value}(h:WaysAt M B w P (.slice (some ⟨g,0,none⟩) (n+1) cap) (es++[e])) (hl:es.length=n) (hb:Below w.heap.size w w') :
  WaysAt M B (w'.setCell ⟨P,0,none⟩ (.slice (some ⟨g,0,none⟩) n cap)) P (.slice (some ⟨g,0,none⟩) n cap) es∧Keeps (fun k=>k=P) w (w'.setCell ⟨P,0,none⟩ (.slice (some ⟨g,0,none⟩) n cap)):=by
 have hgP:g≠P:=fun e=>h.ap (by rw [e];rfl)
 have cP:w'.cell? ⟨P,0,none⟩=some (.slice (some ⟨g,0,none⟩) (n+1) cap):=(hb.cell (p:=⟨P,0,none⟩) h.lt).trans h.cell;have fP:w'.frozen? ⟨P,0,none⟩=false:=(hb.frozen (p:=⟨P,0,none⟩) h.lt).trans h.frz;obtain ⟨w2,hw2⟩:∃w2,w2=w'.setCell ⟨P,0,none⟩ (.slice (some ⟨g,0,none⟩) n cap):=⟨_,rfl⟩
 have sz2:w2.heap.size=w'.heap.size:=by rw [hw2,Deep.nblk_setCell]
 have ob:∀k,k≠P→w2.heap[k]?=w'.heap[k]?:=fun k hk=>by rw [hw2];exact Deep.blk_setCell_other _ _ _ _ hk
 have K:Keeps (fun k=>k=P) w w2:=by
  refine ⟨?_,?_,?_,by rw [sz2];exact hb.size,fun k hk hn=>?_⟩
  ·rw [hw2];exact hb.os
  ·rw [hw2];exact hb.tape
  ·rw [hw2];exact hb.output
  ·rw [ob k hn,hb.block k hk]
 have cell2:w2.cell? ⟨P,0,none⟩=some (.slice (some ⟨g,0,none⟩) n cap):=by rw [hw2];exact World.cell?_setCell_same _ _ _ cP
 have frz2:w2.frozen? ⟨P,0,none⟩=false:=by rw [hw2,World.frozen?_setCell];exact fP
 have own2:w2.ownsRow B 148 4 (.slice (some ⟨g,0,none⟩) n cap) n (rowW M es):=by
  have hs:(es++[e]).length=n+1:=by simp [hl]
  have ho:=h.own;rw [hs] at ho;refine ⟨by rw [xD,hl],.inr ?_⟩
  rcases ho.2 with ⟨h',_⟩ | ⟨g',cap',cur,h',hbg,hr,hle,hmx,hcs,htk⟩
  ·cases h'
  ·simp only [Value.slice.injEq,Option.some.injEq,Addr.mk.injEq,and_true,true_and] at h'
   obtain ⟨rfl,rfl⟩:=h';have hglt:g<w.heap.size:=(Array.getElem?_eq_some_iff.1 hr).1;refine ⟨g,cap,cur,rfl,hbg,by rw [ob g hgP,hb.block g hglt];exact hr,by omega,hmx,hcs,?_⟩;have e1:(cur.toList.take ((n+1)*4)).take (n*4)=cur.toList.take (n*4):=(by rw [List.take_take,Nat.min_eq_left (by omega)])
   rw [←e1,htk,aAA]
   congr 1
   rw [←hl,List.take_left]
 rw [←hw2];clear hw2;refine ⟨⟨h.lo,by rw [sz2];exact Nat.lt_of_lt_of_le h.lt hb.size,cell2,frz2,by rw [hl];exact own2,h.ap,fun x hx=>?_⟩,K⟩
 exact (h.ins x (List.mem_append.2 (.inl hx))).keeps K (fun k hk=>.inl (.inl hk))
theorem aL3 (M:Duo) (B P:Nat) (hv:Value) (es:List (List Nat×Value)) (e:List Nat×Value) (w:World) (h:WaysAt M B w P hv (es++[e])) (hn:es.length≤10000) :
  Calls Tryz.prog 176 #[.pointer (some ⟨P,0,none⟩)] w fun r w'=>r=.returned (.iface 148 (wayV M e))∧∃hv',WaysAt M B w' P hv' es∧hv'.ownBlock=hv.ownBlock∧Keeps (fun k=>k=P) w w':=by
 obtain ⟨n,hnl⟩:∃n,es.length=n:=⟨_,rfl⟩
 have hs:(es++[e]).length=n+1:=by simp [hnl]
 obtain ⟨g,cap,hsl,hcap⟩:=h.slice (by omega);rw [hs] at hsl hcap;subst hsl;have hge:(es++[e]).getD n bJ=e:=by rw [←hnl];simp [List.getD_eq_getElem?_getD]
 have cell:∀c x,c<4→(wayL M e)[c]?=some x→w.cell? ⟨g,n*4+c,none⟩=some x:=fun c x hc hx=>by rw [h.get (g:=g) rfl (show n<(es++[e]).length by omega) hc,hge,hx]
 obtain ⟨ve,hve⟩:∃v,v=e.2:=⟨_,rfl⟩
 obtain ⟨ae,hae⟩:∃x:Nat,x=(M.run e.1).1:=⟨_,rfl⟩
 obtain ⟨be,hbe⟩:∃x:Nat,x=(M.run e.1).2:=⟨_,rfl⟩
 obtain ⟨de,hde⟩:∃x:Nat,x=M.difL e.1:=⟨_,rfl⟩
 obtain ⟨av,lv,cv,rfl⟩:∃a n c,ve=.slice a n c:=by obtain ⟨a,c,e2,_⟩:=h.ins e (by simp);exact ⟨a,_,c,hve.trans e2⟩
 have eV:wayV M e=.agg #[.slice av lv cv,.int .i64 ae,.int .i64 be,.int .i64 de]:=by unfold wayV;rw [←hve,←hae,←hbe,←hde]
 have c0:w.cell? ⟨g,n*4,none⟩=some (.slice av lv cv):=cell 0 _ (by omega) (by rw [hve];rfl);have c1:w.cell? ⟨g,n*4+1,none⟩=some (.int .i64 ae):=cell 1 _ (by omega) (by rw [hae];rfl);have c2:w.cell? ⟨g,n*4+2,none⟩=some (.int .i64 be):=cell 2 _ (by omega) (by rw [hbe];rfl);have c3:w.cell? ⟨g,n*4+3,none⟩=some (.int .i64 de):=cell 3 _ (by omega) (by rw [hde];rfl);rw [eV];clear eV cell hve hae hbe hde hge;have cP:=h.cell;have fP:=h.frz;have hP:=h.lt;have n0:(0:Int)≤(n:Int):=by omega
 have n1:(n:Int)≤(cap:Int):=by omega
 have HN:=aI hnl;have hn':n≤10000:=by omega
 have fin:=aI (h.less hnl (Below.refl _ _));clear hs hnl
 go_enter Tryz.func176,Tryz.ntmps176
 go_wp2
 go_ret
 exact ⟨rfl,_,fin.out.1.below ((Below.refl _ _).alloc (Nat.le_refl _) _),rfl,fin.out.2.alloc _⟩
theorem Tryz.mPush (P:Nat) (w:World):(method 348 146 (.pointer (some ⟨P,0,none⟩)) "Push").run Tryz.prog w=.ok (177,.pointer (some ⟨P,0,none⟩)) w:=by kernel_rfl
theorem Tryz.mPop (P:Nat) (w:World):(method 348 146 (.pointer (some ⟨P,0,none⟩)) "Pop").run Tryz.prog w=.ok (176,.pointer (some ⟨P,0,none⟩)) w:=by kernel_rfl
theorem Tryz.mLen {P:Nat}{w:World}{hv:Value}(h:w.cell? ⟨P,0,none⟩=some hv):(method 348 146 (.pointer (some ⟨P,0,none⟩)) "Len").run Tryz.prog w=.ok (85,hv) w:=by
 have e:(method 348 146 (.pointer (some ⟨P,0,none⟩)) "Len").run Tryz.prog w=(do let v ←loadVar 150 ⟨P,0,none⟩;pure (85,v):Sem (FuncId×Value)).run Tryz.prog w:=by kernel_rfl
 rw [e]
 simp [go_sem,h]
theorem Tryz.mLess {P:Nat}{w:World}{hv:Value}(h:w.cell? ⟨P,0,none⟩=some hv):(method 348 146 (.pointer (some ⟨P,0,none⟩)) "Less").run Tryz.prog w=.ok (175,hv) w:=by
 have e:(method 348 146 (.pointer (some ⟨P,0,none⟩)) "Less").run Tryz.prog w=(do let v ←loadVar 150 ⟨P,0,none⟩;pure (175,v):Sem (FuncId×Value)).run Tryz.prog w:=by kernel_rfl
 rw [e]
 simp [go_sem,h]
theorem Tryz.mSwap {P:Nat}{w:World}{hv:Value}(h:w.cell? ⟨P,0,none⟩=some hv):(method 348 146 (.pointer (some ⟨P,0,none⟩)) "Swap").run Tryz.prog w=.ok (178,hv) w:=by
 have e:(method 348 146 (.pointer (some ⟨P,0,none⟩)) "Swap").run Tryz.prog w=(do let v ←loadVar 150 ⟨P,0,none⟩;pure (178,v):Sem (FuncId×Value)).run Tryz.prog w:=by kernel_rfl
 rw [e]
 simp [go_sem,h]
def cT (es:List (List Nat×Value)):List (List Nat):=es.map Prod.fst
theorem dJ (es:List (List Nat×Value)):(cT es).length=es.length:=by simp [cT]
theorem rS (es:List (List Nat×Value)) (k:Nat):(cT es).getD k []=(es.getD k bJ).1:=by
 simp only [cT,List.getD_eq_getElem?_getD,List.getElem?_map]
 cases es[k]?<;>rfl
theorem iX (es:List (List Nat×Value)) (k:Nat):dI (cT es) k=code (es.getD k bJ).1:=by unfold dI;rw [rS]
theorem iJ (es:List (List Nat×Value)) (i j:Nat):cT (jY es i j)=aAI (cT es) i j:=by
 unfold jY aAI;rw [rS,rS]
 simp [cT,List.map_set]
theorem gM (es:List (List Nat×Value)){i j:Nat}(hi:i<es.length) (hj:j<es.length):(jY es i j).Perm es:=by
 have:((es.set i es[j]).set j es[i]).Perm es:=List.set_set_perm hi hj;unfold jY
 simpa [List.getD_eq_getElem?_getD,hi,hj] using this
def GoodW (es:List (List Nat×Value)):Prop:=∀e∈es,Dig e.1∧e.1.length≤500
theorem GoodW.perm {es es':List (List Nat×Value)}(h:GoodW es) (p:es'.Perm es):GoodW es':=fun e he=>h e (p.mem_iff.1 he)
theorem GoodW.at {es:List (List Nat×Value)}(h:GoodW es){k:Nat}(hk:k<es.length):Dig (es.getD k bJ).1∧(es.getD k bJ).1.length≤500:=by
 refine h _ ?_;rw [List.getD_eq_getElem?_getD,List.getElem?_eq_getElem hk];exact List.getElem_mem hk
theorem fV (M:Duo) (B P:Nat) (hv:Value) (es:List (List Nat×Value)) (i j:Nat) (w:World) (h:WaysAt M B w P hv es) (hi:i<es.length) (hj:j<es.length) (hn:es.length≤10000)
  (di:Dig (es.getD i bJ).1) (dj:Dig (es.getD j bJ).1) (li:(es.getD i bJ).1.length≤500){b:Bool}(hb:decide (code (es.getD i bJ).1<code (es.getD j bJ).1)=b) :
  Calls Tryz.prog 175 #[hv,.int .i64 i,.int .i64 j] w fun e w'=>e=.returned (.bool b)∧∃n,w'=w.drewN n:=by
 subst hb;exact aIG M B P hv es i j w h hi hj hn di dj li
def pX (P:Nat):Value:=.iface 146 (.pointer (some ⟨P,0,none⟩))
theorem aMA (M:Duo) (B P:Nat) (hv:Value) (es:List (List Nat×Value)) (j:Nat) (w:World) (h:WaysAt M B w P hv es) (hg:GoodW es) (hj:j<es.length) (hn:es.length≤10000) (hu:UpInv (cT es) es.length j) :
  Calls Tryz.prog 109 #[pX P,.int .i64 j] w fun r w'=>r=.returned (.tuple #[])∧∃es',es'.Perm es∧WaysAt M B w' P hv es'∧IsHeap (cT es') es.length∧Keeps (aR P hv) w w':=by
 obtain ⟨n,hnl⟩:∃n,es.length=n:=⟨_,rfl⟩
 rw [hnl] at hj hn hu ⊢;have HN:=aI hnl;clear hnl;unfold pX
 go_enter Tryz.func109,Tryz.ntmps109
 go_wp2_with fail
 go_loopw [1,4] (fun jv _ wr=>∃(jj:Nat) (es':List (List Nat×Value)),jv=.int .i64 jj∧jj<n∧es'.Perm es∧WaysAt M B wr P hv es'∧UpInv (cT es') n jj∧Keeps (aR P hv) w wr) (fun jv _ _=>(intOf jv).toNat)
 case atStart=>exact ⟨j,es,rfl,hj,List.Perm.refl _,h,hu,Keeps.refl _ _⟩
 case round =>
  clear h hu hj;obtain ⟨jj,es',rfl,hj,hp,h,hu,K⟩:=hrel;have hlen:es'.length=n:=hp.length_eq.trans HN.out;have cP:=h.cell
  by_cases h0:jj=0
  ·subst h0
   go_wp2
   go_end0
   exact ⟨rfl,es',hp,h,hu.done (.inl rfl),K⟩
  ·obtain ⟨ii,hii⟩:∃ii:Nat,(jj - 1) / 2=ii:=⟨_,rfl⟩
   have hq:(jj:Int) - 1=((jj - 1:Nat):Int):=(by omega)
   have hq2:((jj - 1:Nat):Int) / 2=(ii:Int):=(by omega)
   have hne:((ii:Int)==(jj:Int))=false:=(by simp;omega)
   have hi:ii<n:=(by omega)
   have gd:=hg.perm hp;have gi:=gd.at (show ii<es'.length by omega);have gj:=gd.at (show jj<es'.length by omega);have mL:=Tryz.mLess cP;rw [←hii] at hi;have HII:=aI hii;have ki:=iX es' ii;have kj:=iX es' jj;have hjl:jj<es'.length:=(by omega)
   have hil:ii<es'.length:=(by omega)
   have hn10:es'.length≤10000:=by omega
   by_cases hlt:code (es'.getD jj bJ).1<code (es'.getD ii bJ).1
   ·have hK:=hu.step (by omega) hj (by rw [dJ,hlen];exact Nat.le_refl _) (by rw [hii,ki,kj];exact hlt)
    have HST:=aI hK;clear hii ki kj hK hu hi
    go_wp2_with (first | (go_at_call 175;refine (fV M B P hv es' jj ii _ h hjl hil hn10 gj.1 gi.1 gj.2 (decide_eq_true hlt)).mono ?_;rintro e w1 ⟨rfl,nq,rfl⟩;have h1:=h.below (below_drewN (Below.refl _ _) nq);have mS:=Tryz.mSwap h1.cell) | (go_at_call 178;refine (nW M B P hv es' ii jj _ h1 hil hjl hn10).mono ?_;rintro e w2 ⟨rfl,h2,K2⟩))
    go_roundw
    case rel =>
     have hst:=HST.out;rw [←iJ,HII.out] at hst
     exact ⟨ii,jY es' ii jj,rfl,by have:=HII.out;omega,(gM es' hil hjl).trans hp,h2,hst,(K.trans (Keeps.of_below (below_drewN (Below.refl _ _) nq))).trans K2⟩
    case measure=>have:=HII.out;simp [intOf];omega
   ·have hK:=hu.done (.inr (by rw [hii,ki,kj];omega))
    have HST:=aI hK;clear hii ki kj hK hu hi
    go_wp2_with (first | (go_at_call 175;refine (fV M B P hv es' jj ii _ h hjl hil hn10 gj.1 gi.1 gj.2 (decide_eq_false hlt)).mono ?_;rintro e w1 ⟨rfl,nq,rfl⟩;have h1:=h.below (below_drewN (Below.refl _ _) nq)))
    go_end0
    exact ⟨rfl,es',hp,h1,HST.out,K.trans (Keeps.of_below (below_drewN (Below.refl _ _) nq))⟩
theorem sV (es:List (List Nat×Value)){i j:Nat}(k:Nat) (hi:k≠i) (hj:k≠j):(jY es i j).getD k bJ=es.getD k bJ:=by
 unfold jY;simp only [List.getD_eq_getElem?_getD];rw [List.getElem?_set_ne (by omega),List.getElem?_set_ne (by omega)]
theorem belW {w w':World}{n:Nat}(h:w'=w.drewN n):Below w.heap.size w w':=by rw [h];exact below_drewN (Below.refl _ _) n
theorem aI0 (M:Duo) (B P:Nat) (hv:Value) (es:List (List Nat×Value)) (n:Nat) (w:World) (h:WaysAt M B w P hv es) (hg:GoodW es) (hnl:n≤es.length) (hn:es.length≤10000) (hu:DownInv (cT es) n 0) :
  Calls Tryz.prog 106 #[pX P,.int .i64 0,.int .i64 n] w fun r w'=>(∃b,r=.returned (.bool b))∧∃es',es'.Perm es∧(∀k,n≤k→es'.getD k bJ=es.getD k bJ)∧WaysAt M B w' P hv es'∧IsHeap (cT es') n∧Keeps (aR P hv) w w':=by
 unfold pX
 go_enter Tryz.func106,Tryz.ntmps106
 go_wp2_with fail
 go_loopw [7,8,9,10] (fun iv _ _ _ wr=>∃(i:Nat) (es':List (List Nat×Value)),iv=.int .i64 i∧i≤10000∧es'.Perm es∧(∀k,n≤k→es'.getD k bJ=es.getD k bJ)∧WaysAt M B wr P hv es'∧DownInv (cT es') n i∧Keeps (aR P hv) w wr) (fun iv _ _ _ _=>10000 - (intOf iv).toNat)
 case atStart=>exact ⟨0,es,rfl,Nat.zero_le _,List.Perm.refl _,fun _ _=>rfl,h,hu,Keeps.refl _ _⟩
 case round =>
  clear h hu;obtain ⟨i,es',rfl,hi10,hp,hfar,h,hu,K⟩:=hrel;have hlen:es'.length=es.length:=hp.length_eq;have cP:=h.cell;have HF:=aI hfar;clear hfar
  by_cases hA:n≤2*i+1
  ·have hAI:(n:Int)≤2*(i:Int)+1:=by omega
   have HD:=aI (hu.done (fun k k0 kn e=>by omega));go_wp2
   go_ret
   exact ⟨⟨_,rfl⟩,es',hp,HF.out,h,HD.out,K⟩
  ·obtain ⟨j1,hj1⟩:∃j1:Nat,2*i+1=j1:=⟨_,rfl⟩
   obtain ⟨j2,hj2⟩:∃j2:Nat,j1+1=j2:=⟨_,rfl⟩
   have q1:2*(i:Int)+1=(j1:Int):=(by omega)
   have q2:(j1:Int)+1=(j2:Int):=(by omega)
   have q3:¬(n:Int)≤(j1:Int):=(by omega)
   have q4:¬(j1:Int)<0:=(by omega)
   have gd:=hg.perm hp;have il:i<es'.length:=(by omega)
   have l1:j1<es'.length:=(by omega)
   have gi:=gd.at il;have g1:=gd.at l1;have mL:=Tryz.mLess cP;have ki:=iX es' i;have k1:=iX es' j1;have hn10:es'.length≤10000:=(by omega)
   have HJ1:=aI hj1;have HJ2:=aI hj2;have HKI:=aI ki;have HK1:=aI k1;have HU:=aI hu;have HA:=aI hA;have hi1:i<5000:=(by omega)
   clear hj1 hj2 ki k1 hu hA
   by_cases hB:j2<n
   ·have q5:(j2:Int)<(n:Int):=by omega
    have l2:j2<es'.length:=(by omega)
    have g2:=gd.at l2;have HK2:=aI (iX es' j2)
    by_cases hc:code (es'.getD j2 bJ).1<code (es'.getD j1 bJ).1
    ·have lj:=l2
     have gj:=g2;have HKJ:=HK2;have HLE:=aI (show ∀k,0<k→k<n→(k - 1) / 2=i→dI (cT es') j2≤dI (cT es') k from fun k k0 kn e=>by
      have a:=HJ1.out;have b:=HJ2.out;have:k=j1∨k=j2:=by omega
      rcases this with rfl | rfl
      ·rw [HK1.out,HK2.out];omega
      ·exact Nat.le_refl _)
     by_cases hlt:code (es'.getD j2 bJ).1<code (es'.getD i bJ).1
     ·have hK:=HU.out.step (j:=j2) (by have:=HJ1.out;have:=HJ2.out;omega) (by have:=HJ1.out;have:=HJ2.out;omega) (by have:=HJ1.out;have:=HJ2.out;omega) (by rw [dJ,hlen];exact hnl) (by rw [HKI.out,HKJ.out];exact hlt) HLE.out
      have HST:=aI hK;clear hK
      go_wp2_with fail
      refine (fV M B P hv es' j2 j1 _ h l2 l1 hn10 g2.1 g1.1 g2.2 (decide_eq_true hc)).mono ?_;rintro e w0 ⟨rfl,n0,hw0⟩;have bel0:Below wr.heap.size wr w0:=(by rw [hw0];exact below_drewN (Below.refl _ _) n0)
      clear hw0;have hW:=h.below bel0;have mL2:=Tryz.mLess hW.cell;have KW:=K.trans (Keeps.of_below (S:=aR P hv) bel0)
      go_wp2_with fail
      refine (fV M B P hv es' j2 i _ hW lj il hn10 gj.1 gi.1 gj.2 (decide_eq_true hlt)).mono ?_;rintro e w1 ⟨rfl,nq,hw1⟩;have bel1:=belW hw1;clear hw1;have h1:=hW.below bel1;have mS:=Tryz.mSwap h1.cell
      go_wp2_with fail
      refine (nW M B P hv es' i j2 _ h1 il lj hn10).mono ?_;rintro e w2 ⟨rfl,h2,K2⟩;go_wp2
      go_roundw
      case rel =>
       have hst:=HST.out;rw [←iJ] at hst
       exact ⟨j2,jY es' i j2,rfl,by omega,(gM es' il lj).trans hp,fun k hk=>by rw [sV es' k (by have:=HJ1.out;have:=HJ2.out;omega) (by have:=HJ1.out;have:=HJ2.out;omega)];exact HF.out k hk,h2,hst,(KW.trans (Keeps.of_below bel1)).trans K2⟩
      case measure=>have:=HJ1.out;have:=HJ2.out;simp [intOf];omega
     ·have HST:=aI (HU.out.done (fun k k0 kn e=>by have:=HLE.out k k0 kn e;rw [HKJ.out] at this;rw [HKI.out];omega))
      go_wp2_with fail
      refine (fV M B P hv es' j2 j1 _ h l2 l1 hn10 g2.1 g1.1 g2.2 (decide_eq_true hc)).mono ?_;rintro e w0 ⟨rfl,n0,hw0⟩;have bel0:Below wr.heap.size wr w0:=(by rw [hw0];exact below_drewN (Below.refl _ _) n0)
      clear hw0;have hW:=h.below bel0;have mL2:=Tryz.mLess hW.cell;have KW:=K.trans (Keeps.of_below (S:=aR P hv) bel0)
      go_wp2_with fail
      refine (fV M B P hv es' j2 i _ hW lj il hn10 gj.1 gi.1 gj.2 (decide_eq_false hlt)).mono ?_;rintro e w1 ⟨rfl,nq,hw1⟩;have bel1:=belW hw1;clear hw1;have h1:=hW.below bel1;go_wp2
      go_ret
      exact ⟨⟨_,rfl⟩,es',hp,HF.out,h1,HST.out,KW.trans (Keeps.of_below bel1)⟩
    ·have lj:=l1
     have gj:=g1;have HKJ:=HK1;have HLE:=aI (show ∀k,0<k→k<n→(k - 1) / 2=i→dI (cT es') j1≤dI (cT es') k from fun k k0 kn e=>by
      have a:=HJ1.out;have b:=HJ2.out;have:k=j1∨k=j2:=by omega
      rcases this with rfl | rfl
      ·exact Nat.le_refl _
      ·rw [HK1.out,HK2.out];omega)
     by_cases hlt:code (es'.getD j1 bJ).1<code (es'.getD i bJ).1
     ·have hK:=HU.out.step (j:=j1) (by have:=HJ1.out;have:=HJ2.out;omega) (by have:=HJ1.out;have:=HJ2.out;omega) (by have:=HJ1.out;have:=HJ2.out;omega) (by rw [dJ,hlen];exact hnl) (by rw [HKI.out,HKJ.out];exact hlt) HLE.out
      have HST:=aI hK;clear hK
      go_wp2_with fail
      refine (fV M B P hv es' j2 j1 _ h l2 l1 hn10 g2.1 g1.1 g2.2 (decide_eq_false hc)).mono ?_;rintro e w0 ⟨rfl,n0,hw0⟩;have bel0:Below wr.heap.size wr w0:=(by rw [hw0];exact below_drewN (Below.refl _ _) n0)
      clear hw0;have hW:=h.below bel0;have mL2:=Tryz.mLess hW.cell;have KW:=K.trans (Keeps.of_below (S:=aR P hv) bel0)
      go_wp2_with fail
      refine (fV M B P hv es' j1 i _ hW lj il hn10 gj.1 gi.1 gj.2 (decide_eq_true hlt)).mono ?_;rintro e w1 ⟨rfl,nq,hw1⟩;have bel1:=belW hw1;clear hw1;have h1:=hW.below bel1;have mS:=Tryz.mSwap h1.cell
      go_wp2_with fail
      refine (nW M B P hv es' i j1 _ h1 il lj hn10).mono ?_;rintro e w2 ⟨rfl,h2,K2⟩;go_wp2
      go_roundw
      case rel =>
       have hst:=HST.out;rw [←iJ] at hst
       exact ⟨j1,jY es' i j1,rfl,by omega,(gM es' il lj).trans hp,fun k hk=>by rw [sV es' k (by have:=HJ1.out;have:=HJ2.out;omega) (by have:=HJ1.out;have:=HJ2.out;omega)];exact HF.out k hk,h2,hst,(KW.trans (Keeps.of_below bel1)).trans K2⟩
      case measure=>have:=HJ1.out;have:=HJ2.out;simp [intOf];omega
     ·have HST:=aI (HU.out.done (fun k k0 kn e=>by have:=HLE.out k k0 kn e;rw [HKJ.out] at this;rw [HKI.out];omega))
      go_wp2_with fail
      refine (fV M B P hv es' j2 j1 _ h l2 l1 hn10 g2.1 g1.1 g2.2 (decide_eq_false hc)).mono ?_;rintro e w0 ⟨rfl,n0,hw0⟩;have bel0:Below wr.heap.size wr w0:=(by rw [hw0];exact below_drewN (Below.refl _ _) n0)
      clear hw0;have hW:=h.below bel0;have mL2:=Tryz.mLess hW.cell;have KW:=K.trans (Keeps.of_below (S:=aR P hv) bel0)
      go_wp2_with fail
      refine (fV M B P hv es' j1 i _ hW lj il hn10 gj.1 gi.1 gj.2 (decide_eq_false hlt)).mono ?_;rintro e w1 ⟨rfl,nq,hw1⟩;have bel1:=belW hw1;clear hw1;have h1:=hW.below bel1;go_wp2
      go_ret
      exact ⟨⟨_,rfl⟩,es',hp,HF.out,h1,HST.out,KW.trans (Keeps.of_below bel1)⟩
   ·have q5:¬(j2:Int)<(n:Int):=by omega
    have lj:=l1;have gj:=g1;have HKJ:=HK1;have HLE:=aI (show ∀k,0<k→k<n→(k - 1) / 2=i→dI (cT es') j1≤dI (cT es') k from fun k k0 kn e=>by
     have a:=HJ1.out;have b:=HJ2.out;have:k=j1:=by omega
     rw [this];exact Nat.le_refl _)
    by_cases hlt:code (es'.getD j1 bJ).1<code (es'.getD i bJ).1
    ·have hK:=HU.out.step (j:=j1) (by have:=HJ1.out;have:=HJ2.out;omega) (by have:=HJ1.out;have:=HJ2.out;omega) (by have:=HJ1.out;have:=HJ2.out;omega) (by rw [dJ,hlen];exact hnl) (by rw [HKI.out,HKJ.out];exact hlt) HLE.out
     have HST:=aI hK;clear hK;have hW:=h;have KW:=K
     go_wp2_with fail
     refine (fV M B P hv es' j1 i _ hW lj il hn10 gj.1 gi.1 gj.2 (decide_eq_true hlt)).mono ?_;rintro e w1 ⟨rfl,nq,hw1⟩;have bel1:=belW hw1;clear hw1;have h1:=hW.below bel1;have mS:=Tryz.mSwap h1.cell
     go_wp2_with fail
     refine (nW M B P hv es' i j1 _ h1 il lj hn10).mono ?_;rintro e w2 ⟨rfl,h2,K2⟩;go_wp2
     go_roundw
     case rel =>
      have hst:=HST.out;rw [←iJ] at hst
      exact ⟨j1,jY es' i j1,rfl,by omega,(gM es' il lj).trans hp,fun k hk=>by rw [sV es' k (by have:=HJ1.out;have:=HJ2.out;omega) (by have:=HJ1.out;have:=HJ2.out;omega)];exact HF.out k hk,h2,hst,(KW.trans (Keeps.of_below bel1)).trans K2⟩
     case measure=>have:=HJ1.out;have:=HJ2.out;simp [intOf];omega
    ·have HST:=aI (HU.out.done (fun k k0 kn e=>by have:=HLE.out k k0 kn e;rw [HKJ.out] at this;rw [HKI.out];omega))
     have hW:=h;have KW:=K
     go_wp2_with fail
     refine (fV M B P hv es' j1 i _ hW lj il hn10 gj.1 gi.1 gj.2 (decide_eq_false hlt)).mono ?_;rintro e w1 ⟨rfl,nq,hw1⟩;have bel1:=belW hw1;clear hw1;have h1:=hW.below bel1;go_wp2
     go_ret
     exact ⟨⟨_,rfl⟩,es',hp,HF.out,h1,HST.out,KW.trans (Keeps.of_below bel1)⟩
end Go.Proofs.YtgpaajdfkekjiaaGreatDoor
