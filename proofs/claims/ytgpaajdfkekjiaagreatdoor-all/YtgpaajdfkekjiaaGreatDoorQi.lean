/-
  A part of the proof of the statement All: texts of ours, made small by program (blanks, names).
-/
import Derived.Test.YtgpaajdfkekjiaaGreatDoorPg
import Derived.Test.YtgpaajdfkekjiaaGreatDoorQg
import Derived.Test.YtgpaajdfkekjiaaGreatDoorPe
import Derived.Test.YtgpaajdfkekjiaaGreatDoorPf
import Derived.Test.YtgpaajdfkekjiaaGreatDoorQh
import Derived.Test.YtgpaajdfkekjiaaGreatDoorPr
import Derived.Handy
namespace Go.Proofs.YtgpaajdfkekjiaaGreatDoor
set_option maxHeartbeats 8000000
set_option maxRecDepth 100000
open Go.RowKit
theorem Tryz.infoWayR:(Tryz.prog.info? 118).map (fun i=>(i.zero,i.size,i.bytes))=some (some (.agg #[.int .i64 0,.int .i64 0,.slice none 0 0]),3,40):=by kernel_rfl
def wayR (M:Duo) (e:List Nat×Value):List Value:=[.int .i64 ((M.run e.1).1:Nat),.int .i64 ((M.run e.1).2:Nat),e.2]
def rowR (M:Duo) (es:List (List Nat×Value)):List Value:=es.flatMap (wayR M)
theorem aD6 (M:Duo):∀(es:List (List Nat×Value)) (i c:Nat),i<es.length→c<3→(rowR M es)[i*3+c]?=(wayR M (es.getD i bJ))[c]?
 | [],i,c,h,_=>by simp at h
 | e :: es,0,c,_,hc=>by
  have:rowR M (e :: es)=wayR M e++rowR M es:=rfl;rw [this,Nat.zero_mul,Nat.zero_add,List.getElem?_append_left (by simp [wayR];omega)]
  rfl
 | e :: es,i+1,c,hi,hc=>by
  have h:=aD6 M es i c (by simpa using hi) hc;have e1:(i+1)*3+c=(i*3+c)+3:=by omega
  have e2:rowR M (e :: es)=wayR M e++rowR M es:=rfl;rw [e1,e2,List.getElem?_append_right (by simp [wayR])]
  simpa [wayR] using h
theorem aGM (M:Duo) (es:List (List Nat×Value)) (e:List Nat×Value):rowR M (es++[e])=rowR M es++wayR M e:=by simp [rowR]
def inR (B:Nat) (lv:Value) (k:Nat):Prop:=lv.ownBlock=some k∨k<B
structure RWays (M:Duo) (B:Nat) (w:World) (lv:Value) (es:List (List Nat×Value)):Prop where
 bs:B≤w.heap.size
 own:w.ownsRow B 118 3 lv es.length (rowR M es)
 ins:∀e∈es,InAt w (inR B lv) e.2 e.1
 nil:∀e∈es,e.1=[]→e.2=.slice none 0 0
section
variable {M:Duo}{B:Nat}{w w':World}{lv:Value}{es:List (List Nat×Value)}
theorem RWays.below (h:RWays M B w lv es) (hb:Below w.heap.size w w'):RWays M B w' lv es :=
 ⟨Nat.le_trans h.bs hb.size,aL h.own (fun q hq=>hb.block q (h.own.lt q hq).2),fun e he=>(h.ins e he).below hb,h.nil⟩
theorem RWays.slice (h:RWays M B w lv es) (h0:0<es.length):∃g cap,lv=.slice (some ⟨g,0,none⟩) es.length cap∧B≤g∧g<w.heap.size∧∀i c,i<es.length→c<3→w.cell? ⟨g,i*3+c,none⟩=(wayR M (es.getD i bJ))[c]?:=by
 have o:=h.own
 rcases h.own.2 with ⟨_,h2⟩ | ⟨g,cap,cur,rfl,_,_,hc,_⟩
 ·omega
 ·refine ⟨g,cap,rfl,(o.lt g rfl).1,(o.lt g rfl).2,fun i c hi hc=>?_⟩
  rw [o.cellAt _ (by omega),aD6 M es i c hi hc]
theorem RWays.inAt (h:RWays M B w lv es){i:Nat}(hi:i<es.length):InAt w (inR B lv) (es.getD i bJ).2 (es.getD i bJ).1:=by
 refine h.ins _ ?_;rw [List.getD_eq_getElem?_getD,List.getElem?_eq_getElem hi];exact List.getElem_mem hi
theorem RWays.more (h:RWays M B w lv es) (e:List Nat×Value) (hne:e.1≠[]) (he:InAt w (inR B lv) e.2 e.1){g' cap':Nat}
  (own':w'.ownsRow B 118 3 (.slice (some ⟨g',0,none⟩) (es.length+1) cap') (es.length+1) (rowR M es++wayR M e)) (G:Grew w w' lv g'):RWays M B w' (.slice (some ⟨g',0,none⟩) (es.length+1) cap') (es++[e]):=by
 have K:Keeps (fun k=>lv.ownBlock=some k) w w':=⟨G.grow.os,G.grow.tape,G.grow.output,G.grow.size,fun k hk hs=>G.grow.block k hk (fun e=>hs e.symm)⟩
 have keep:∀e:List Nat×Value,InAt w (inR B lv) e.2 e.1→InAt w' (inR B (.slice (some ⟨g',0,none⟩) (es.length+1) cap')) e.2 e.1:=fun e he=>by
  have h1:=he.keeps K (fun k hk=>Or.inl hk);obtain ⟨a,c,hv,hi,hl,hn,hb,ho⟩:=h1;obtain ⟨a0,c0,hv0,_,_,_,hb0,_⟩:=he;refine ⟨a,c,hv,hi,hl,hn,fun b e=>⟨fun hx=>?_,(hb b e).2⟩,ho⟩
  rcases hx with hx | hx
  ·simp only [Value.ownBlock,Option.some.injEq] at hx
   rcases G.hat with h' | h'
   ·exact (hb b e).1 (.inl (by rw [h',hx]))
   ·rw [hv] at hv0
    simp only [Value.slice.injEq] at hv0;have:=(hb0 b (hv0.1▸e)).2
    omega
  ·exact (hb b e).1 (.inr hx)
 refine ⟨Nat.le_trans h.bs G.grow.size,?_,fun x hx=>?_,fun x hx h0=>?_⟩
 rotate_left 2
 ·rcases List.mem_append.1 hx with hx | hx
  ·exact h.nil x hx h0
  ·simp at hx;subst hx;exact absurd h0 hne
 ·rw [aGM,List.length_append];exact own'
 ·rcases List.mem_append.1 hx with hx | hx
  ·exact keep x (h.ins x hx)
  ·simp at hx;subst hx;exact keep _ he
end
theorem aMJ (g j:Nat):(⟨g,0,none⟩:Addr).add j=⟨g,j,none⟩:=by simp [Addr.add];omega
theorem aM9:∀d,d<16→∀m,m<4→1≤d→m<tzN d→d / 2^m % 2=0:=by decide
theorem tz_3 (d:Nat):tzN d≤3:=by
 unfold tzN
 repeat' split
 all_goals omega
theorem aMO:∀d,d<16→1≤d→d / 2^tzN d % 2=1:=by decide
theorem aI5 {w:World}{base g len cap:Nat}{X:Nat→Prop}{u:List Nat}(h:w.ownsRow base 3 1 (.slice (some ⟨g,0,none⟩) len cap) u.length (aP u)) (hl:len=u.length) (hX:¬X g):InAt w X (.slice (some ⟨g,0,none⟩) len cap) u:=by
 subst hl;have hlt:=(h.lt g rfl).2;refine ⟨some ⟨g,0,none⟩,cap,rfl,.inr ⟨g,0,rfl,hlt,fun i hi=>?_⟩,?_,(fun e=>by cases e),(fun b e=>by obtain rfl:=Option.some.inj e;exact ⟨hX,hlt⟩),h.lower (Nat.zero_le _)⟩
 ·rw [pU] at hi
  rw [Nat.zero_add,h.cellAt i (by omega),xV]
  exact zE _ i hi
 ·rcases h.2 with ⟨h',_⟩ | ⟨g',cap',cur,h',_,_,hle,_⟩
  ·cases h'
  ·simp only [Value.slice.injEq,Option.some.injEq,Addr.mk.injEq,and_true,true_and] at h'
   obtain ⟨rfl,rfl⟩:=h'
   exact hle
theorem aLB {M:Duo}{es:List (List Nat×Value)}:(es.map Prod.fst).map M.run=es.map fun e=>M.run e.1:=by simp
theorem aCW {es:List (List Nat×Value)}{i:Nat}(hi:i<es.length):(es.map Prod.fst).getD i []=(es.getD i bJ).1:=by simp [hi]
theorem uD {n:Nat}{ls gs:List (Int×Int)}{os:List Int}(h:RightN n ls gs os):(∀i,i<ls.length→Fits (ls.getD i (0,0)).1)∧(∀i,i<gs.length→Fits (gs.getD i (0,0)).1∧Fits (gs.getD i (0,0)).2)∧(∀i,i<os.length→Fits (os.getD i 0)):=by
 have h1:=h.n4;have h2:=h.l4;have h3:=h.g30;refine ⟨fun i hi=>?_,fun i hi=>?_,fun i hi=>?_⟩
 ·have:=h.lat i hi;unfold Fits;omega
 ·have:=h.gat i hi;unfold Fits;omega
 ·have:=h.out i hi;unfold Fits;omega
theorem uX {tmps:Array Value}{Q:Ending→World→Prop}{w:World}{b:Nat}{v0 v1 v2 v3 y:Value}(h:w.heap[b]?=some (.cells #[v0,v1,v2,v3] 82 (0,0)))
  (h4:tmps[4]?.getD undef=.pointer (some ⟨b,0,none⟩)) (h5:tmps[5]?.getD undef=y) (hQ:Q (.returned (.tuple #[.agg #[v0,v1,v2,v3],y])) w) :
  bodyPost Tryz.prog Tryz.f34 Q Exit.ret ⟨tmps,[]⟩ w:=by
 obtain ⟨c0,c1,c2,c3⟩:=aK h
 exact bodyPost_ret (by simp [results,Tryz.results34,go_sem,h4,h5,c0,c1,c2,c3]) rfl hQ
theorem aGK (n:Nat) (la ga:List (Int×Int)) (oa:List Int) (lb gb:List (Int×Int)) (ob:List Int) (la1 ga1 oa1 lb1 gb1 ob1:Option Addr) (lc1 gc1 oc1 ld1 gd1 od1:Nat) (w:World)
  (ra:aG n la ga oa=true) (rb:aG n lb gb ob=true) (hab:ob.length=oa.length)
  (pLa:PairsAt w la1 la) (pGa:PairsAt w ga1 ga) (pOa:IntsAt w oa1 oa) (pLb:PairsAt w lb1 lb) (pGb:PairsAt w gb1 gb) (pOb:IntsAt w ob1 ob) :
  Calls Tryz.prog 34 #[.agg #[.int .i64 n,.slice la1 la.length lc1,.slice ga1 ga.length gc1,.slice oa1 oa.length oc1],.agg #[.int .i64 n,.slice lb1 lb.length ld1,.slice gb1 gb.length gd1,.slice ob1 ob.length od1]] w (aF1 (duo n la ga oa lb gb ob) w):=by
 have kA:=nQ ra;have kB:=nQ rb;have fA:=uD (rightN_iff.1 ra);have fB:=uD (rightN_iff.1 rb);obtain ⟨M,hM⟩:∃M,M=duo n la ga oa lb gb ob:=⟨_,rfl⟩
 have hK:M.K=2^n:=by rw [hM];rfl
 have hK16:M.K≤16:=by rw [hM];exact aKM kA.n4
 have hsm:M.Small:=by rw [hM];exact rI kA.l4 kB.l4
 have hst:∀u,(M.run u).1<16∧(M.run u).2<16:=fun u=>Duo.run_small hsm u
 have b0:M.run []=(cK la la.length,cK lb lb.length):=by rw [hM];rfl
 have hstep:∀u i,M.run (u++[i])=(dB la (vals n la.length ga (M.run u).1 i) la.length,dB lb (vals n lb.length gb (M.run u).2 i) lb.length):=fun u i=>by rw [hM,Duo.run_snoc];rfl
 have hdif:∀u i,M.difL (u++[i])=dZ oa (vals n la.length ga (M.run u).1 i) oa.length ^^^ dZ ob (vals n lb.length gb (M.run u).2 i) ob.length:=fun u i=>by rw [hM,Duo.difL_snoc];rfl
 have hdlt:∀u,M.difL u<16:=fun u=>by rw [hM];exact Nat.lt_of_lt_of_le (rH hab u) (eY kA.o4)
 rw [←hM];have HAB:=aI hab;have hne:((oa.length:Int) != (ob.length:Int))=false:=by rw [hab];simp
 have hnn:((n:Int) != (n:Int))=false:=by simp
 clear hM hab;have rgA:∀W,Below w.heap.size w W→Calls Tryz.prog 46 #[.agg #[.int .i64 n,.slice la1 la.length lc1,.slice ga1 ga.length gc1,.slice oa1 oa.length oc1]] W fun e w'=>e=.returned (.bool true)∧Below W.heap.size W w':=fun W hW=>by
  have h:=bH n la1 ga1 oa1 lc1 gc1 oc1 la ga oa W (pLa.below hW) (pGa.below hW) (pOa.below hW) fA.1 fA.2.1 fA.2.2;rw [ra] at h
  exact h
 have rgB:∀W,Below w.heap.size w W→Calls Tryz.prog 46 #[.agg #[.int .i64 n,.slice lb1 lb.length ld1,.slice gb1 gb.length gd1,.slice ob1 ob.length od1]] W fun e w'=>e=.returned (.bool true)∧Below W.heap.size W w':=fun W hW=>by
  have h:=bH n lb1 gb1 ob1 ld1 gd1 od1 lb gb ob W (pLb.below hW) (pGb.below hW) (pOb.below hW) fB.1 fB.2.1 fB.2.2;rw [rb] at h
  exact h
 have bgA:∀W,Below w.heap.size w W→Calls Tryz.prog 52 #[.agg #[.int .i64 n,.slice la1 la.length lc1,.slice ga1 ga.length gc1,.slice oa1 oa.length oc1]] W fun e w'=>e=.returned (.int .i64 ((M.run []).1:Nat))∧Below W.heap.size W w':=fun W hW=>by
  rw [b0]
  exact mM _ la1 lc1 _ _ la W kA.l4 (pLa.below hW) kA.ini
 have bgB:∀W,Below w.heap.size w W→Calls Tryz.prog 52 #[.agg #[.int .i64 n,.slice lb1 lb.length ld1,.slice gb1 gb.length gd1,.slice ob1 ob.length od1]] W fun e w'=>e=.returned (.int .i64 ((M.run []).2:Nat))∧Below W.heap.size W w':=fun W hW=>by
  rw [b0]
  exact mM _ lb1 ld1 _ _ lb W kB.l4 (pLb.below hW) kB.ini
 have otA:∀(u:List Nat) (i o:Nat) W,i<16→o=dZ oa (vals n la.length ga (M.run u).1 i) oa.length→Below w.heap.size w W→Calls Tryz.prog 53 #[.agg #[.int .i64 n,.slice la1 la.length lc1,.slice ga1 ga.length gc1,.slice oa1 oa.length oc1],.int .i64 i,.int .i64 ((M.run u).1:Nat)] W fun e w'=>e=.returned (.int .i64 (o:Int))∧Below W.heap.size W w':=fun u i o W hi ho hW=>by
  rw [ho]
  exact fN n (M.run u).1 i la1 ga1 oa1 lc1 gc1 oc1 la.length ga oa W kA.n4 kA.l4 kA.g30 kA.o4 (hst u).1 hi (pGa.below hW) (pOa.below hW) kA.gat kA.out
 have otB:∀(u:List Nat) (i o:Nat) W,i<16→o=dZ ob (vals n lb.length gb (M.run u).2 i) ob.length→Below w.heap.size w W→Calls Tryz.prog 53 #[.agg #[.int .i64 n,.slice lb1 lb.length ld1,.slice gb1 gb.length gd1,.slice ob1 ob.length od1],.int .i64 i,.int .i64 ((M.run u).2:Nat)] W fun e w'=>e=.returned (.int .i64 (o:Int))∧Below W.heap.size W w':=fun u i o W hi ho hW=>by
  rw [ho]
  exact fN n (M.run u).2 i lb1 gb1 ob1 ld1 gd1 od1 lb.length gb ob W kB.n4 kB.l4 kB.g30 kB.o4 (hst u).2 hi (pGb.below hW) (pOb.below hW) kB.gat kB.out
 have bhA:∀(u:List Nat) (i:Nat) W,i<16→Below w.heap.size w W→Calls Tryz.prog 54 #[.agg #[.int .i64 n,.slice la1 la.length lc1,.slice ga1 ga.length gc1,.slice oa1 oa.length oc1],.int .i64 i,.int .i64 ((M.run u).1:Nat)] W fun e w'=>e=.returned (.int .i64 ((M.run (u++[i])).1:Nat))∧Below W.heap.size W w':=fun u i W hi hW=>by
  rw [hstep]
  exact kE n (M.run u).1 i la1 ga1 lc1 gc1 _ la ga W kA.n4 kA.l4 kA.g30 (hst u).1 hi (pLa.below hW) (pGa.below hW) kA.gat kA.lat
 have bhB:∀(u:List Nat) (i:Nat) W,i<16→Below w.heap.size w W→Calls Tryz.prog 54 #[.agg #[.int .i64 n,.slice lb1 lb.length ld1,.slice gb1 gb.length gd1,.slice ob1 ob.length od1],.int .i64 i,.int .i64 ((M.run u).2:Nat)] W fun e w'=>e=.returned (.int .i64 ((M.run (u++[i])).2:Nat))∧Below W.heap.size W w':=fun u i W hi hW=>by
  rw [hstep]
  exact kE n (M.run u).2 i lb1 gb1 ld1 gd1 _ lb gb W kB.n4 kB.l4 kB.g30 (hst u).2 hi (pLb.below hW) (pGb.below hW) kB.gat kB.lat
 have n4:=kA.n4;obtain ⟨q,hq⟩:∃q:Nat,(q:Int)=2^n:=⟨2^n,by simp⟩
 have hqN:M.K=q:=by rw [hK];exact_mod_cast hq.symm
 have hq16:q≤16:=by omega
 have hsh:IntKind.i64.wrap ((2:Int)^n)=(q:Int):=by rw [←hq,cZ];omega
 have HQ:=aI hqN;clear hq hqN;have RGA:=aI rgA;have RGB:=aI rgB;have BGA:=aI bgA;have BGB:=aI bgB;have OTA:=aI otA;have OTB:=aI otB;have BHA:=aI bhA;have BHB:=aI bhB;have OA4:=aI kA.o4;have OB4:=aI kB.o4;have HDIF:=aI hdif;have HDLT:=aI hdlt;have HSM:=aI hsm;clear rgA rgB bgA bgB otA otB bhA bhB hdif hdlt hstep hst b0 fA fB kA kB ra rb pLa pGa pOa pLb pGb pOb hsm hK;obtain ⟨W3,hW3⟩:∃W3,W3=((w.alloc (.cells #[.int .i64 n,.slice la1 la.length lc1,.slice ga1 ga.length gc1,.slice oa1 oa.length oc1] 34)).alloc (.cells #[.int .i64 n,.slice lb1 lb.length ld1,.slice gb1 gb.length gd1,.slice ob1 ob.length od1] 34)).alloc (.cells #[.bool false,.int .i64 0,.slice none 0 0,.int .i64 0] 82):=⟨_,rfl⟩
 have s3:W3.heap.size=w.heap.size+3:=by rw [hW3];simp
 have B3:Below w.heap.size w W3:=by rw [hW3];exact (((Below.refl _ _).alloc (Nat.le_refl _) _).alloc (by simp) _).alloc (by simp;omega) _
 have xA:W3.heap[w.heap.size]?=some (.cells #[.int .i64 n,.slice la1 la.length lc1,.slice ga1 ga.length gc1,.slice oa1 oa.length oc1] 34 (0,0)):=by rw [hW3];exact aA (aA (aB _ _ _ rfl))
 have xB:W3.heap[w.heap.size+1]?=some (.cells #[.int .i64 n,.slice lb1 lb.length ld1,.slice gb1 gb.length gd1,.slice ob1 ob.length od1] 34 (0,0)):=by rw [hW3];exact aA (aB _ _ _ (by simp))
 have xR:W3.heap[w.heap.size+1+1]?=some (.cells #[.bool false,.int .i64 0,.slice none 0 0,.int .i64 0] 82 (0,0)):=by rw [hW3];exact aB _ _ _ (by simp)
 obtain ⟨A0,A1,A2,A3,D0,D1,D2,D3⟩:=row8 xA xB
 go_enter Tryz.func34,Tryz.ntmps34
 go_upto_region 1 with fail
 rw [←hW3];clear hW3
 go_wp2_with fail
 refine (RGA.out W3 B3).mono ?_;rintro r w4 ⟨rfl,b4⟩;have B4:Below w.heap.size w w4:=B3.trans (b4.mono B3.size);have yA:=(b4.block w.heap.size (by omega)).trans xA;have yB:=(b4.block (w.heap.size+1) (by omega)).trans xB;have yR:=(b4.block (w.heap.size+1+1) (by omega)).trans xR;have s4:=b4.size;clear A0 A1 A2 A3 D0 D1 D2 D3 xA xB xR;obtain ⟨A0,A1,A2,A3,D0,D1,D2,D3⟩:=row8 yA yB
 go_wp2_with fail
 refine (RGB.out w4 B4).mono ?_;rintro r w5 ⟨rfl,b5⟩;have B5:Below w.heap.size w w5:=B4.trans (b5.mono B4.size);have zA:=(b5.block w.heap.size (by omega)).trans yA;have zB:=(b5.block (w.heap.size+1) (by omega)).trans yB;have zR:=(b5.block (w.heap.size+1+1) (by omega)).trans yR;have s5:=b5.size;clear A0 A1 A2 A3 D0 D1 D2 D3 yA yB yR b4 b5;obtain ⟨A0,A1,A2,A3,D0,D1,D2,D3⟩:=row8 zA zB
 go_upto_region 7 with fail
 have lA:w.heap.size<w5.heap.size:=by omega
 have lB:w.heap.size+1<w5.heap.size:=by omega
 refine wp_region_noPanic ?_;refine wp_region_any (by kernel_rfl) ?_;simp only [List.size_toArray,List.length_cons,List.length_nil,Nat.zero_add,Nat.reduceAdd];refine wpAny_of_held (S:=fun w'=>w'.cell? ⟨w.heap.size,0,none⟩=some (.int .i64 n)∧w'.cell? ⟨w.heap.size,1,none⟩=some (.slice la1 la.length lc1)∧w'.cell? ⟨w.heap.size,2,none⟩=some (.slice ga1 ga.length gc1)∧w'.cell? ⟨w.heap.size,3,none⟩=some (.slice oa1 oa.length oc1)∧w'.cell? ⟨w.heap.size+1,0,none⟩=some (.int .i64 n)∧w'.cell? ⟨w.heap.size+1,1,none⟩=some (.slice lb1 lb.length ld1)∧w'.cell? ⟨w.heap.size+1,2,none⟩=some (.slice gb1 gb.length gd1)∧w'.cell? ⟨w.heap.size+1,3,none⟩=some (.slice ob1 ob.length od1)) _ _ _ _ ?_;have hHeld:(fun w':World=>w'.cell? ⟨w.heap.size,0,none⟩=some (.int .i64 n)∧w'.cell? ⟨w.heap.size,1,none⟩=some (.slice la1 la.length lc1)∧w'.cell? ⟨w.heap.size,2,none⟩=some (.slice ga1 ga.length gc1)∧w'.cell? ⟨w.heap.size,3,none⟩=some (.slice oa1 oa.length oc1)∧w'.cell? ⟨w.heap.size+1,0,none⟩=some (.int .i64 n)∧w'.cell? ⟨w.heap.size+1,1,none⟩=some (.slice lb1 lb.length ld1)∧w'.cell? ⟨w.heap.size+1,2,none⟩=some (.slice gb1 gb.length gd1)∧w'.cell? ⟨w.heap.size+1,3,none⟩=some (.slice ob1 ob.length od1)) w5.drew:=⟨A0,A1,A2,A3,D0,D1,D2,D3⟩
 refine tkH (i:=0) (v:=?_) (hS:=hHeld) (hy:=Or.inl ⟨by rfl,?_⟩) (h:=?_)
 rotate_left 1
 ·(intro w0 hSw;(try dsimp only at hSw);go_simp;try (with_reducible rfl))
 simp only [Act.put,sSet];refine tkH (i:=2) (v:=?_) (hS:=hHeld) (hy:=Or.inl ⟨by rfl,?_⟩) (h:=?_)
 rotate_left 1
 ·(intro w0 hSw;(try dsimp only at hSw);go_simp;try (with_reducible rfl))
 simp only [Act.put,sSet];refine wpAnyH_ready (rs:=[1]) (by kernel_rfl) (by simp) (AllReadyH.cons (by simp only [List.getElem?_toArray,List.getElem?_cons_succ,List.getElem?_cons_zero];rfl) (fun K hK=>?_) AllReadyH.nil);go_simp;refine (BGA.out w5.drew B5.drew).mono ?_;rintro e w6 ⟨rfl,b6'⟩;have b6:Below w5.heap.size w5 w6:=((Below.refl w5.heap.size w5).drew).trans b6';refine hK.out _ _ ⟨(b6.cell (p:=⟨w.heap.size,0,none⟩) lA).trans A0,(b6.cell (p:=⟨w.heap.size,1,none⟩) lA).trans A1,(b6.cell (p:=⟨w.heap.size,2,none⟩) lA).trans A2,(b6.cell (p:=⟨w.heap.size,3,none⟩) lA).trans A3,(b6.cell (p:=⟨w.heap.size+1,0,none⟩) lB).trans D0,(b6.cell (p:=⟨w.heap.size+1,1,none⟩) lB).trans D1,(b6.cell (p:=⟨w.heap.size+1,2,none⟩) lB).trans D2,(b6.cell (p:=⟨w.heap.size+1,3,none⟩) lB).trans D3⟩ (fun hHeld=>?_);clear hK K
 try simp only [Act.put,sSet]
 refine wpAnyH_ready (rs:=[3]) (by kernel_rfl) (by simp) (AllReadyH.cons (by simp only [List.getElem?_toArray,List.getElem?_cons_succ,List.getElem?_cons_zero];rfl) (fun K hK=>?_) AllReadyH.nil);go_simp;refine (BGB.out w6 (B5.trans (b6.mono B5.size))).mono ?_;rintro e w7 ⟨rfl,b7'⟩;have b7:Below w5.heap.size w5 w7:=b6.trans (b7'.mono b6.size);refine hK.out _ _ ⟨(b7.cell (p:=⟨w.heap.size,0,none⟩) lA).trans A0,(b7.cell (p:=⟨w.heap.size,1,none⟩) lA).trans A1,(b7.cell (p:=⟨w.heap.size,2,none⟩) lA).trans A2,(b7.cell (p:=⟨w.heap.size,3,none⟩) lA).trans A3,(b7.cell (p:=⟨w.heap.size+1,0,none⟩) lB).trans D0,(b7.cell (p:=⟨w.heap.size+1,1,none⟩) lB).trans D1,(b7.cell (p:=⟨w.heap.size+1,2,none⟩) lB).trans D2,(b7.cell (p:=⟨w.heap.size+1,3,none⟩) lB).trans D3⟩ (fun hHeld=>?_);clear hK K
 try simp only [Act.put,sSet]
 refine tkH (i:=4) (v:=?_) (hS:=hHeld) (hy:=Or.inl ⟨by rfl,?_⟩) (h:=?_)
 rotate_left 1
 ·(intro w0 hSw;(try dsimp only at hSw);go_simp;try (with_reducible rfl))
 simp only [Act.put,sSet];refine wpAnyH_ready (rs:=[5]) (by kernel_rfl) (by simp) (AllReadyH.cons (by simp only [List.getElem?_toArray,List.getElem?_cons_succ,List.getElem?_cons_zero];rfl) (fun K hK=>?_) AllReadyH.nil);go_simp;have b8:Below w5.heap.size w5 (w7.alloc (.cells #[.int .i64 ((M.run []).1:Nat),.int .i64 ((M.run []).2:Nat),.slice none 0 0] 118)):=b7.alloc b7.size _;refine hK.out _ _ ⟨(b8.cell (p:=⟨w.heap.size,0,none⟩) lA).trans A0,(b8.cell (p:=⟨w.heap.size,1,none⟩) lA).trans A1,(b8.cell (p:=⟨w.heap.size,2,none⟩) lA).trans A2,(b8.cell (p:=⟨w.heap.size,3,none⟩) lA).trans A3,(b8.cell (p:=⟨w.heap.size+1,0,none⟩) lB).trans D0,(b8.cell (p:=⟨w.heap.size+1,1,none⟩) lB).trans D1,(b8.cell (p:=⟨w.heap.size+1,2,none⟩) lB).trans D2,(b8.cell (p:=⟨w.heap.size+1,3,none⟩) lB).trans D3⟩ (fun hHeld=>?_);clear hK K
 try simp only [Act.put,sSet]
 refine tkH (i:=6) (v:=?_) (hS:=hHeld) (hy:=Or.inl ⟨by rfl,?_⟩) (h:=?_)
 rotate_left 1
 ·(intro w0 hSw;(try dsimp only at hSw);go_simp;try (with_reducible rfl))
 simp only [Act.put,sSet];refine wpAnyH_done (by kernel_rfl) ?_ _;refine NoPanic.normal ?_;clear hHeld A0 A1 A2 A3 D0 D1 D2 D3;obtain ⟨W8,hW8⟩:∃W8,W8=w7.alloc (.cells #[.int .i64 ((M.run []).1:Nat),.int .i64 ((M.run []).2:Nat),.slice none 0 0] 118):=⟨_,rfl⟩
 rw [←hW8] at b8;have I8:RWays M (w.heap.size+3) W8 (.slice (some ⟨w7.heap.size,0,none⟩) 1 1) [([],.slice none 0 0)]:=by
  have hs7:=b7.size;refine ⟨by rw [hW8];simp;omega,?_,fun e he=>?_,fun e he _=>by simp at he;subst he;rfl⟩
  ·rw [hW8]
   refine ⟨rfl,.inr ⟨w7.heap.size,1,#[.int .i64 ((M.run []).1:Nat),.int .i64 ((M.run []).2:Nat),.slice none 0 0],rfl,by omega,heap_alloc_new _ _,Nat.le_refl _,by unfold maxLen;omega,rfl,rfl⟩⟩
  ·simp at he;subst he;exact InAt.nil _ _
 have B8:Below w.heap.size w W8:=B5.trans (b8.mono B5.size);have xA:=(b8.block w.heap.size lA).trans zA;have xB:=(b8.block (w.heap.size+1) lB).trans zB;have xR:=(b8.block (w.heap.size+1+1) (by omega)).trans zR
 go_wp2_with fail
 rw [←hW8];clear hW8 zA zB zR b6' b7' b6 b7;obtain ⟨iW,hiW,zW0,zW1,zW2⟩:=info_parts Tryz.infoWayR;obtain ⟨iO,hiO,zO0,zO1,zO2⟩:=info_parts Tryz.infoInt
 go_loopw [8,9] (fun lv i wr=>∃(k:Nat) (es:List (List Nat×Value)),k≤es.length∧i=.int .i64 k∧RWays M (w.heap.size+3) wr lv es∧M.RInv (es.map Prod.fst) k 0∧wr.heap[w.heap.size]?=some (.cells #[.int .i64 n,.slice la1 la.length lc1,.slice ga1 ga.length gc1,.slice oa1 oa.length oc1] 34 (0,0))∧wr.heap[w.heap.size+1]?=some (.cells #[.int .i64 n,.slice lb1 lb.length ld1,.slice gb1 gb.length gd1,.slice ob1 ob.length od1] 34 (0,0))∧wr.heap[w.heap.size+1+1]?=some (.cells #[.bool false,.int .i64 0,.slice none 0 0,.int .i64 0] 82 (0,0))∧Below w.heap.size w wr)
  (fun _ i _=>256 - (intOf i).toNat)
 case atStart=>exact ⟨0,_,Nat.zero_le _,rfl,I8,Duo.RInv.start,xA,xB,xR,B8⟩
 case round =>
  clear I8 xA xB xR B8 b8 B3 B4 B5 s3 s4 s5 lA lB;obtain ⟨k,es,hk,rfl,I,RI,xA,xB,xR,bel⟩:=hrel;have h256:es.length≤256:=by have:=RI.few HSM.out;simpa using this
  by_cases hk2:k<es.length
  ·obtain ⟨g,cap,rfl,hBg,hgl,hcW⟩:=I.slice (by omega)
   obtain ⟨u,hu⟩:∃u,u=(es.getD k bJ).1:=⟨_,rfl⟩
   obtain ⟨tv,htv⟩:∃t,t=(es.getD k bJ).2:=⟨_,rfl⟩
   obtain ⟨s1,hs1⟩:∃x,x=(M.run u).1:=⟨_,rfl⟩
   obtain ⟨s2,hs2⟩:∃x,x=(M.run u).2:=⟨_,rfl⟩
   have cW0:wr.cell? ⟨g,k*3,none⟩=some (.int .i64 (s1:Int)):=(by have h:=hcW k 0 hk2 (by omega);rw [hs1,hu];exact h)
   have cW1:wr.cell? ⟨g,k*3+1,none⟩=some (.int .i64 (s2:Int)):=(by have h:=hcW k 1 hk2 (by omega);rw [hs2,hu];exact h)
   have cW2:wr.cell? ⟨g,k*3+2,none⟩=some tv:=(by have h:=hcW k 2 hk2 (by omega);rw [htv];exact h)
   have hmem:es.getD k bJ=(u,tv):=(by rw [hu,htv])
   have hul:u.length≤256:=(by have h:=RI.len k (by simpa using hk2);rw [aCW hk2,←hu] at h;omega)
   obtain ⟨X,hX⟩:∃X,X=wr.heap.size:=⟨_,rfl⟩
   obtain ⟨ta,tn,tc,htv2⟩:∃ta tn tc,tv=.slice ta tn tc:=by
    obtain ⟨a,c,h,_⟩:=I.inAt hk2
    exact ⟨a,_,c,by rw [htv];exact h⟩
   obtain ⟨W5,hW5⟩:∃W5,W5=wr.alloc (.cells #[.int .i64 (s1:Int),.int .i64 (s2:Int),tv] 118):=⟨_,rfl⟩
   have bw5:Below wr.heap.size wr W5:=(by rw [hW5];exact (Below.refl _ _).alloc (Nat.le_refl _) _)
   have bX5:W5.heap[X]?=some (.cells #[.int .i64 (s1:Int),.int .i64 (s2:Int),tv] 118 (0,0)):=(by rw [hW5,hX];exact heap_alloc_new _ _)
   have I5:=I.below bw5;have B5:Below w.heap.size w W5:=bel.trans (bw5.mono bel.size);have yA:=(bw5.block w.heap.size (Array.getElem?_eq_some_iff.1 xA).1).trans xA;have yB:=(bw5.block (w.heap.size+1) (Array.getElem?_eq_some_iff.1 xB).1).trans xB;have yR:=(bw5.block (w.heap.size+1+1) (Array.getElem?_eq_some_iff.1 xR).1).trans xR;have hXB:w.heap.size+3≤X:=(by rw [hX];exact I.bs)
   have hgX:g≠X:=(by omega)
   have hkI:(k:Int)<(es.length:Int):=(by omega)
   have hsz:=I.bs;have HX:=aI hX;have HU:=aI hu;have HTV:=aI htv;have HTV2:=aI htv2;have HS1:=aI hs1;have HS2:=aI hs2;have HMEM:=aI hmem;clear hu htv hs1 hs2 hmem hcW htv2 hX;subst HTV2
   go_upto_region 12 with fail
   rw [←hW5,←HX.out];clear hW5 cW0 cW1 cW2
   go_wp2_with fail
   go_loopw [8,11] (fun lv i wx=>∃(j:Nat) (es2:List (List Nat×Value)),j≤q∧i=.int .i64 j∧RWays M (w.heap.size+3) wx lv es2∧M.RInv (es2.map Prod.fst) k j∧k<es2.length∧es2.getD k bJ=(u,.slice ta tn tc)∧lv.ownBlock≠some X∧wx.heap[X]?=some (.cells #[.int .i64 (s1:Int),.int .i64 (s2:Int),.slice ta tn tc] 118 (0,0))∧wx.heap[w.heap.size]?=some (.cells #[.int .i64 n,.slice la1 la.length lc1,.slice ga1 ga.length gc1,.slice oa1 oa.length oc1] 34 (0,0))∧wx.heap[w.heap.size+1]?=some (.cells #[.int .i64 n,.slice lb1 lb.length ld1,.slice gb1 gb.length gd1,.slice ob1 ob.length od1] 34 (0,0))∧wx.heap[w.heap.size+1+1]?=some (.cells #[.bool false,.int .i64 0,.slice none 0 0,.int .i64 0] 82 (0,0))∧Below w.heap.size w wx)
    (fun _ i _=>q - (intOf i).toNat)
   case atStart=>exact ⟨0,es,Nat.zero_le _,rfl,I5,RI,hk2,HMEM.out,(fun e=>hgX (by simpa [Value.ownBlock] using e)),bX5,yA,yB,yR,B5⟩
   case round =>
    clear I5 bX5 yA yB yR B5 I RI bel bw5 xA xB xR;obtain ⟨j,es2,hj,rfl,I2,RI2,hk3,hmem,hoX,bX,yA,yB,yR,bel⟩:=hrel;obtain ⟨g2,cap2,rfl,hBg2,hgl2,hcW2⟩:=I2.slice (by omega);have hin2:=I2.inAt hk3;rw [hmem] at hin2;dsimp only at hin2
    by_cases hj2:j<q
    ·have j16:j<16:=by omega
     have hjI:(j:Int)<(q:Int):=(by omega)
     have lA:w.heap.size<wr.heap.size:=(Array.getElem?_eq_some_iff.1 yA).1;have lB:w.heap.size+1<wr.heap.size:=(Array.getElem?_eq_some_iff.1 yB).1;have lR:w.heap.size+1+1<wr.heap.size:=(Array.getElem?_eq_some_iff.1 yR).1;have lX:X<wr.heap.size:=(Array.getElem?_eq_some_iff.1 bX).1;obtain ⟨A0,A1,A2,A3,D0,D1,D2,D3⟩:=row8 yA yB;have cX2:wr.cell? ⟨X,2,none⟩=some (.slice ta tn tc):=by rw [cell_of_row _ _ _ _ _ _ bX];rfl
     go_upto_region 16 with fail
     go_cut [12] (fun t wy=>wy.ownsRow wr.heap.size 3 1 t u.length (aP u)∧Below wr.heap.size wr wy)
     case first =>
      by_cases hu0:u=[]
      ·have hnil:=I2.nil (u,.slice ta tn tc) (by rw [←hmem,List.getD_eq_getElem?_getD,List.getElem?_eq_getElem hk3];exact List.getElem_mem hk3) hu0
       simp only [Value.slice.injEq] at hnil;obtain ⟨rfl,rfl,rfl⟩:=hnil;go_wp2
       go_meet
       case rel=>rw [hu0];exact ⟨World.ownsRow_nil _ _ _ _,Below.refl _ _⟩
      ·obtain ⟨a3,c3,hv3,_,_,_,_,ho3⟩:=hin2
       rcases ho3.2 with ⟨_,h0⟩ | ⟨g3,cap3,cur3,hv4,_⟩
       ·exact absurd (List.length_eq_zero_iff.1 h0) hu0
       have hcs:∀j v,(aP u)[j]?=some v→wr.cell? ((⟨g3,0,none⟩:Addr).add j)=some v:=fun j v hx=>by
        rw [hv4] at ho3;have hjl:j<u.length:=by rcases Nat.lt_or_ge j u.length with h | h;exact h;rw [List.getElem?_eq_none (by rw [iH];exact h)] at hx;cases hx
        rw [aMJ,ho3.cellAt j (by omega)]
        exact hx
       have hul1:1≤u.length:=by rcases Nat.eq_zero_or_pos u.length with h | h;exact absurd (List.length_eq_zero_iff.1 h) hu0;exact h
       simp only [Value.slice.injEq] at hv4;obtain ⟨rfl,rfl,rfl⟩:=hv4;clear hv3 ho3
       go_wp2_with (at_builtin;refine wpList_append_grows _ rfl (.tmp 66) (.tmp 68) 32 rfl 3 iO (.int .i64 0) 1 8 Tryz.underlying32 hiO zO0 zO1 zO2 rfl (by omega) none 0 0 [] rfl (fun _=>⟨rfl,rfl⟩) rfl (fun b e=>by cases e) ⟨g3,0,none⟩ u.length tc (aP u) rfl (by rw [iH];omega) hcs (fun v hv=>by obtain ⟨x,_,rfl⟩:=List.mem_map.1 hv;rfl) (by omega) (by unfold maxLen;omega) (by omega) ?_)
       intro v' w' own' grow';have X9:=aI (And.intro own' (aK2 grow'));clear own' grow';go_wp2
       go_meet
       case rel=>exact X9.out
     case rest =>
      obtain ⟨oT,bT⟩:=hcut;clear A0 A1 A2 A3 D0 D1 D2 D3 cX2;have oT1:=oT.alloc (.cells #[.int .i64 (j:Int)] 3);have sT:=bT.size
      go_wp2_with (at_builtin;refine wpList_append_lies _ rfl (.tmp 70) (.tmp 72) 32 rfl wr.heap.size 3 iO (.int .i64 0) 1 8 Tryz.underlying32 hiO zO0 zO1 zO2 rfl (by omega) _ _ _ rfl oT1 ⟨wc.heap.size,0,none⟩ 1 1 [.int .i64 (j:Int)] rfl rfl (cell_one_new _ _ _) (by simp;rfl) (by omega) (by unfold maxLen;omega) (by omega) (by simp;omega) _ rfl ?_)
      intro gT capT w6 oT6 grow6 hat6 hlt6;have b6:Below wr.heap.size wr w6:=(bT.alloc bT.size _).grown grow6 (by simp;omega) (fun q hq=>(oT.lt q hq).1);have oT6':w6.ownsRow wr.heap.size 3 1 (.slice (some ⟨gT,0,none⟩) (u.length+1) capT) (u++[j]).length (aP (u++[j])):=(by rw [aZ,List.length_append];exact oT6)
      clear oT oT1 oT6 grow6 hat6 hlt6 bT sT;have I6:=I2.below b6;have B6:Below w.heap.size w w6:=bel.trans (b6.mono bel.size);have xA:=(b6.block w.heap.size lA).trans yA;have xB:=(b6.block (w.heap.size+1) lB).trans yB;have xR:=(b6.block (w.heap.size+1+1) lR).trans yR;have xX:=(b6.block X lX).trans bX;have s6:=b6.size;have gT1:wr.heap.size≤gT:=(oT6'.lt gT rfl).1;have gT2:gT<w6.heap.size:=(oT6'.lt gT rfl).2;obtain ⟨A0,A1,A2,A3,D0,D1,D2,D3⟩:=row8 xA xB;have X0:w6.cell? ⟨X,0,none⟩=some (.int .i64 (s1:Int)):=(by rw [cell_of_row _ _ _ _ _ _ xX];rfl)
      have X1:w6.cell? ⟨X,1,none⟩=some (.int .i64 (s2:Int)):=(by rw [cell_of_row _ _ _ _ _ _ xX];rfl)
      have lA6:w.heap.size<w6.heap.size:=(by omega)
      have lB6:w.heap.size+1<w6.heap.size:=(by omega)
      have lX6:X<w6.heap.size:=(by omega)
      obtain ⟨o1,ho1⟩:∃o,o=dZ oa (vals n la.length ga (M.run u).1 j) oa.length:=⟨_,rfl⟩
      obtain ⟨o2,ho2⟩:∃o,o=dZ ob (vals n lb.length gb (M.run u).2 j) ob.length:=⟨_,rfl⟩
      obtain ⟨d,hd⟩:∃d,d=M.difL (u++[j]):=⟨_,rfl⟩
      have hd2:d=o1 ^^^ o2:=(by rw [hd,HDIF.out,ho1,ho2])
      have hd16:d<16:=(by rw [hd];exact HDLT.out _)
      have cA:=fun W hW=>OTA.out u j o1 W j16 ho1 hW
      have cB:=fun W hW=>OTB.out u j o2 W j16 ho2 hW
      rw [←HS1.out] at cA;rw [←HS2.out] at cB;have o116:o1<9223372036854775808:=(by rw [ho1];exact Nat.lt_of_lt_of_le (kR _ OA4.out) (by omega))
      have o216:o2<9223372036854775808:=(by rw [ho2];exact Nat.lt_of_lt_of_le (kR _ OB4.out) (by omega))
      have hxor:bits .xor .i64 (o1:Int) (o2:Int)=(d:Int):=(by rw [eP o1 o2 o116 o216,hd2])
      have HD:=aI hd;have CA:=aI cA;have CB:=aI cB;clear hd hd2 ho1 ho2 o116 o216 cA cB
      go_upto_region 18 with fail
      refine wp_region_noPanic ?_;refine wp_region_any (by kernel_rfl) ?_;simp only [List.size_toArray,List.length_cons,List.length_nil,Nat.zero_add,Nat.reduceAdd];refine wpAny_of_held (S:=fun w'=>(w'.cell? ⟨w.heap.size,0,none⟩=some (.int .i64 n)∧w'.cell? ⟨w.heap.size,1,none⟩=some (.slice la1 la.length lc1)∧w'.cell? ⟨w.heap.size,2,none⟩=some (.slice ga1 ga.length gc1)∧w'.cell? ⟨w.heap.size,3,none⟩=some (.slice oa1 oa.length oc1)∧w'.cell? ⟨w.heap.size+1,0,none⟩=some (.int .i64 n)∧w'.cell? ⟨w.heap.size+1,1,none⟩=some (.slice lb1 lb.length ld1)∧w'.cell? ⟨w.heap.size+1,2,none⟩=some (.slice gb1 gb.length gd1)∧w'.cell? ⟨w.heap.size+1,3,none⟩=some (.slice ob1 ob.length od1))∧w'.cell? ⟨X,0,none⟩=some (.int .i64 (s1:Int))∧w'.cell? ⟨X,1,none⟩=some (.int .i64 (s2:Int))) _ _ _ _ ?_;have hHeld:(fun w':World=>(w'.cell? ⟨w.heap.size,0,none⟩=some (.int .i64 n)∧w'.cell? ⟨w.heap.size,1,none⟩=some (.slice la1 la.length lc1)∧w'.cell? ⟨w.heap.size,2,none⟩=some (.slice ga1 ga.length gc1)∧w'.cell? ⟨w.heap.size,3,none⟩=some (.slice oa1 oa.length oc1)∧w'.cell? ⟨w.heap.size+1,0,none⟩=some (.int .i64 n)∧w'.cell? ⟨w.heap.size+1,1,none⟩=some (.slice lb1 lb.length ld1)∧w'.cell? ⟨w.heap.size+1,2,none⟩=some (.slice gb1 gb.length gd1)∧w'.cell? ⟨w.heap.size+1,3,none⟩=some (.slice ob1 ob.length od1))∧w'.cell? ⟨X,0,none⟩=some (.int .i64 (s1:Int))∧w'.cell? ⟨X,1,none⟩=some (.int .i64 (s2:Int))) w6.drew:=⟨⟨A0,A1,A2,A3,D0,D1,D2,D3⟩,X0,X1⟩
      refine tkH (i:=0) (v:=?_) (hS:=hHeld) (hy:=Or.inl ⟨by rfl,?_⟩) (h:=?_)
      rotate_left 1
      ·(intro w0 hSw;(try dsimp only at hSw);go_simp;try (with_reducible rfl))
      simp only [Act.put,sSet];refine tkH (i:=1) (v:=?_) (hS:=hHeld) (hy:=Or.inl ⟨by rfl,?_⟩) (h:=?_)
      rotate_left 1
      ·(intro w0 hSw;(try dsimp only at hSw);go_simp;try (with_reducible rfl))
      simp only [Act.put,sSet];refine tkH (i:=2) (v:=?_) (hS:=hHeld) (hy:=Or.inl ⟨by rfl,?_⟩) (h:=?_)
      rotate_left 1
      ·(intro w0 hSw;(try dsimp only at hSw);go_simp;try (with_reducible rfl))
      simp only [Act.put,sSet];refine tkH (i:=3) (v:=?_) (hS:=hHeld) (hy:=Or.inl ⟨by rfl,?_⟩) (h:=?_)
      rotate_left 1
      ·(intro w0 hSw;(try dsimp only at hSw);go_simp;try (with_reducible rfl))
      simp only [Act.put,sSet];refine tkH (i:=5) (v:=?_) (hS:=hHeld) (hy:=Or.inl ⟨by rfl,?_⟩) (h:=?_)
      rotate_left 1
      ·(intro w0 hSw;(try dsimp only at hSw);go_simp;try (with_reducible rfl))
      simp only [Act.put,sSet];refine tkH (i:=6) (v:=?_) (hS:=hHeld) (hy:=Or.inl ⟨by rfl,?_⟩) (h:=?_)
      rotate_left 1
      ·(intro w0 hSw;(try dsimp only at hSw);go_simp;try (with_reducible rfl))
      simp only [Act.put,sSet];refine tkH (i:=7) (v:=?_) (hS:=hHeld) (hy:=Or.inl ⟨by rfl,?_⟩) (h:=?_)
      rotate_left 1
      ·(intro w0 hSw;(try dsimp only at hSw);go_simp;try (with_reducible rfl))
      simp only [Act.put,sSet];refine tkH (i:=8) (v:=?_) (hS:=hHeld) (hy:=Or.inl ⟨by rfl,?_⟩) (h:=?_)
      rotate_left 1
      ·(intro w0 hSw;(try dsimp only at hSw);go_simp;try (with_reducible rfl))
      simp only [Act.put,sSet];refine wpAnyH_ready (rs:=[4]) (by kernel_rfl) (by simp) (AllReadyH.cons (by simp only [List.getElem?_toArray,List.getElem?_cons_succ,List.getElem?_cons_zero];rfl) (fun K hK=>?_) AllReadyH.nil);go_simp;refine (CA.out w6.drew B6.drew).mono ?_;rintro e w7 ⟨rfl,b7'⟩;have b7:Below w6.heap.size w6 w7:=((Below.refl w6.heap.size w6).drew).trans b7';refine hK.out _ _ ⟨⟨(b7.cell (p:=⟨w.heap.size,0,none⟩) lA6).trans A0,(b7.cell (p:=⟨w.heap.size,1,none⟩) lA6).trans A1,(b7.cell (p:=⟨w.heap.size,2,none⟩) lA6).trans A2,(b7.cell (p:=⟨w.heap.size,3,none⟩) lA6).trans A3,(b7.cell (p:=⟨w.heap.size+1,0,none⟩) lB6).trans D0,(b7.cell (p:=⟨w.heap.size+1,1,none⟩) lB6).trans D1,(b7.cell (p:=⟨w.heap.size+1,2,none⟩) lB6).trans D2,(b7.cell (p:=⟨w.heap.size+1,3,none⟩) lB6).trans D3⟩,(b7.cell (p:=⟨X,0,none⟩) lX6).trans X0,(b7.cell (p:=⟨X,1,none⟩) lX6).trans X1⟩ (fun hHeld=>?_);clear hK K
      try simp only [Act.put,sSet]
      refine wpAnyH_ready (rs:=[9]) (by kernel_rfl) (by simp) (AllReadyH.cons (by simp only [List.getElem?_toArray,List.getElem?_cons_succ,List.getElem?_cons_zero];rfl) (fun K hK=>?_) AllReadyH.nil);go_simp;refine (CB.out w7 (B6.trans (b7.mono B6.size))).mono ?_;rintro e w8 ⟨rfl,b8'⟩;have b8:Below w6.heap.size w6 w8:=b7.trans (b8'.mono b7.size);refine hK.out _ _ ⟨⟨(b8.cell (p:=⟨w.heap.size,0,none⟩) lA6).trans A0,(b8.cell (p:=⟨w.heap.size,1,none⟩) lA6).trans A1,(b8.cell (p:=⟨w.heap.size,2,none⟩) lA6).trans A2,(b8.cell (p:=⟨w.heap.size,3,none⟩) lA6).trans A3,(b8.cell (p:=⟨w.heap.size+1,0,none⟩) lB6).trans D0,(b8.cell (p:=⟨w.heap.size+1,1,none⟩) lB6).trans D1,(b8.cell (p:=⟨w.heap.size+1,2,none⟩) lB6).trans D2,(b8.cell (p:=⟨w.heap.size+1,3,none⟩) lB6).trans D3⟩,(b8.cell (p:=⟨X,0,none⟩) lX6).trans X0,(b8.cell (p:=⟨X,1,none⟩) lX6).trans X1⟩ (fun hHeld=>?_);clear hK K
      try simp only [Act.put,sSet]
      refine tkH (i:=10) (v:=?_) (hS:=hHeld) (hy:=Or.inl ⟨by rfl,?_⟩) (h:=?_)
      rotate_left 1
      ·(intro w0 hSw;(try dsimp only at hSw);go_simp;try (with_reducible rfl))
      simp only [Act.put,sSet];refine tkH (i:=11) (v:=?_) (hS:=hHeld) (hy:=Or.inl ⟨by rfl,?_⟩) (h:=?_)
      rotate_left 1
      ·(intro w0 hSw;(try dsimp only at hSw);go_simp;try (with_reducible rfl))
      simp only [Act.put,sSet];refine wpAnyH_done (by kernel_rfl) ?_ _;refine NoPanic.normal ?_;clear hHeld A0 A1 A2 A3 D0 D1 D2 D3 X0 X1 b7' b8' b7;have I8:=I6.below b8;have B8:Below w.heap.size w w8:=B6.trans (b8.mono B6.size);have zA:=(b8.block w.heap.size lA6).trans xA;have zB:=(b8.block (w.heap.size+1) lB6).trans xB;have zR:=(b8.block (w.heap.size+1+1) (by omega)).trans xR;have zX:=(b8.block X lX6).trans xX;have oT8:=aL oT6' (fun q hq=>b8.block q (oT6'.lt q hq).2);have s8:=b8.size;clear xA xB xR xX oT6' I6 B6 CA CB;obtain ⟨A0,A1,A2,A3,D0,D1,D2,D3⟩:=row8 zA zB;have X0:w8.cell? ⟨X,0,none⟩=some (.int .i64 (s1:Int)):=(by rw [cell_of_row _ _ _ _ _ _ zX];rfl)
      have X1:w8.cell? ⟨X,1,none⟩=some (.int .i64 (s2:Int)):=(by rw [cell_of_row _ _ _ _ _ _ zX];rfl)
      have lA8:w.heap.size<w8.heap.size:=(by omega)
      have lB8:w.heap.size+1<w8.heap.size:=(by omega)
      have lX8:X<w8.heap.size:=(by omega)
      have lR8:w.heap.size+1+1<w8.heap.size:=(by omega)
      have hLk:(es2.map Prod.fst).getD k []=u:=(by rw [aCW hk3,hmem])
      have hkL:k<(es2.map Prod.fst).length:=(by simpa using hk3)
      have hjK:j<M.K:=(by rw [HQ.out];exact hj2)
      have h2562:es2.length≤256:=(by have:=RI2.few HSM.out;simpa using this)
      have hul2:u.length≤k:=by have h:=RI2.len k hkL;rw [hLk] at h;exact h
      by_cases hd0:d=0
      ·have hdI:((d:Int) != 0)=false:=by simp [hd0]
       have HD0:=aI hd0;clear hd0;obtain ⟨n1,hn1⟩:∃x,x=(M.run (u++[j])).1:=⟨_,rfl⟩
       obtain ⟨n2,hn2⟩:∃x,x=(M.run (u++[j])).2:=⟨_,rfl⟩
       have ba:=fun W hW=>BHA.out u j W j16 hW
       have bb:=fun W hW=>BHB.out u j W j16 hW
       rw [←HS1.out,←hn1] at ba;rw [←HS2.out,←hn2] at bb;have BA:=aI ba;have BB:=aI bb;have HN1:=aI hn1;have HN2:=aI hn2;clear ba bb hn1 hn2
       go_upto_region 24 with fail
       go_cut [15] (fun p wy=>∃b',p=.pointer (some ⟨b',0,none⟩)∧w8.heap.size≤b'∧wy.heap[b']?=some (.cells #[.int .i64 (n1:Int),.int .i64 (n2:Int),.slice (some ⟨gT,0,none⟩) (u.length+1) capT] 118 (0,0))∧Below w8.heap.size w8 wy)
       case first =>
        have b80:Below w8.heap.size w8 w8.drew:=(Below.refl w8.heap.size w8).drew;refine wp_region_noPanic ?_;refine wp_region_any (by kernel_rfl) ?_;simp only [List.size_toArray,List.length_cons,List.length_nil,Nat.zero_add,Nat.reduceAdd];refine wpAny_of_held (S:=fun w'=>(w'.cell? ⟨w.heap.size,0,none⟩=some (.int .i64 n)∧w'.cell? ⟨w.heap.size,1,none⟩=some (.slice la1 la.length lc1)∧w'.cell? ⟨w.heap.size,2,none⟩=some (.slice ga1 ga.length gc1)∧w'.cell? ⟨w.heap.size,3,none⟩=some (.slice oa1 oa.length oc1)∧w'.cell? ⟨w.heap.size+1,0,none⟩=some (.int .i64 n)∧w'.cell? ⟨w.heap.size+1,1,none⟩=some (.slice lb1 lb.length ld1)∧w'.cell? ⟨w.heap.size+1,2,none⟩=some (.slice gb1 gb.length gd1)∧w'.cell? ⟨w.heap.size+1,3,none⟩=some (.slice ob1 ob.length od1))∧w'.cell? ⟨X,0,none⟩=some (.int .i64 (s1:Int))∧w'.cell? ⟨X,1,none⟩=some (.int .i64 (s2:Int))) _ _ _ _ ?_;have hHeld:(fun w':World=>(w'.cell? ⟨w.heap.size,0,none⟩=some (.int .i64 n)∧w'.cell? ⟨w.heap.size,1,none⟩=some (.slice la1 la.length lc1)∧w'.cell? ⟨w.heap.size,2,none⟩=some (.slice ga1 ga.length gc1)∧w'.cell? ⟨w.heap.size,3,none⟩=some (.slice oa1 oa.length oc1)∧w'.cell? ⟨w.heap.size+1,0,none⟩=some (.int .i64 n)∧w'.cell? ⟨w.heap.size+1,1,none⟩=some (.slice lb1 lb.length ld1)∧w'.cell? ⟨w.heap.size+1,2,none⟩=some (.slice gb1 gb.length gd1)∧w'.cell? ⟨w.heap.size+1,3,none⟩=some (.slice ob1 ob.length od1))∧w'.cell? ⟨X,0,none⟩=some (.int .i64 (s1:Int))∧w'.cell? ⟨X,1,none⟩=some (.int .i64 (s2:Int))) w8.drew:=⟨⟨A0,A1,A2,A3,D0,D1,D2,D3⟩,X0,X1⟩
        refine tkH (i:=0) (v:=?_) (hS:=hHeld) (hy:=Or.inl ⟨by rfl,?_⟩) (h:=?_)
        rotate_left 1
        ·(intro w0 hSw;(try dsimp only at hSw);go_simp;try (with_reducible rfl))
        simp only [Act.put,sSet];refine tkH (i:=1) (v:=?_) (hS:=hHeld) (hy:=Or.inl ⟨by rfl,?_⟩) (h:=?_)
        rotate_left 1
        ·(intro w0 hSw;(try dsimp only at hSw);go_simp;try (with_reducible rfl))
        simp only [Act.put,sSet];refine tkH (i:=2) (v:=?_) (hS:=hHeld) (hy:=Or.inl ⟨by rfl,?_⟩) (h:=?_)
        rotate_left 1
        ·(intro w0 hSw;(try dsimp only at hSw);go_simp;try (with_reducible rfl))
        simp only [Act.put,sSet];refine tkH (i:=3) (v:=?_) (hS:=hHeld) (hy:=Or.inl ⟨by rfl,?_⟩) (h:=?_)
        rotate_left 1
        ·(intro w0 hSw;(try dsimp only at hSw);go_simp;try (with_reducible rfl))
        simp only [Act.put,sSet];refine tkH (i:=5) (v:=?_) (hS:=hHeld) (hy:=Or.inl ⟨by rfl,?_⟩) (h:=?_)
        rotate_left 1
        ·(intro w0 hSw;(try dsimp only at hSw);go_simp;try (with_reducible rfl))
        simp only [Act.put,sSet];refine tkH (i:=6) (v:=?_) (hS:=hHeld) (hy:=Or.inl ⟨by rfl,?_⟩) (h:=?_)
        rotate_left 1
        ·(intro w0 hSw;(try dsimp only at hSw);go_simp;try (with_reducible rfl))
        simp only [Act.put,sSet];refine tkH (i:=7) (v:=?_) (hS:=hHeld) (hy:=Or.inl ⟨by rfl,?_⟩) (h:=?_)
        rotate_left 1
        ·(intro w0 hSw;(try dsimp only at hSw);go_simp;try (with_reducible rfl))
        simp only [Act.put,sSet];refine tkH (i:=8) (v:=?_) (hS:=hHeld) (hy:=Or.inl ⟨by rfl,?_⟩) (h:=?_)
        rotate_left 1
        ·(intro w0 hSw;(try dsimp only at hSw);go_simp;try (with_reducible rfl))
        simp only [Act.put,sSet];refine tkH (i:=10) (v:=?_) (hS:=hHeld) (hy:=Or.inl ⟨by rfl,?_⟩) (h:=?_)
        rotate_left 1
        ·(intro w0 hSw;(try dsimp only at hSw);go_simp;try (with_reducible rfl))
        simp only [Act.put,sSet];refine wpAnyH_ready (rs:=[4,12]) (by kernel_rfl) (by simp) (AllReadyH.cons (by simp only [List.getElem?_toArray,List.getElem?_cons_succ,List.getElem?_cons_zero];rfl) (fun K hK=>?_) (AllReadyH.cons (by simp only [List.getElem?_toArray,List.getElem?_cons_succ,List.getElem?_cons_zero];rfl) (fun K hK=>?_) AllReadyH.nil))
        ·go_simp
         refine (BA.out w8.drew (B8.trans (b80.mono B8.size))).mono ?_;rintro e v1 ⟨rfl,cv1⟩;have bv1:Below w8.heap.size w8 v1:=b80.trans (cv1.mono b80.size);have hv1:∀q,q<w8.heap.size→v1.heap[q]?=w8.heap[q]?:=fun q hq=>bv1.block q hq
         refine hK.out _ _ ⟨⟨(World.cell?_of_block (w:=w8) (hv1 _ lA8)).trans A0,(World.cell?_of_block (w:=w8) (hv1 _ lA8)).trans A1,(World.cell?_of_block (w:=w8) (hv1 _ lA8)).trans A2,(World.cell?_of_block (w:=w8) (hv1 _ lA8)).trans A3,(World.cell?_of_block (w:=w8) (hv1 _ lB8)).trans D0,(World.cell?_of_block (w:=w8) (hv1 _ lB8)).trans D1,(World.cell?_of_block (w:=w8) (hv1 _ lB8)).trans D2,(World.cell?_of_block (w:=w8) (hv1 _ lB8)).trans D3⟩,(World.cell?_of_block (w:=w8) (hv1 _ lX8)).trans X0,(World.cell?_of_block (w:=w8) (hv1 _ lX8)).trans X1⟩ (fun hHeld=>?_);clear hK K
         try simp only [Act.put,sSet]
         refine wpAnyH_ready (rs:=[9,12]) (by kernel_rfl) (by simp) (AllReadyH.cons (by simp only [List.getElem?_toArray,List.getElem?_cons_succ,List.getElem?_cons_zero];rfl) (fun K hK=>?_) (AllReadyH.cons (by simp only [List.getElem?_toArray,List.getElem?_cons_succ,List.getElem?_cons_zero];rfl) (fun K hK=>?_) AllReadyH.nil))
         ·go_simp
          refine (BB.out v1 (B8.trans (bv1.mono B8.size))).mono ?_;rintro e v2 ⟨rfl,cv2⟩;have bv2:Below w8.heap.size w8 v2:=bv1.trans (cv2.mono bv1.size);have hv2:∀q,q<w8.heap.size→v2.heap[q]?=w8.heap[q]?:=fun q hq=>bv2.block q hq
          refine hK.out _ _ ⟨⟨(World.cell?_of_block (w:=w8) (hv2 _ lA8)).trans A0,(World.cell?_of_block (w:=w8) (hv2 _ lA8)).trans A1,(World.cell?_of_block (w:=w8) (hv2 _ lA8)).trans A2,(World.cell?_of_block (w:=w8) (hv2 _ lA8)).trans A3,(World.cell?_of_block (w:=w8) (hv2 _ lB8)).trans D0,(World.cell?_of_block (w:=w8) (hv2 _ lB8)).trans D1,(World.cell?_of_block (w:=w8) (hv2 _ lB8)).trans D2,(World.cell?_of_block (w:=w8) (hv2 _ lB8)).trans D3⟩,(World.cell?_of_block (w:=w8) (hv2 _ lX8)).trans X0,(World.cell?_of_block (w:=w8) (hv2 _ lX8)).trans X1⟩ (fun hHeld=>?_);clear hK K
          try simp only [Act.put,sSet]
          refine tkH (i:=11) (v:=?_) (hS:=hHeld) (hy:=Or.inl ⟨by rfl,?_⟩) (h:=?_)
          rotate_left 1
          ·(intro w0 hSw;(try dsimp only at hSw);go_simp;try (with_reducible rfl))
          simp only [Act.put,sSet];refine wpAnyH_ready (rs:=[12]) (by kernel_rfl) (by simp) (AllReadyH.cons (by simp only [List.getElem?_toArray,List.getElem?_cons_succ,List.getElem?_cons_zero];rfl) (fun K hK=>?_) AllReadyH.nil);go_simp;have bv3:Below w8.heap.size w8 (v2.alloc (.cells #[.int .i64 0,.int .i64 0,.slice none 0 0] 118)):=bv2.alloc bv2.size _;have hv3:∀q,q<w8.heap.size→(v2.alloc (.cells #[.int .i64 0,.int .i64 0,.slice none 0 0] 118)).heap[q]?=w8.heap[q]?:=fun q hq=>bv3.block q hq
          refine hK.out _ _ ⟨⟨(World.cell?_of_block (w:=w8) (hv3 _ lA8)).trans A0,(World.cell?_of_block (w:=w8) (hv3 _ lA8)).trans A1,(World.cell?_of_block (w:=w8) (hv3 _ lA8)).trans A2,(World.cell?_of_block (w:=w8) (hv3 _ lA8)).trans A3,(World.cell?_of_block (w:=w8) (hv3 _ lB8)).trans D0,(World.cell?_of_block (w:=w8) (hv3 _ lB8)).trans D1,(World.cell?_of_block (w:=w8) (hv3 _ lB8)).trans D2,(World.cell?_of_block (w:=w8) (hv3 _ lB8)).trans D3⟩,(World.cell?_of_block (w:=w8) (hv3 _ lX8)).trans X0,(World.cell?_of_block (w:=w8) (hv3 _ lX8)).trans X1⟩ (fun hHeld=>?_);clear hK K;have zbv3:(v2.alloc (.cells #[.int .i64 0,.int .i64 0,.slice none 0 0] 118)).heap[v2.heap.size]?=some (.cells #[.int .i64 0,.int .i64 0,.slice none 0 0] 118 (0,0)):=heap_alloc_new _ _
          try simp only [Act.put,sSet]
          have z0:(v2.alloc (.cells #[.int .i64 0,.int .i64 0,.slice none 0 0] 118)).cell? ⟨v2.heap.size,0,none⟩=some (.int .i64 0):=(by rw [cell_of_row _ _ _ _ _ _ zbv3];rfl)
          have z1:(v2.alloc (.cells #[.int .i64 0,.int .i64 0,.slice none 0 0] 118)).cell? ⟨v2.heap.size,1,none⟩=some (.int .i64 0):=(by rw [cell_of_row _ _ _ _ _ _ zbv3];rfl)
          have z2:(v2.alloc (.cells #[.int .i64 0,.int .i64 0,.slice none 0 0] 118)).cell? ⟨v2.heap.size,2,none⟩=some (.slice none 0 0):=(by rw [cell_of_row _ _ _ _ _ _ zbv3];rfl)
          have f0:(v2.alloc (.cells #[.int .i64 0,.int .i64 0,.slice none 0 0] 118)).frozen? ⟨v2.heap.size,0,none⟩=false:=frozen_of_row _ _ _ _ _ zbv3;have f1:(v2.alloc (.cells #[.int .i64 0,.int .i64 0,.slice none 0 0] 118)).frozen? ⟨v2.heap.size,1,none⟩=false:=frozen_of_row _ _ _ _ _ zbv3;have f2:(v2.alloc (.cells #[.int .i64 0,.int .i64 0,.slice none 0 0] 118)).frozen? ⟨v2.heap.size,2,none⟩=false:=frozen_of_row _ _ _ _ _ zbv3;refine wpAnyH_ready (rs:=[13]) (by kernel_rfl) (by simp) (AllReadyH.cons (by simp only [List.getElem?_toArray,List.getElem?_cons_succ,List.getElem?_cons_zero];rfl) (fun K hK=>?_) AllReadyH.nil);go_simp;have hbe:w8.heap.size≤v2.heap.size:=bv2.size;have bE:=bv2.alloc bv2.size (.cells #[.int .i64 (n1:Int),.int .i64 (n2:Int),.slice (some ⟨gT,0,none⟩) (u.length+1) capT] 118);have hE:∀q,q<w8.heap.size→_=w8.heap[q]?:=fun q hq=>bE.block q hq
          refine hK.out _ _ ⟨⟨(World.cell?_of_block (w:=w8) (hE _ lA8)).trans A0,(World.cell?_of_block (w:=w8) (hE _ lA8)).trans A1,(World.cell?_of_block (w:=w8) (hE _ lA8)).trans A2,(World.cell?_of_block (w:=w8) (hE _ lA8)).trans A3,(World.cell?_of_block (w:=w8) (hE _ lB8)).trans D0,(World.cell?_of_block (w:=w8) (hE _ lB8)).trans D1,(World.cell?_of_block (w:=w8) (hE _ lB8)).trans D2,(World.cell?_of_block (w:=w8) (hE _ lB8)).trans D3⟩,(World.cell?_of_block (w:=w8) (hE _ lX8)).trans X0,(World.cell?_of_block (w:=w8) (hE _ lX8)).trans X1⟩ (fun hHeld=>?_);clear hK K;refine wpAnyH_done (by kernel_rfl) ?_ _;refine NoPanic.normal ?_;have yE:(v2.alloc (.cells #[.int .i64 (n1:Int),.int .i64 (n2:Int),.slice (some ⟨gT,0,none⟩) (u.length+1) capT] 118)).heap[v2.heap.size]?=some (.cells #[.int .i64 (n1:Int),.int .i64 (n2:Int),.slice (some ⟨gT,0,none⟩) (u.length+1) capT] 118 (0,0)):=heap_alloc_new _ _;clear hHeld;go_wp2
          go_meet
          case rel=>exact ⟨_,rfl,hbe,yE,bE⟩
         ·go_simp
          have bv2:Below w8.heap.size w8 (v1.alloc (.cells #[.int .i64 0,.int .i64 0,.slice none 0 0] 118)):=bv1.alloc bv1.size _;have hv2:∀q,q<w8.heap.size→(v1.alloc (.cells #[.int .i64 0,.int .i64 0,.slice none 0 0] 118)).heap[q]?=w8.heap[q]?:=fun q hq=>bv2.block q hq
          refine hK.out _ _ ⟨⟨(World.cell?_of_block (w:=w8) (hv2 _ lA8)).trans A0,(World.cell?_of_block (w:=w8) (hv2 _ lA8)).trans A1,(World.cell?_of_block (w:=w8) (hv2 _ lA8)).trans A2,(World.cell?_of_block (w:=w8) (hv2 _ lA8)).trans A3,(World.cell?_of_block (w:=w8) (hv2 _ lB8)).trans D0,(World.cell?_of_block (w:=w8) (hv2 _ lB8)).trans D1,(World.cell?_of_block (w:=w8) (hv2 _ lB8)).trans D2,(World.cell?_of_block (w:=w8) (hv2 _ lB8)).trans D3⟩,(World.cell?_of_block (w:=w8) (hv2 _ lX8)).trans X0,(World.cell?_of_block (w:=w8) (hv2 _ lX8)).trans X1⟩ (fun hHeld=>?_);clear hK K;have zbv2:(v1.alloc (.cells #[.int .i64 0,.int .i64 0,.slice none 0 0] 118)).heap[v1.heap.size]?=some (.cells #[.int .i64 0,.int .i64 0,.slice none 0 0] 118 (0,0)):=heap_alloc_new _ _
          try simp only [Act.put,sSet]
          refine wpAnyH_ready (rs:=[9]) (by kernel_rfl) (by simp) (AllReadyH.cons (by simp only [List.getElem?_toArray,List.getElem?_cons_succ,List.getElem?_cons_zero];rfl) (fun K hK=>?_) AllReadyH.nil);go_simp;refine (BB.out (v1.alloc (.cells #[.int .i64 0,.int .i64 0,.slice none 0 0] 118)) (B8.trans (bv2.mono B8.size))).mono ?_;rintro e v3 ⟨rfl,cv3⟩;have bv3:Below w8.heap.size w8 v3:=bv2.trans (cv3.mono bv2.size);have hv3:∀q,q<w8.heap.size→v3.heap[q]?=w8.heap[q]?:=fun q hq=>bv3.block q hq
          refine hK.out _ _ ⟨⟨(World.cell?_of_block (w:=w8) (hv3 _ lA8)).trans A0,(World.cell?_of_block (w:=w8) (hv3 _ lA8)).trans A1,(World.cell?_of_block (w:=w8) (hv3 _ lA8)).trans A2,(World.cell?_of_block (w:=w8) (hv3 _ lA8)).trans A3,(World.cell?_of_block (w:=w8) (hv3 _ lB8)).trans D0,(World.cell?_of_block (w:=w8) (hv3 _ lB8)).trans D1,(World.cell?_of_block (w:=w8) (hv3 _ lB8)).trans D2,(World.cell?_of_block (w:=w8) (hv3 _ lB8)).trans D3⟩,(World.cell?_of_block (w:=w8) (hv3 _ lX8)).trans X0,(World.cell?_of_block (w:=w8) (hv3 _ lX8)).trans X1⟩ (fun hHeld=>?_);clear hK K
          try simp only [Act.put,sSet]
          have zb3:=(cv3.block v1.heap.size (by simp)).trans zbv2;refine tkH (i:=11) (v:=?_) (hS:=hHeld) (hy:=Or.inl ⟨by rfl,?_⟩) (h:=?_)
          rotate_left 1
          ·(intro w0 hSw;(try dsimp only at hSw);go_simp;try (with_reducible rfl))
          simp only [Act.put,sSet];have z0:v3.cell? ⟨v1.heap.size,0,none⟩=some (.int .i64 0):=(by rw [cell_of_row _ _ _ _ _ _ zb3];rfl)
          have z1:v3.cell? ⟨v1.heap.size,1,none⟩=some (.int .i64 0):=(by rw [cell_of_row _ _ _ _ _ _ zb3];rfl)
          have z2:v3.cell? ⟨v1.heap.size,2,none⟩=some (.slice none 0 0):=(by rw [cell_of_row _ _ _ _ _ _ zb3];rfl)
          have f0:v3.frozen? ⟨v1.heap.size,0,none⟩=false:=frozen_of_row _ _ _ _ _ zb3;have f1:v3.frozen? ⟨v1.heap.size,1,none⟩=false:=frozen_of_row _ _ _ _ _ zb3;have f2:v3.frozen? ⟨v1.heap.size,2,none⟩=false:=frozen_of_row _ _ _ _ _ zb3;refine wpAnyH_ready (rs:=[13]) (by kernel_rfl) (by simp) (AllReadyH.cons (by simp only [List.getElem?_toArray,List.getElem?_cons_succ,List.getElem?_cons_zero];rfl) (fun K hK=>?_) AllReadyH.nil);go_simp;have hbe:w8.heap.size≤v1.heap.size:=bv1.size;have bE:=((bv3.setCell (p:=⟨v1.heap.size,0,none⟩) hbe (.int .i64 (n1:Int))).setCell (p:=⟨v1.heap.size,1,none⟩) hbe (.int .i64 (n2:Int))).setCell (p:=⟨v1.heap.size,2,none⟩) hbe (.slice (some ⟨gT,0,none⟩) (u.length+1) capT);have hE:∀q,q<w8.heap.size→_=w8.heap[q]?:=fun q hq=>bE.block q hq
          refine hK.out _ _ ⟨⟨(World.cell?_of_block (w:=w8) (hE _ lA8)).trans A0,(World.cell?_of_block (w:=w8) (hE _ lA8)).trans A1,(World.cell?_of_block (w:=w8) (hE _ lA8)).trans A2,(World.cell?_of_block (w:=w8) (hE _ lA8)).trans A3,(World.cell?_of_block (w:=w8) (hE _ lB8)).trans D0,(World.cell?_of_block (w:=w8) (hE _ lB8)).trans D1,(World.cell?_of_block (w:=w8) (hE _ lB8)).trans D2,(World.cell?_of_block (w:=w8) (hE _ lB8)).trans D3⟩,(World.cell?_of_block (w:=w8) (hE _ lX8)).trans X0,(World.cell?_of_block (w:=w8) (hE _ lX8)).trans X1⟩ (fun hHeld=>?_);clear hK K;refine wpAnyH_done (by kernel_rfl) ?_ _;refine NoPanic.normal ?_;have yE:=aM (aM (aM zb3 0 (.int .i64 (n1:Int))) 1 (.int .i64 (n2:Int))) 2 (.slice (some ⟨gT,0,none⟩) (u.length+1) capT);clear hHeld;go_wp2
          go_meet
          case rel=>exact ⟨_,rfl,hbe,yE,bE⟩
        ·go_simp
         have bv1:Below w8.heap.size w8 (w8.drew.alloc (.cells #[.int .i64 0,.int .i64 0,.slice none 0 0] 118)):=b80.alloc b80.size _;have hv1:∀q,q<w8.heap.size→(w8.drew.alloc (.cells #[.int .i64 0,.int .i64 0,.slice none 0 0] 118)).heap[q]?=w8.heap[q]?:=fun q hq=>bv1.block q hq
         refine hK.out _ _ ⟨⟨(World.cell?_of_block (w:=w8) (hv1 _ lA8)).trans A0,(World.cell?_of_block (w:=w8) (hv1 _ lA8)).trans A1,(World.cell?_of_block (w:=w8) (hv1 _ lA8)).trans A2,(World.cell?_of_block (w:=w8) (hv1 _ lA8)).trans A3,(World.cell?_of_block (w:=w8) (hv1 _ lB8)).trans D0,(World.cell?_of_block (w:=w8) (hv1 _ lB8)).trans D1,(World.cell?_of_block (w:=w8) (hv1 _ lB8)).trans D2,(World.cell?_of_block (w:=w8) (hv1 _ lB8)).trans D3⟩,(World.cell?_of_block (w:=w8) (hv1 _ lX8)).trans X0,(World.cell?_of_block (w:=w8) (hv1 _ lX8)).trans X1⟩ (fun hHeld=>?_);clear hK K;have zbv1:(w8.drew.alloc (.cells #[.int .i64 0,.int .i64 0,.slice none 0 0] 118)).heap[w8.heap.size]?=some (.cells #[.int .i64 0,.int .i64 0,.slice none 0 0] 118 (0,0)):=heap_alloc_new _ _
         try simp only [Act.put,sSet]
         refine wpAnyH_ready (rs:=[4]) (by kernel_rfl) (by simp) (AllReadyH.cons (by simp only [List.getElem?_toArray,List.getElem?_cons_succ,List.getElem?_cons_zero];rfl) (fun K hK=>?_) AllReadyH.nil);go_simp;refine (BA.out (w8.drew.alloc (.cells #[.int .i64 0,.int .i64 0,.slice none 0 0] 118)) (B8.trans (bv1.mono B8.size))).mono ?_;rintro e v2 ⟨rfl,cv2⟩;have bv2:Below w8.heap.size w8 v2:=bv1.trans (cv2.mono bv1.size);have hv2:∀q,q<w8.heap.size→v2.heap[q]?=w8.heap[q]?:=fun q hq=>bv2.block q hq
         refine hK.out _ _ ⟨⟨(World.cell?_of_block (w:=w8) (hv2 _ lA8)).trans A0,(World.cell?_of_block (w:=w8) (hv2 _ lA8)).trans A1,(World.cell?_of_block (w:=w8) (hv2 _ lA8)).trans A2,(World.cell?_of_block (w:=w8) (hv2 _ lA8)).trans A3,(World.cell?_of_block (w:=w8) (hv2 _ lB8)).trans D0,(World.cell?_of_block (w:=w8) (hv2 _ lB8)).trans D1,(World.cell?_of_block (w:=w8) (hv2 _ lB8)).trans D2,(World.cell?_of_block (w:=w8) (hv2 _ lB8)).trans D3⟩,(World.cell?_of_block (w:=w8) (hv2 _ lX8)).trans X0,(World.cell?_of_block (w:=w8) (hv2 _ lX8)).trans X1⟩ (fun hHeld=>?_);clear hK K
         try simp only [Act.put,sSet]
         refine wpAnyH_ready (rs:=[9]) (by kernel_rfl) (by simp) (AllReadyH.cons (by simp only [List.getElem?_toArray,List.getElem?_cons_succ,List.getElem?_cons_zero];rfl) (fun K hK=>?_) AllReadyH.nil);go_simp;refine (BB.out v2 (B8.trans (bv2.mono B8.size))).mono ?_;rintro e v3 ⟨rfl,cv3⟩;have bv3:Below w8.heap.size w8 v3:=bv2.trans (cv3.mono bv2.size);have hv3:∀q,q<w8.heap.size→v3.heap[q]?=w8.heap[q]?:=fun q hq=>bv3.block q hq
         refine hK.out _ _ ⟨⟨(World.cell?_of_block (w:=w8) (hv3 _ lA8)).trans A0,(World.cell?_of_block (w:=w8) (hv3 _ lA8)).trans A1,(World.cell?_of_block (w:=w8) (hv3 _ lA8)).trans A2,(World.cell?_of_block (w:=w8) (hv3 _ lA8)).trans A3,(World.cell?_of_block (w:=w8) (hv3 _ lB8)).trans D0,(World.cell?_of_block (w:=w8) (hv3 _ lB8)).trans D1,(World.cell?_of_block (w:=w8) (hv3 _ lB8)).trans D2,(World.cell?_of_block (w:=w8) (hv3 _ lB8)).trans D3⟩,(World.cell?_of_block (w:=w8) (hv3 _ lX8)).trans X0,(World.cell?_of_block (w:=w8) (hv3 _ lX8)).trans X1⟩ (fun hHeld=>?_);clear hK K
         try simp only [Act.put,sSet]
         have zb2:=(cv2.block w8.heap.size (by show w8.heap.size<(w8.heap.push _).size;simp)).trans zbv1;have zb3:=(cv3.block w8.heap.size (Nat.lt_of_lt_of_le (by show w8.heap.size<(w8.heap.push _).size;simp) cv2.size)).trans zb2;refine tkH (i:=11) (v:=?_) (hS:=hHeld) (hy:=Or.inl ⟨by rfl,?_⟩) (h:=?_)
         rotate_left 1
         ·(intro w0 hSw;(try dsimp only at hSw);go_simp;try (with_reducible rfl))
         simp only [Act.put,sSet];have z0:v3.cell? ⟨w8.heap.size,0,none⟩=some (.int .i64 0):=(by rw [cell_of_row _ _ _ _ _ _ zb3];rfl)
         have z1:v3.cell? ⟨w8.heap.size,1,none⟩=some (.int .i64 0):=(by rw [cell_of_row _ _ _ _ _ _ zb3];rfl)
         have z2:v3.cell? ⟨w8.heap.size,2,none⟩=some (.slice none 0 0):=(by rw [cell_of_row _ _ _ _ _ _ zb3];rfl)
         have f0:v3.frozen? ⟨w8.heap.size,0,none⟩=false:=frozen_of_row _ _ _ _ _ zb3;have f1:v3.frozen? ⟨w8.heap.size,1,none⟩=false:=frozen_of_row _ _ _ _ _ zb3;have f2:v3.frozen? ⟨w8.heap.size,2,none⟩=false:=frozen_of_row _ _ _ _ _ zb3;refine wpAnyH_ready (rs:=[13]) (by kernel_rfl) (by simp) (AllReadyH.cons (by simp only [List.getElem?_toArray,List.getElem?_cons_succ,List.getElem?_cons_zero];rfl) (fun K hK=>?_) AllReadyH.nil);go_simp;have hbe:w8.heap.size≤w8.heap.size:=Nat.le_refl _;have bE:=((bv3.setCell (p:=⟨w8.heap.size,0,none⟩) hbe (.int .i64 (n1:Int))).setCell (p:=⟨w8.heap.size,1,none⟩) hbe (.int .i64 (n2:Int))).setCell (p:=⟨w8.heap.size,2,none⟩) hbe (.slice (some ⟨gT,0,none⟩) (u.length+1) capT);have hE:∀q,q<w8.heap.size→_=w8.heap[q]?:=fun q hq=>bE.block q hq
         refine hK.out _ _ ⟨⟨(World.cell?_of_block (w:=w8) (hE _ lA8)).trans A0,(World.cell?_of_block (w:=w8) (hE _ lA8)).trans A1,(World.cell?_of_block (w:=w8) (hE _ lA8)).trans A2,(World.cell?_of_block (w:=w8) (hE _ lA8)).trans A3,(World.cell?_of_block (w:=w8) (hE _ lB8)).trans D0,(World.cell?_of_block (w:=w8) (hE _ lB8)).trans D1,(World.cell?_of_block (w:=w8) (hE _ lB8)).trans D2,(World.cell?_of_block (w:=w8) (hE _ lB8)).trans D3⟩,(World.cell?_of_block (w:=w8) (hE _ lX8)).trans X0,(World.cell?_of_block (w:=w8) (hE _ lX8)).trans X1⟩ (fun hHeld=>?_);clear hK K;refine wpAnyH_done (by kernel_rfl) ?_ _;refine NoPanic.normal ?_;have yE:=aM (aM (aM zb3 0 (.int .i64 (n1:Int))) 1 (.int .i64 (n2:Int))) 2 (.slice (some ⟨gT,0,none⟩) (u.length+1) capT);clear hHeld;go_wp2
         go_meet
         case rel=>exact ⟨_,rfl,hbe,yE,bE⟩
       case rest =>
        obtain ⟨b',rfl,hb',yY,bY⟩:=hcut;clear A0 A1 A2 A3 D0 D1 D2 D3 X0 X1 BA BB;have Y0:wc.cell? ⟨b',0,none⟩=some (.int .i64 (n1:Int)):=(by rw [cell_of_row _ _ _ _ _ _ yY];rfl)
        have Y1:wc.cell? ⟨b',1,none⟩=some (.int .i64 (n2:Int)):=(by rw [cell_of_row _ _ _ _ _ _ yY];rfl)
        have Y2:wc.cell? ⟨b',2,none⟩=some (.slice (some ⟨gT,0,none⟩) (u.length+1) capT):=(by rw [cell_of_row _ _ _ _ _ _ yY];rfl)
        have b28:Below wr.heap.size wr wc:=(b6.trans (b8.mono b6.size)).trans (bY.mono (Nat.le_trans b6.size s8));obtain ⟨ps,hps⟩:∃ps:List (Nat×Nat),ps=es2.map fun e=>M.run e.1:=⟨_,rfl⟩
        have hpl:ps.length=es2.length:=(by rw [hps];simp)
        have hpg:∀i,i<es2.length→ps.getD i (0,0)=M.run (es2.getD i bJ).1:=fun i hi=>by rw [hps];simp [hi]
        have hkn:=aFN ps g2 cap2 n1 n2 (some ⟨gT,0,none⟩) (u.length+1) capT wc (by omega) (Nat.lt_of_lt_of_le hgl2 b28.size) (fun i hi=>by
         rw [hpl] at hi;rw [hpg i hi]
         exact ⟨(b28.cell (p:=⟨g2,_,none⟩) hgl2).trans (hcW2 i 0 hi (by omega)),(b28.cell (p:=⟨g2,_,none⟩) hgl2).trans (hcW2 i 1 hi (by omega))⟩)
        rw [hpl] at hkn;have hmemR:(n1,n2)∈ps↔M.run ((es2.map Prod.fst).getD k []++ [j])∈(es2.map Prod.fst).map M.run:=by
         rw [hLk,aLB,←hps,HN1.out,HN2.out]
        have hdL:M.difL ((es2.map Prod.fst).getD k []++ [j])=0:=(by rw [hLk,←HD.out];exact HD0.out)
        have HPS:=aI hps;clear hps hpg hpl
        go_wp2_with fail
        refine hkn.mono ?_;rintro e w9 ⟨rfl,b9⟩;clear hkn;have bY9:Below w8.heap.size w8 w9:=bY.trans (b9.mono bY.size);have I9:=I8.below bY9;have B9:Below w.heap.size w w9:=B8.trans (bY9.mono B8.size);have tA:=(bY9.block w.heap.size lA8).trans zA;have tB:=(bY9.block (w.heap.size+1) lB8).trans zB;have tR:=(bY9.block (w.heap.size+1+1) lR8).trans zR;have tX:=(bY9.block X lX8).trans zX;have tY:=(b9.block b' (Array.getElem?_eq_some_iff.1 yY).1).trans yY;have oT9:=aL oT8 (fun q hq=>bY9.block q (oT8.lt q hq).2);have s9:=bY9.size;clear Y0 Y1 Y2 zA zB zR zX oT8 I8 yY;have Y0:w9.cell? ⟨b',0,none⟩=some (.int .i64 (n1:Int)):=(by rw [cell_of_row _ _ _ _ _ _ tY];rfl)
        have Y1:w9.cell? ⟨b',1,none⟩=some (.int .i64 (n2:Int)):=(by rw [cell_of_row _ _ _ _ _ _ tY];rfl)
        have Y2:w9.cell? ⟨b',2,none⟩=some (.slice (some ⟨gT,0,none⟩) (u.length+1) capT):=by rw [cell_of_row _ _ _ _ _ _ tY];rfl
        by_cases hm:(n1,n2)∈ps
        ·have hdec:decide ((n1,n2)∈ps)=true:=decide_eq_true hm
         have RX:=aI (RI2.known hkL hdL (hmemR.1 hm));go_wp2
         go_roundw
         case rel=>exact ⟨j+1,es2,by omega,by go_num,I9,RX.out,hk3,hmem,hoX,tX,tA,tB,tR,B9⟩
         case measure=>simp [intOf];omega
        ·have hdec:decide ((n1,n2)∈ps)=false:=decide_eq_false hm
         have RX:=RI2.fresh hkL hjK hdL (fun h=>hm (hmemR.2 h));rw [hLk] at RX;have hne9:(u++[j])≠[]:=(by simp)
         have ha9:InAt w9 (inR (w.heap.size+3) (.slice (some ⟨g2,0,none⟩) es2.length cap2)) (.slice (some ⟨gT,0,none⟩) (u.length+1) capT) (u++[j]):=aI5 oT9 (by simp) (fun h=>by
          rcases h with h | h
          ·simp only [Value.ownBlock,Option.some.injEq] at h;omega
          ·omega)
         have own9:=I9.own.alloc (.cells #[.int .i64 (n1:Int),.int .i64 (n2:Int),.slice (some ⟨gT,0,none⟩) (u.length+1) capT] 118);have RXH:=aI RX;clear RX
         go_wp2_with (at_builtin;refine wpList_append_lies _ rfl (.tmp 114) (.tmp 116) 119 rfl (w.heap.size+3) 118 iW (.agg #[.int .i64 0,.int .i64 0,.slice none 0 0]) 3 40 Tryz.underlying119 hiW zW0 zW1 zW2 rfl (by omega) _ _ _ rfl own9 ⟨w9.heap.size,0,none⟩ 1 1 [.int .i64 (n1:Int),.int .i64 (n2:Int),.slice (some ⟨gT,0,none⟩) (u.length+1) capT] rfl rfl (World.news_of_block (aB _ _ _ rfl)) (by simp [Value.oneCell']) (by omega) (by unfold maxLen;omega) (by omega) (by simp;omega) _ rfl ?_)
         intro gN capN w11 own11 grow11 hat11 hlt11;have G11:Grew _ w11 _ gN:=⟨grow11,hat11.imp id (fun e=>by rw [World.size_alloc];exact e)⟩
         have own11':w11.ownsRow (w.heap.size+3) 118 3 (.slice (some ⟨gN,0,none⟩) (es2.length+1) capN) (es2.length+1) (rowR M es2++wayR M (u++[j],.slice (some ⟨gT,0,none⟩) (u.length+1) capT)):=by
          have h:=own11;rw [HN1.out,HN2.out] at h
          exact h
         have IX:=aI ((I9.below ((Below.refl _ _).alloc (Nat.le_refl _) (.cells #[.int .i64 (n1:Int),.int .i64 (n2:Int),.slice (some ⟨gT,0,none⟩) (u.length+1) capT] 118))).more (u++[j],.slice (some ⟨gT,0,none⟩) (u.length+1) capT) hne9 (ha9.below ((Below.refl _ _).alloc (Nat.le_refl _) _)) own11' G11);have B11:Below w.heap.size w w11:=(B9.alloc B9.size _).grown grow11 (by simp;omega) (fun q hq=>by simp only [Value.ownBlock,Option.some.injEq] at hq;omega);have nb:∀q,q<w9.heap.size→q≠g2→w11.heap[q]?=w9.heap[q]?:=fun q hq hne=>(G11.blk q (by simp;omega) (fun e=>hne (by simp only [Value.ownBlock,Option.some.injEq] at e;omega))).trans (Deep.blk_alloc_lt _ _ _ hq)
         have g2X:g2≠X:=fun e=>hoX (by rw [e];rfl)
         have nX:=aI ((nb X (by omega) (Ne.symm g2X)).trans tX);have nA:=aI ((nb w.heap.size (by omega) (by omega)).trans tA);have nB:=aI ((nb (w.heap.size+1) (by omega) (by omega)).trans tB);have nR:=aI ((nb (w.heap.size+1+1) (by omega) (by omega)).trans tR);have hoN:(Value.slice (some ⟨gN,0,none⟩) (es2.length+1) capN).ownBlock≠some X:=fun e=>by
          simp only [Value.ownBlock,Option.some.injEq] at e
          rcases hat11 with h | h
          ·simp only [Value.ownBlock,Option.some.injEq] at h;omega
          ·omega
         have mX:(es2++[(u++[j],Value.slice (some ⟨gT,0,none⟩) (u.length+1) capT)]).getD k bJ=(u,.slice ta tn tc):=by
          rw [←hmem];simp only [List.getD_eq_getElem?_getD];rw [List.getElem?_append_left hk3]
         have lX9:k<(es2++[(u++[j],Value.slice (some ⟨gT,0,none⟩) (u.length+1) capT)]).length:=(by simp;omega)
         have rX9:M.RInv ((es2++[(u++[j],Value.slice (some ⟨gT,0,none⟩) (u.length+1) capT)]).map Prod.fst) k (j+1):=(by rw [List.map_append];exact RXH.out)
         have MX:=aI mX;have RX9:=aI rX9;clear grow11 own11 own11' G11 hat11 hlt11 nb mX rX9;go_wp2
         go_roundw
         case rel=>exact ⟨j+1,es2++[(u++[j],Value.slice (some ⟨gT,0,none⟩) (u.length+1) capT)],by omega,by go_num,IX.out,RX9.out,lX9,MX.out,hoN,nX.out,nA.out,nB.out,nR.out,B11⟩
         case measure=>simp [intOf];omega
      ·have hdI:((d:Int) != 0)=true:=by simp;omega
       have hd1:1≤d:=(by omega)
       obtain ⟨r0,r1,r2,r3⟩:=aK zR;have v0:w8.frozen? ⟨w.heap.size+1+1,0,none⟩=false:=frozen_of_row _ _ _ _ _ zR;have v1:w8.frozen? ⟨w.heap.size+1+1,1,none⟩=false:=frozen_of_row _ _ _ _ _ zR;have v2:w8.frozen? ⟨w.heap.size+1+1,2,none⟩=false:=frozen_of_row _ _ _ _ _ zR;have v3:w8.frozen? ⟨w.heap.size+1+1,3,none⟩=false:=frozen_of_row _ _ _ _ _ zR;clear A0 A1 A2 A3 D0 D1 D2 D3 X0 X1;have says:=RI2.differs hkL hjK hK16 (by rw [hLk,←HD.out];exact hd0);rw [hLk,←HD.out] at says;have SAYS:=aI says;have OT:=aI oT8;have TL:=tz_3 d;clear says oT8
       go_wp2_with fail
       go_loopw [14] (fun i wy=>∃m:Nat,m≤tzN d∧i=.int .i64 m∧wy=w8) (fun i _=>4 - (intOf i).toNat)
       case atStart=>exact ⟨0,Nat.zero_le _,rfl,rfl⟩
       case round =>
        obtain ⟨m,hm,rfl,rfl⟩:=hrel
        by_cases hm2:m<tzN d
        ·have hb:=iB d m 0 hd16 (aM9 d hd16 m (by omega) hd1 hm2).symm
         go_wp2
         go_roundw
         case rel=>exact ⟨m+1,by omega,by go_num,by first | rfl | trivial⟩
         case measure=>simp [intOf];omega
        ·have hmT:m=tzN d:=by omega
         have hb:=iB d m 1 hd16 (by rw [hmT];exact (aMO d hd16 hd1).symm);have HMT:=aI hmT;have hm3:m≤3:=(by omega)
         clear hmT hm hm2 TL;go_wp2;refine uX (b:=w.heap.size+1+1) (aM (aM (aM (aM zR 0 _) 1 _) 2 _) 3 _) (by rfl) (by rfl) ?_;refine ⟨false,0,u++[j],d,some ⟨gT,0,none⟩,capT,SAYS.out,(by rw [←HMT.out,List.length_append];rfl),?_,(by rw [List.length_append,List.length_singleton];omega),(((B8.setCell (p:=⟨w.heap.size+1+1,0,none⟩) (by show w.heap.size≤w.heap.size+1+1;omega) _).setCell (p:=⟨w.heap.size+1+1,1,none⟩) (by show w.heap.size≤w.heap.size+1+1;omega) _).setCell (p:=⟨w.heap.size+1+1,2,none⟩) (by show w.heap.size≤w.heap.size+1+1;omega) _).setCell (p:=⟨w.heap.size+1+1,3,none⟩) (by show w.heap.size≤w.heap.size+1+1;omega) _⟩;rw [List.length_append];have o9:=OT.out;rw [List.length_append] at o9;refine (aL o9 (fun q hq=>?_)).lower (by omega);have hne:q≠w.heap.size+1+1:=(by simp only [Value.ownBlock,Option.some.injEq] at hq;omega)
         rw [Deep.blk_setCell_other _ _ _ _ hne,Deep.blk_setCell_other _ _ _ _ hne,Deep.blk_setCell_other _ _ _ _ hne,Deep.blk_setCell_other _ _ _ _ hne]
    ·have hjq:j=q:=by omega
     have A0:wr.cell? ⟨w.heap.size,0,none⟩=some (.int .i64 n):=(by rw [cell_of_row _ _ _ _ _ _ yA];rfl)
     have RX:=aI (RI2.next (by simpa using hk3) (by rw [HQ.out];exact hjq) hK16);have hjI:¬((j:Int)<(q:Int)):=(by omega)
     go_wp2
     go_roundw
     case rel=>exact ⟨k+1,es2,by omega,by go_num,I2,RX.out,yA,yB,yR,bel⟩
     case measure=>simp [intOf];omega
  ·have hkN:k=es.length:=by omega
   obtain ⟨g,cap,rfl,_,_,_⟩:=I.slice (by have:=RI.head.2;simpa using this);have says:=RI.same (by simp;omega) hK16;rw [List.length_map] at says;have SAYS:=aI says;clear says;obtain ⟨r0,r1,r2,r3⟩:=aK xR;have v0:wr.frozen? ⟨w.heap.size+1+1,0,none⟩=false:=frozen_of_row _ _ _ _ _ xR;have v1:wr.frozen? ⟨w.heap.size+1+1,1,none⟩=false:=frozen_of_row _ _ _ _ _ xR;have v2:wr.frozen? ⟨w.heap.size+1+1,2,none⟩=false:=frozen_of_row _ _ _ _ _ xR;have v3:wr.frozen? ⟨w.heap.size+1+1,3,none⟩=false:=frozen_of_row _ _ _ _ _ xR;have hkI:¬((k:Int)<(es.length:Int)):=(by omega)
   go_wp2;refine uX (b:=w.heap.size+1+1) (aM (aM (aM (aM xR 0 _) 1 _) 2 _) 3 _) (by rfl) (by rfl) ?_
   exact ⟨true,es.length,[],0,none,0,SAYS.out,rfl,World.ownsRow_nil _ _ _ _,by simp,(((bel.setCell (p:=⟨w.heap.size+1+1,0,none⟩) (by show w.heap.size≤w.heap.size+1+1;omega) _).setCell (p:=⟨w.heap.size+1+1,1,none⟩) (by show w.heap.size≤w.heap.size+1+1;omega) _).setCell (p:=⟨w.heap.size+1+1,2,none⟩) (by show w.heap.size≤w.heap.size+1+1;omega) _).setCell (p:=⟨w.heap.size+1+1,3,none⟩) (by show w.heap.size≤w.heap.size+1+1;omega) _⟩
end Go.Proofs.YtgpaajdfkekjiaaGreatDoor
