/-
  A part of the proof of the statement All: texts of ours, made small by program (blanks, names).
-/
import Derived.Test.YtgpaajdfkekjiaaGreatDoorQd
import Derived.Test.YtgpaajdfkekjiaaGreatDoorPr
import Derived.Test.YtgpaajdfkekjiaaGreatDoorPg
import Derived.Test.YtgpaajdfkekjiaaGreatDoorPb
import Derived.Test.YtgpaajdfkekjiaaGreatDoorPi
import Derived.Deep.DeepCutAuto
import Derived.Test.YtgpaajdfkekjiaaGreatDoorPa
namespace Go.Proofs.YtgpaajdfkekjiaaGreatDoor
set_option maxHeartbeats 8000000
set_option maxRecDepth 100000
open Go.RowKit
theorem Keeps.trans' {S T:Nat→Prop}{a b c:World}(h:Keeps S a b) (k:Keeps T b c) (hT:∀i,i<a.heap.size→T i→S i):Keeps S a c :=
 ⟨k.os.trans h.os,k.tape.trans h.tape,k.output.trans h.output,Nat.le_trans h.size k.size,fun i hi ho=>(k.block i (Nat.lt_of_lt_of_le hi h.size) (fun t=>ho (hT i hi t))).trans (h.block i hi ho)⟩
theorem aDX (es:List (List Nat×Value)) (e:List Nat×Value):cT (es++[e])=cT es++[e.1]:=by simp [cT]
theorem yW (M:Duo) (B P:Nat) (hv:Value) (es:List (List Nat×Value)) (e:List Nat×Value) (w:World) (h:WaysAt M B w P hv es) (hg:GoodW es) (hd:Dig e.1∧e.1.length≤500) (he:InAt w (inX B P hv) e.2 e.1) (hn:es.length≤9000) (hB:B≤w.heap.size) (hH:IsHeap (cT es) es.length) :
  Calls Tryz.prog 88 #[pX P,.iface 148 (wayV M e)] w fun r w'=>r=.returned (.tuple #[])∧∃hv' es',es'.Perm (es++[e])∧WaysAt M B w' P hv' es'∧IsHeap (cT es') es'.length∧Keeps (aR P hv) w w'∧∀q,hv'.ownBlock=some q→hv.ownBlock=some q∨w.heap.size≤q:=by
 have mP:=Tryz.mPush P w;have hu:=UpInv.push (l:=cT es) (by rw [dJ];exact hH) e.1;rw [←aDX,dJ] at hu;have HU:=aI hu;have hgood:GoodW (es++[e]):=fun x hx=>by
  rcases List.mem_append.1 hx with hx | hx
  ·exact hg x hx
  ·simp at hx;subst hx;exact hd
 have hl:(es++[e]).length=es.length+1:=by simp
 have HL:=aI hl;have HH:=aI hH;clear hu hl hH;unfold pX
 go_enter Tryz.func88,Tryz.ntmps88
 go_wp2_with fail
 refine (aJ1 M B P hv es e _ h he (by omega) hB).mono ?_;rintro r w1 ⟨rfl,hv1,⟨h1,hnew⟩,K1⟩;obtain ⟨g,cap,hsl,_⟩:=h1.slice (by rw [HL.out];omega);rw [HL.out] at hsl;have HS:=aI hsl;clear hsl;have mL:=Tryz.mLen h1.cell;have HN:=aI hnew;clear hnew
 go_wp2_with fail
 refine (aBF hv1 _ _ _ _ HS.out).mono ?_;rintro r w2 ⟨rfl,hw2⟩;obtain rfl:=hw2.symm;have q1:((es.length+1:Nat):Int) - 1=(es.length:Int):=by omega
 have hup:=aMA M B P hv1 (es++[e]) es.length w1 h1 hgood (by rw [HL.out];omega) (by rw [HL.out];omega) (by rw [HL.out];exact HU.out);rw [HL.out] at hup;unfold pX at hup
 go_wp2_with fail
 refine hup.mono ?_;rintro r w3 ⟨rfl,es',hp,h3,hh,K3⟩;have fin:=aI (K1.trans' K3 (fun k hk hb=>by
  rcases hb with hb | hb
  ·exact .inl hb
  ·rcases HN.out k hb with hb | hb
   ·exact .inr hb
   ·omega))
 go_wp2
 go_end0
 exact ⟨rfl,hv1,es',hp,h3,by rw [hp.length_eq,HL.out];exact hh,fin.out,HN.out⟩
theorem aC4 {α:Type}(l:List α) (n:Nat) (d:α) (h:l.length=n+1):l=l.take n++[l.getD n d]:=by
 have:=sY l d n (by omega);rw [←this,List.take_of_length_le (by omega)]
theorem aBA (M:Duo) (B P:Nat) (hv:Value) (es:List (List Nat×Value)) (w:World) (h:WaysAt M B w P hv es) (hg:GoodW es) (h0:0<es.length) (hn:es.length≤10000) (hH:IsHeap (cT es) es.length) :
  Calls Tryz.prog 86 #[pX P] w fun r w'=>∃e es' hv',r=.returned (.iface 148 (wayV M e))∧(e :: es').Perm es∧(∀x∈es',code e.1≤code x.1)∧WaysAt M B w' P hv' es'∧IsHeap (cT es') es'.length∧InAt w' (inX B P hv') e.2 e.1∧hv'.ownBlock=hv.ownBlock∧Keeps (aR P hv) w w':=by
 obtain ⟨n,hnl⟩:∃n,es.length=n+1:=⟨es.length - 1,by omega⟩
 obtain ⟨g,cap,hsl,_⟩:=h.slice h0;rw [hnl] at hsl hH;have HS:=aI hsl;have HL:=aI hnl;have hdn:=DownInv.pop (l:=cT es) (n:=n) hH (by rw [dJ];exact hnl);rw [←iJ] at hdn;have HD:=aI hdn;have HH:=aI hH;have mL:=Tryz.mLen h.cell;have mS:=Tryz.mSwap h.cell;have q1:((n+1:Nat):Int) - 1=(n:Int):=by omega
 have hn':n≤10000:=by omega
 clear hsl hnl hdn hH;unfold pX
 go_enter Tryz.func86,Tryz.ntmps86
 go_wp2_with fail
 refine (aBF hv _ _ _ _ HS.out).mono ?_;rintro r w2 ⟨rfl,hw2⟩;obtain rfl:=hw2.symm;have hsw:=nW M B P hv es 0 n w h h0 (by rw [HL.out];omega) hn;rw [show ((0:Nat):Int)=0 from rfl] at hsw
 go_wp2_with fail
 refine hsw.mono ?_;clear hsw;rintro r w3 ⟨rfl,h3,K3⟩;have hdc:=aI0 M B P hv (jY es 0 n) n w3 h3 (hg.perm (gM es h0 (by rw [HL.out];omega))) (by rw [sW,HL.out];omega) (by rw [sW];exact hn) HD.out;unfold pX at hdc
 go_wp2_with fail
 refine hdc.mono ?_;rintro r w4 ⟨⟨bb,rfl⟩,es2,hp2,hfar,h4,hh,K4⟩;clear hdc;have hl2:es2.length=n+1:=by rw [hp2.length_eq,sW,HL.out]
 have hsn:=aC4 es2 n bJ hl2;have he0:es2.getD n bJ=es.getD 0 bJ:=by
  rw [hfar n (Nat.le_refl _)];unfold jY;have:n<es.length:=by rw [HL.out];omega
  simp only [List.getD_eq_getElem?_getD];rw [List.getElem?_set_self (by simpa using this)]
  rfl
 obtain ⟨e,hE⟩:∃e,e=es2.getD n bJ:=⟨_,rfl⟩
 obtain ⟨es3,hE3⟩:∃es3,es3=es2.take n:=⟨_,rfl⟩
 rw [←hE,←hE3] at hsn;rw [hsn] at h4 hp2 hh;have hl3:es3.length=n:=by rw [hE3,List.length_take];omega
 have HP2:=aI hp2;have HHh:=aI hh;have HE:=aI (hE.trans he0);have HL3:=aI hl3;have mP:=Tryz.mPop P w4;clear hsn hE hE3 he0 hfar hl2 hp2 hh
 go_wp2_with fail
 refine (aL3 M B P hv es3 e w4 h4 (by rw [HL3.out];rw [HL.out] at hn;omega)).mono ?_;rintro r w5 ⟨rfl,hv5,h5,hob,K5⟩;have HO:=aI hob;clear hob;have hperm:(e :: es3).Perm es:=(List.perm_append_comm (l₁:=[e]) (l₂:=es3)).trans (HP2.out.trans (gM es h0 (by rw [HL.out];omega)));have HPm:=aI hperm;have hmin:∀x∈es3,code e.1≤code x.1:=fun x hx=>by
  have hxe:x∈es:=HPm.out.mem_iff.1 (List.mem_cons_of_mem _ hx);obtain ⟨k,hk,rfl⟩:=List.getElem_of_mem hxe;have:=HH.out.least k (by rw [HL.out] at hk;omega);rw [iX,iX,←HE.out] at this;have e2:es.getD k bJ=es[k]:=by rw [List.getD_eq_getElem?_getD,List.getElem?_eq_getElem hk];rfl
  rw [e2] at this
  exact this
 have HM:=aI hmin;have hin:=(h4.ins e (by simp)).keeps K5 (fun k hk=>.inl (.inl hk));have HI:=aI (hin.mono (Y:=inX B P hv5) (fun k _ hk=>by
  rcases hk with (hk | hk) | hk
  ·exact .inl (.inl hk)
  ·exact .inl (.inr (by rw [←HO.out];exact hk))
  ·exact .inr hk))
 have hheap:IsHeap (cT es3) es3.length:=fun k k0 kn=>by
  rw [HL3.out] at kn;have:=HHh.out k k0 kn;rw [iX,iX] at this ⊢;rw [bS (by rw [HL3.out];omega),bS (by rw [HL3.out];omega)] at this
  exact this
 have HHp:=aI hheap;have KF:=aI ((K3.trans K4).trans' K5 (fun k _ hk=>.inl hk));clear hperm hmin hin hheap;go_wp2
 go_ret
 exact ⟨e,es3,hv5,rfl,HPm.out,HM.out,h5,HHp.out,HI.out,HO.out,KF.out⟩
def CirW (w:World) (v:Value) (n:Nat) (ls gs:List (Int×Int)) (os:List Int):Prop :=
 ∃la lc ga gc oa oc,v=.agg #[.int .i64 n,.slice la ls.length lc,.slice ga gs.length gc,.slice oa os.length oc]∧PairsAt w la ls∧PairsAt w ga gs∧IntsAt w oa os
theorem CirW.below {w w':World}{v:Value}{n:Nat}{ls gs:List (Int×Int)}{os:List Int}(h:CirW w v n ls gs os) (hb:Below w.heap.size w w'):CirW w' v n ls gs os:=by
 obtain ⟨la,lc,ga,gc,oa,oc,e,h1,h2,h3⟩:=h
 exact ⟨la,lc,ga,gc,oa,oc,e,h1.below hb,h2.below hb,h3.below hb⟩
structure tW (n:Nat) (ls gs:List (Int×Int)) (os:List Int):Prop where
 n4:n≤4
 l4:ls.length≤4
 g30:gs.length≤30
 o4:os.length≤4
 gat:∀i,i<gs.length→dG (n+ls.length+(i:Nat)) (gs.getD i (0,0))=true
 lat:∀i,i<ls.length→inB (ls.getD i (0,0)).1 (2*(n+ls.length+gs.length)+1)=true
 out:∀i,i<os.length→inB (os.getD i 0) (2*(n+ls.length+gs.length)+1)=true
 ini:∀i,i<ls.length→inB (ls.getD i (0,0)).2 1=true
theorem nQ {n:Nat}{ls gs:List (Int×Int)}{os:List Int}(hr:aG n ls gs os=true):tW n ls gs os:=by
 obtain ⟨⟨_,hn4,hl4,ho4,hg30⟩,hokl,hokg,hoko⟩:=cD hr
 exact ⟨by omega,hl4,hg30,ho4,hokg,fun i h=>by have:=hokl i h;simp only [cJ,Bool.and_eq_true] at this;exact this.1,hoko,fun i h=>by have:=hokl i h;simp only [cJ,Bool.and_eq_true] at this;exact this.2⟩
theorem aDD {w:World}{v:Value}{n:Nat}{ls gs:List (Int×Int)}{os:List Int}(h:CirW w v n ls gs os) (k:tW n ls gs os) (st inp:Nat) (hs:st<16) (hi:inp<16){o nx:Nat}(ho:dZ os (vals n ls.length gs st inp) os.length=o) (hx:dB ls (vals n ls.length gs st inp) ls.length=nx) :
  Calls Tryz.prog 51 #[v,.int .i64 st,.int .i64 inp] w fun e w'=>e=.returned (.tuple #[.int .i64 o,.int .i64 nx])∧Below w.heap.size w w':=by
 obtain ⟨la,lc,ga,gc,oa,oc,rfl,h1,h2,h3⟩:=h;subst ho hx
 exact qS n st inp la ga oa lc gc oc ls gs os w k.n4 k.l4 k.g30 k.o4 hs hi h1 h2 h3 k.gat k.lat k.out
theorem aCG {w:World}{b:Nat}{tmps:Array Value}{v0 v1 v2 v3:Value}(h:w.heap[b]?=some (.cells #[v0,v1,v2,v3] 148 (0,0)))
  (h8:tmps[8]?.getD undef=.pointer (some ⟨b,0,none⟩)) :
  (results Tryz.f89 tmps).run Tryz.prog w=.ok (.agg #[v0,v1,v2,v3]) w:=by
 obtain ⟨c0,c1,c2,c3⟩:=aK h
 simp [results,Tryz.results89,go_sem,h8,c0,c1,c2,c3]
theorem aHA {tmps:Array Value}{Q:Ending→World→Prop}{w:World}{b:Nat}{v0 v1 v2 v3:Value}(h:w.heap[b]?=some (.cells #[v0,v1,v2,v3] 148 (0,0)))
  (h8:tmps[8]?.getD undef=.pointer (some ⟨b,0,none⟩)) (hQ:Q (.returned (.agg #[v0,v1,v2,v3])) w) :
  bodyPost Tryz.prog Tryz.f89 Q Exit.ret ⟨tmps,[]⟩ w:=bodyPost_ret (aCG h h8) rfl hQ
theorem dD {w:World}{b:Nat}{u0 u1 u2 u3:Value}{t:TypeId}(h:w.heap[b]?=some (.cells #[u0,u1,u2,u3] t (0,0))) (v0 v1 v2 v3:Value):(box4 w b v0 v1 v2 v3).heap[b]?=some (.cells #[v0,v1,v2,v3] t (0,0)):=by
 unfold box4
 exact aM (aM (aM (aM h 0 v0) 1 v1) 2 v2) 3 v3
theorem uA (w:World) (b:Nat) (v0 v1 v2 v3:Value):Keeps (fun k=>k=b) w (box4 w b v0 v1 v2 v3):=by
 refine ⟨rfl,rfl,rfl,?_,fun q _ hq=>?_⟩
 ·unfold box4;simp only [Deep.nblk_setCell];exact Nat.le_refl _
 ·unfold box4
  rw [Deep.blk_setCell_other _ _ _ _ hq,Deep.blk_setCell_other _ _ _ _ hq,Deep.blk_setCell_other _ _ _ _ hq,Deep.blk_setCell_other _ _ _ _ hq]
theorem aB8 (n:Nat) (la ga:List (Int×Int)) (oa:List Int) (lb gb:List (Int×Int)) (ob:List Int) (va vb:Value) (X:Nat→Prop) (v:Value) (u:List Nat) (i:Nat) (w:World)
  (ka:tW n la ga oa) (kb:tW n lb gb ob) (ca:CirW w va n la ga oa) (cb:CirW w vb n lb gb ob) (hu:u.length≤400) (hv:InAt w X v u) (hi:i<16) :
  Calls Tryz.prog 89 #[va,vb,wayV (duo n la ga oa lb gb ob) (u,v),.int .i64 i] w fun r w'=>∃v',r=.returned (wayV (duo n la ga oa lb gb ob) (u++[i],v'))∧(∀Y:Nat→Prop,(∀k,Y k→k<w.heap.size)→InAt w' Y v' (u++[i]))∧Below w.heap.size w w':=by
 obtain ⟨M,hM⟩:∃M,M=duo n la ga oa lb gb ob:=⟨_,rfl⟩
 rw [←hM];have hsm:=Duo.run_small (M:=M) (by rw [hM];exact rI ka.l4 kb.l4) u;obtain ⟨sa,hsa⟩:∃x:Nat,x=(M.run u).1:=⟨_,rfl⟩
 obtain ⟨sb,hsb⟩:∃x:Nat,x=(M.run u).2:=⟨_,rfl⟩
 obtain ⟨du,hdu⟩:∃x:Nat,x=M.difL u:=⟨_,rfl⟩
 obtain ⟨xa,hxa⟩:∃x:Nat,dZ oa (vals n la.length ga sa i) oa.length=x:=⟨_,rfl⟩
 obtain ⟨xb,hxb⟩:∃x:Nat,dZ ob (vals n lb.length gb sb i) ob.length=x:=⟨_,rfl⟩
 obtain ⟨na,hna⟩:∃x:Nat,dB la (vals n la.length ga sa i) la.length=x:=⟨_,rfl⟩
 obtain ⟨nb,hnb⟩:∃x:Nat,dB lb (vals n lb.length gb sb i) lb.length=x:=⟨_,rfl⟩
 have hrun:M.run (u++[i])=(na,nb):=by
  rw [M.run_snoc,←hna,←hnb,hsa,hsb,hM];rfl
 have hdif:M.difL (u++[i])=xa ^^^ xb:=by
  rw [M.difL_snoc,←hxa,←hxb,hsa,hsb,hM];rfl
 have hxa16:xa<16:=by rw [←hxa];exact kR _ ka.o4
 have hxb16:xb<16:=by rw [←hxb];exact kR _ kb.o4
 have hxor:bits .xor .i64 (xa:Int) (xb:Int)=((xa ^^^ xb:Nat):Int):=eP xa xb (by omega) (by omega);have hsa16:sa<16:=by rw [hsa];exact hsm.1
 have hsb16:sb<16:=by rw [hsb];exact hsm.2
 have eW:wayV M (u,v)=.agg #[v,.int .i64 sa,.int .i64 sb,.int .i64 du]:=by unfold wayV;rw [hsa,hsb,hdu]
 have HR:=aI hrun;have HDf:=aI hdif;rw [eW];clear eW hM hsm hsa hsb hdu hrun hdif;obtain ⟨av,cv,hve,hvr⟩:=hv;have hv:InAt w X v u:=⟨av,cv,hve,hvr⟩
 subst hve;obtain ⟨la1,lc1,ga1,gc1,oa1,oc1,hva,_⟩:=ca;have ca:CirW w va n la ga oa:=⟨la1,lc1,ga1,gc1,oa1,oc1,hva,by assumption⟩
 obtain ⟨lb1,ld1,gb1,gd1,ob1,od1,hvb,_⟩:=cb;have cb:CirW w vb n lb gb ob:=⟨lb1,ld1,gb1,gd1,ob1,od1,hvb,by assumption⟩
 subst hva hvb;obtain ⟨W4,hW4⟩:∃W4,W4=(((w.alloc (.cells #[.int .i64 n,.slice la1 la.length lc1,.slice ga1 ga.length gc1,.slice oa1 oa.length oc1] 34)).alloc (.cells #[.int .i64 n,.slice lb1 lb.length ld1,.slice gb1 gb.length gd1,.slice ob1 ob.length od1] 34)).alloc (.cells #[.slice av u.length cv,.int .i64 sa,.int .i64 sb,.int .i64 du] 148)).alloc (.cells #[.slice none 0 0,.int .i64 0,.int .i64 0,.int .i64 0] 148):=⟨_,rfl⟩
 have s4:W4.heap.size=w.heap.size+4:=by rw [hW4];simp
 have B4:Below w.heap.size w W4:=by rw [hW4];exact ((((Below.refl _ _).alloc (Nat.le_refl _) _).alloc (by simp) _).alloc (by simp;omega) _).alloc (by simp;omega) _
 have bA:W4.heap[w.heap.size]?=some (.cells #[.int .i64 n,.slice la1 la.length lc1,.slice ga1 ga.length gc1,.slice oa1 oa.length oc1] 34 (0,0)):=by rw [hW4];exact aA (aA (aA (aB _ _ _ rfl)))
 have bB:W4.heap[w.heap.size+1]?=some (.cells #[.int .i64 n,.slice lb1 lb.length ld1,.slice gb1 gb.length gd1,.slice ob1 ob.length od1] 34 (0,0)):=by rw [hW4];exact aA (aA (aB _ _ _ (by simp)))
 have bW:W4.heap[w.heap.size+1+1]?=some (.cells #[.slice av u.length cv,.int .i64 sa,.int .i64 sb,.int .i64 du] 148 (0,0)):=by rw [hW4];exact aA (aB _ _ _ (by simp))
 have bR:W4.heap[w.heap.size+1+1+1]?=some (.cells #[.slice none 0 0,.int .i64 0,.int .i64 0,.int .i64 0] 148 (0,0)):=by rw [hW4];exact aB _ _ _ (by simp)
 obtain ⟨A0,A1,A2,A3⟩:=aK bA;have C1:W4.cell? ⟨w.heap.size+1+1,1,none⟩=some (.int .i64 sa):=by rw [cell_of_row _ _ _ _ _ _ bW];rfl
 go_enter Tryz.func89,Tryz.ntmps89
 go_upto_region 1 with fail
 rw [←hW4];clear hW4
 go_wp2_with fail
 refine (aDD (ca.below B4) ka sa i hsa16 hi hxa hna).mono ?_;rintro r w5 ⟨rfl,b5⟩;have B5:Below w.heap.size w w5:=B4.trans (b5.mono B4.size);have blk5:∀k,k<W4.heap.size→w5.heap[k]?=W4.heap[k]?:=b5.block;have bB5:=(blk5 (w.heap.size+1) (by omega)).trans bB;have bW5:=(blk5 (w.heap.size+1+1) (by omega)).trans bW;have bR5:=(blk5 (w.heap.size+1+1+1) (by omega)).trans bR;obtain ⟨D0,D1,D2,D3⟩:=aK bB5;have D4:w5.cell? ⟨w.heap.size+1+1,2,none⟩=some (.int .i64 sb):=by rw [cell_of_row _ _ _ _ _ _ bW5];rfl
 clear A0 A1 A2 A3 C1 blk5 bA bB bW bR
 go_wp2_with fail
 refine (aDD (cb.below B5) kb sb i hsb16 hi hxb hnb).mono ?_;rintro r w6 ⟨rfl,b6⟩;have s5:=b5.size;have B6:Below w.heap.size w w6:=B5.trans (b6.mono B5.size);have bW6:=(b6.block (w.heap.size+1+1) (by omega)).trans bW5;have bR6:=(b6.block (w.heap.size+1+1+1) (by omega)).trans bR5;have E0:w6.cell? ⟨w.heap.size+1+1,0,none⟩=some (.slice av u.length cv):=by rw [cell_of_row _ _ _ _ _ _ bW6];rfl
 clear D0 D1 D2 D3 D4 bB5 bW5 bR5
 go_wp2_with fail
 refine (aJT X _ u i w6 (by omega) (hv.below B6)).mono ?_;rintro r w7 ⟨v',rfl,hin,b7⟩;have s6:=b6.size;have B7:Below w.heap.size w w7:=B6.trans (b7.mono B6.size);have bR7:=(b7.block (w.heap.size+1+1+1) (by omega)).trans bR6;obtain ⟨F0,F1,F2,F3⟩:=aK bR7;have G0:w7.frozen? ⟨w.heap.size+1+1+1,0,none⟩=false:=frozen_of_row _ _ _ _ _ bR7;have G1:w7.frozen? ⟨w.heap.size+1+1+1,1,none⟩=false:=frozen_of_row _ _ _ _ _ bR7;have G2:w7.frozen? ⟨w.heap.size+1+1+1,2,none⟩=false:=frozen_of_row _ _ _ _ _ bR7;have G3:w7.frozen? ⟨w.heap.size+1+1+1,3,none⟩=false:=frozen_of_row _ _ _ _ _ bR7;have HIN:=aI hin;have hsl:∃a c,v'=.slice a (u.length+1) c:=by obtain ⟨a,c,e,_⟩:=hin (fun _=>False) (fun _ h=>h.elim);exact ⟨a,c,by rw [e];simp⟩
 clear hin;obtain ⟨a7,c7,rfl⟩:=hsl;go_wp2;refine aHA (b:=w.heap.size+1+1+1) (dD bR7 _ _ _ _) (by rfl) ?_;refine ⟨.slice a7 (u.length+1) c7,?_,fun Y hY=>?_,aH B7 (by omega) _ _ _ _⟩
 ·unfold wayV
  rw [HR.out,HDf.out]
 ·have K:Keeps (fun k=>k=w.heap.size+1+1+1) w7 (box4 w7 (w.heap.size+1+1+1) (.slice a7 (u.length+1) c7) (.int .i64 na) (.int .i64 nb) (.int .i64 ((xa ^^^ xb:Nat):Int))):=uA _ _ _ _ _ _
  have h1:=HIN.out (fun k=>Y k∨k=w.heap.size+1+1+1) (fun k hk=>by
   rcases hk with hk | hk
   ·have:=hY k hk;omega
   ·omega)
  exact (h1.keeps K (fun k hk=>.inr hk)).mono (fun k _ hk=>.inl hk)
structure TabDB (w:World):Prop where
 c0:w.cell? ⟨1,0,none⟩=some (.int .u8 0)
 c1:w.cell? ⟨1,1,none⟩=some (.int .u8 1)
 c3:w.cell? ⟨1,3,none⟩=some (.int .u8 2)
 c7:w.cell? ⟨1,7,none⟩=some (.int .u8 3)
theorem TabDB.lt {w:World}(h:TabDB w):1<w.heap.size:=World.block_lt_of_cell? _ _ h.c0
theorem TabDB.block {w w':World}(h:TabDB w) (hb:w'.heap[1]?=w.heap[1]?):TabDB w' :=
 ⟨(World.cell?_of_block (w:=w) hb).trans h.c0,(World.cell?_of_block (w:=w) hb).trans h.c1,(World.cell?_of_block (w:=w) hb).trans h.c3,(World.cell?_of_block (w:=w) hb).trans h.c7⟩
theorem TabDB.below {w w':World}(h:TabDB w) (hb:Below w.heap.size w w'):TabDB w':=h.block (hb.block _ h.lt)
def tzN (d:Nat):Nat:=if d % 2=1 then 0 else if d % 4=2 then 1 else if d % 8=4 then 2 else 3
theorem aJI (d:Nat) (h1:1≤d) (h2:d<16) (w:World) (h:TabDB w) :
  Calls Tryz.prog 108 #[.int .u64 d] w fun e w'=>e=.returned (.int .i64 (tzN d:Nat))∧w'=w:=by
 have c0:=h.c0;have c1:=h.c1;have c3:=h.c3;have c7:=h.c7;have hd:d=1∨d=2∨d=3∨d=4∨d=5∨d=6∨d=7∨d=8∨d=9∨d=10∨d=11∨d=12∨d=13∨d=14∨d=15:=by omega
 rcases hd with rfl | rfl | rfl | rfl | rfl | rfl | rfl | rfl | rfl | rfl | rfl | rfl | rfl | rfl | rfl
 ·have hb:IntKind.u64.wrap (bits BinOp.and IntKind.u64 1 (IntKind.u64.wrap (-1))*285870213051353865) / 288230376151711744=0:=by decide +kernel
  go_enter Tryz.func108,Tryz.ntmps108
  go_wp2
  go_ret
  exact ⟨rfl,rfl⟩
 ·have hb:IntKind.u64.wrap (bits BinOp.and IntKind.u64 2 (IntKind.u64.wrap (-2))*285870213051353865) / 288230376151711744=1:=by decide +kernel
  go_enter Tryz.func108,Tryz.ntmps108
  go_wp2
  go_ret
  exact ⟨rfl,rfl⟩
 ·have hb:IntKind.u64.wrap (bits BinOp.and IntKind.u64 3 (IntKind.u64.wrap (-3))*285870213051353865) / 288230376151711744=0:=by decide +kernel
  go_enter Tryz.func108,Tryz.ntmps108
  go_wp2
  go_ret
  exact ⟨rfl,rfl⟩
 ·have hb:IntKind.u64.wrap (bits BinOp.and IntKind.u64 4 (IntKind.u64.wrap (-4))*285870213051353865) / 288230376151711744=3:=by decide +kernel
  go_enter Tryz.func108,Tryz.ntmps108
  go_wp2
  go_ret
  exact ⟨rfl,rfl⟩
 ·have hb:IntKind.u64.wrap (bits BinOp.and IntKind.u64 5 (IntKind.u64.wrap (-5))*285870213051353865) / 288230376151711744=0:=by decide +kernel
  go_enter Tryz.func108,Tryz.ntmps108
  go_wp2
  go_ret
  exact ⟨rfl,rfl⟩
 ·have hb:IntKind.u64.wrap (bits BinOp.and IntKind.u64 6 (IntKind.u64.wrap (-6))*285870213051353865) / 288230376151711744=1:=by decide +kernel
  go_enter Tryz.func108,Tryz.ntmps108
  go_wp2
  go_ret
  exact ⟨rfl,rfl⟩
 ·have hb:IntKind.u64.wrap (bits BinOp.and IntKind.u64 7 (IntKind.u64.wrap (-7))*285870213051353865) / 288230376151711744=0:=by decide +kernel
  go_enter Tryz.func108,Tryz.ntmps108
  go_wp2
  go_ret
  exact ⟨rfl,rfl⟩
 ·have hb:IntKind.u64.wrap (bits BinOp.and IntKind.u64 8 (IntKind.u64.wrap (-8))*285870213051353865) / 288230376151711744=7:=by decide +kernel
  go_enter Tryz.func108,Tryz.ntmps108
  go_wp2
  go_ret
  exact ⟨rfl,rfl⟩
 ·have hb:IntKind.u64.wrap (bits BinOp.and IntKind.u64 9 (IntKind.u64.wrap (-9))*285870213051353865) / 288230376151711744=0:=by decide +kernel
  go_enter Tryz.func108,Tryz.ntmps108
  go_wp2
  go_ret
  exact ⟨rfl,rfl⟩
 ·have hb:IntKind.u64.wrap (bits BinOp.and IntKind.u64 10 (IntKind.u64.wrap (-10))*285870213051353865) / 288230376151711744=1:=by decide +kernel
  go_enter Tryz.func108,Tryz.ntmps108
  go_wp2
  go_ret
  exact ⟨rfl,rfl⟩
 ·have hb:IntKind.u64.wrap (bits BinOp.and IntKind.u64 11 (IntKind.u64.wrap (-11))*285870213051353865) / 288230376151711744=0:=by decide +kernel
  go_enter Tryz.func108,Tryz.ntmps108
  go_wp2
  go_ret
  exact ⟨rfl,rfl⟩
 ·have hb:IntKind.u64.wrap (bits BinOp.and IntKind.u64 12 (IntKind.u64.wrap (-12))*285870213051353865) / 288230376151711744=3:=by decide +kernel
  go_enter Tryz.func108,Tryz.ntmps108
  go_wp2
  go_ret
  exact ⟨rfl,rfl⟩
 ·have hb:IntKind.u64.wrap (bits BinOp.and IntKind.u64 13 (IntKind.u64.wrap (-13))*285870213051353865) / 288230376151711744=0:=by decide +kernel
  go_enter Tryz.func108,Tryz.ntmps108
  go_wp2
  go_ret
  exact ⟨rfl,rfl⟩
 ·have hb:IntKind.u64.wrap (bits BinOp.and IntKind.u64 14 (IntKind.u64.wrap (-14))*285870213051353865) / 288230376151711744=1:=by decide +kernel
  go_enter Tryz.func108,Tryz.ntmps108
  go_wp2
  go_ret
  exact ⟨rfl,rfl⟩
 ·have hb:IntKind.u64.wrap (bits BinOp.and IntKind.u64 15 (IntKind.u64.wrap (-15))*285870213051353865) / 288230376151711744=0:=by decide +kernel
  go_enter Tryz.func108,Tryz.ntmps108
  go_wp2
  go_ret
  exact ⟨rfl,rfl⟩
theorem aM8 (d:Nat) (h1:1≤d) (h2:d<16) (w:World) (h:TabDB w) :
  Calls Tryz.prog 87 #[.int .u64 d] w fun e w'=>e=.returned (.int .i64 (tzN d:Nat))∧w'=w:=by
 go_enter Tryz.func87,Tryz.ntmps87
 go_wp2_with (go_at_call 108;refine (aJI d h1 h2 _ h).mono ?_;rintro e w' ⟨rfl,hw⟩;have hw:=hw.symm;subst hw)
 go_ret
 exact ⟨rfl,rfl⟩
end Go.Proofs.YtgpaajdfkekjiaaGreatDoor
namespace Go.Proofs.YtgpaajdfkekjiaaGreatDoor
set_option maxHeartbeats 8000000
set_option maxRecDepth 100000
open Go.RowKit
theorem aJ0 (n:Nat) (h:n≤4):wrap64 ((2:Int)^n)=((2^n:Nat):Int):=by
 have h5:n=0∨n=1∨n=2∨n=3∨n=4:=by omega
 rcases h5 with h | h | h | h | h<;>subst h<;>simp [wrap64]
theorem aGE (n:Nat) (h:n≤4):IntKind.i64.wrap ((2:Int)^n)=((2^n:Nat):Int):=by
 have h5:n=0∨n=1∨n=2∨n=3∨n=4:=by omega
 rcases h5 with h | h | h | h | h<;>subst h<;>decide
def KnownAt (w:World) (b:Nat) (L:List (Nat×Nat)):Prop :=
 ∃cs,w.heap[b]?=some (.cells cs 145 (0,0))∧cs.size=256∧∀p q,p<16→q<16→cs[p*16+q]?=some (.bool (decide ((p,q)∈L)))
theorem aAT:Tryz.zeroCells145=Array.replicate 256 (.bool false):=by kernel_rfl
theorem KnownAt.block {w w':World}{b:Nat}{L:List (Nat×Nat)}(h:KnownAt w b L) (hb:w'.heap[b]?=w.heap[b]?):KnownAt w' b L:=by
 obtain ⟨cs,h1,h2⟩:=h
 exact ⟨cs,hb.trans h1,h2⟩
theorem KnownAt.get {w:World}{b:Nat}{L:List (Nat×Nat)}(h:KnownAt w b L){p q:Nat}(hp:p<16) (hq:q<16):w.cell? ⟨b,p*16+q,none⟩=some (.bool (decide ((p,q)∈L))):=by
 obtain ⟨cs,h1,_,h3⟩:=h;rw [cell_of_row _ _ _ _ _ _ h1];exact h3 p q hp hq
theorem KnownAt.frz {w:World}{b:Nat}{L:List (Nat×Nat)}(h:KnownAt w b L) (k:Nat):w.frozen? ⟨b,k,none⟩=false:=by
 obtain ⟨cs,h1,_⟩:=h
 exact frozen_of_row _ _ _ _ _ h1
theorem KnownAt.add {w:World}{b:Nat}{L:List (Nat×Nat)}(h:KnownAt w b L){p q:Nat}(hp:p<16) (hq:q<16):KnownAt (w.setCell ⟨b,p*16+q,none⟩ (.bool true)) b (L++[(p,q)]):=by
 obtain ⟨cs,h1,h2,h3⟩:=h;refine ⟨_,aM h1 _ _,by simpa using h2,fun p' q' hp' hq'=>?_⟩;rw [Array.getElem?_setIfInBounds]
 by_cases e:p*16+q=p'*16+q'
 ·have e1:p=p':=by omega
  have e2:q=q':=by omega
  subst e1 e2;rw [if_pos rfl,if_pos (by omega)]
  simp
 ·rw [if_neg e,h3 p' q' hp' hq']
  have:(p',q')≠(p,q):=fun h=>e (by rw [Prod.mk.injEq] at h;omega)
  simp [this]
theorem WaysAt.form {M:Duo}{B P:Nat}{w:World}{hv:Value}{es:List (List Nat×Value)}(h:WaysAt M B w P hv es):∃a c,hv=.slice a es.length c:=by
 rcases h.own.2 with ⟨h1,h2⟩ | ⟨g,cap,cur,hv',_⟩
 ·exact ⟨none,0,by rw [h1,h2]⟩
 ·exact ⟨_,_,hv'⟩
theorem WaysAt.blocks {M:Duo}{B P:Nat}{w:World}{hv:Value}{es:List (List Nat×Value)}(h:WaysAt M B w P hv es){k:Nat}(hk:aR P hv k):B≤k∧k<w.heap.size:=by
 rcases hk with rfl | hk
 ·exact ⟨h.lo,h.lt⟩
 ·exact h.own.lt k hk
theorem InAt.push {w w':World}{B P:Nat}{hv hv':Value}{v:Value}{u:List Nat}(h:InAt w (inX B P hv) v u) (K:Keeps (aR P hv) w w') (hn:∀q,hv'.ownBlock=some q→hv.ownBlock=some q∨w.heap.size≤q):InAt w' (inX B P hv') v u:=by
 have h1:=h.keeps K (fun _ h=>.inl h);obtain ⟨a,c,e,hi,hl,hz,hb,ho⟩:=h1;refine ⟨a,c,e,hi,hl,hz,(fun b eb=>⟨fun hh=>?_,(hb b eb).2⟩),ho⟩
 rcases hh with (hh | hh) | hh
 ·exact (hb b eb).1 (.inl (.inl hh))
 ·rcases hn _ hh with h2 | h2
  ·exact (hb b eb).1 (.inl (.inr h2))
  ·obtain ⟨a',c',e',_,_,_,hb',_⟩:=h
   rw [e] at e';simp only [Value.slice.injEq] at e';have:=(hb' b (by rw [←e'.1];exact eb)).2
   omega
 ·exact (hb b eb).1 (.inr hh)
theorem InAt.notX {w:World}{X:Nat→Prop}{v:Value}{u:List Nat}(h:InAt w X v u){q:Nat}(hq:v.ownBlock=some q):¬X q:=by
 obtain ⟨a,c,e,hi,hl,hz,hb,ho⟩:=h
 rcases ho.2 with ⟨h',_⟩ | ⟨g,cap,cur,h',_⟩
 ·rw [h'] at hq;cases hq
 ·rw [h'] at hq
  simp only [Value.ownBlock,Option.some.injEq] at hq;rw [h'] at e;simp only [Value.slice.injEq] at e;have:=(hb _ e.1.symm).1;rw [←hq];exact this
theorem InAt.ltSize {w:World}{X:Nat→Prop}{v:Value}{u:List Nat}(h:InAt w X v u){q:Nat}(hq:v.ownBlock=some q):q<w.heap.size:=by
 obtain ⟨a,c,e,hi,hl,hz,hb,ho⟩:=h
 exact (ho.lt q hq).2
theorem InAt.owned {w w':World}{X:Nat→Prop}{v:Value}{u:List Nat}{B:Nat}(h:InAt w X v u) (hX:∀k,k<B→X k) (hw:∀q,v.ownBlock=some q→w'.heap[q]?=w.heap[q]?):w'.ownsRow B 3 1 v u.length (aP u):=by
 have hn:∀q,v.ownBlock=some q→B≤q:=fun q hq=>Nat.le_of_not_lt (fun hl=>h.notX hq (hX q hl))
 obtain ⟨a,c,e,hi,hl,hz,hb,ho⟩:=h;refine ⟨ho.1,?_⟩
 rcases ho.2 with h' | ⟨g,cap,cur,h',_,hr,hrest⟩
 ·exact .inl h'
 ·exact .inr ⟨g,cap,cur,h',hn g (by rw [h'];rfl),by rw [hw g (by rw [h'];rfl)];exact hr,hrest⟩
structure OfInv (M:Duo) (A P:Nat) (bA bB:Array Value) (w wr:World) (hv:Value) (E:List (List Nat)) (es:List (List Nat×Value)):Prop where
 pq:M.PQ (cT es) E
 heap:IsHeap (cT es) es.length
 ways:WaysAt M (A+4) wr P hv es
 known:KnownAt wr (A+3) (E.map M.run)
 bxA:wr.heap[A]?=some (.cells bA 34 (0,0))
 bxB:wr.heap[A+1]?=some (.cells bB 34 (0,0))
 bxR:wr.heap[A+1+1]?=some (.cells #[.bool false,.int .i64 0,.slice none 0 0,.int .i64 0] 82 (0,0))
 bel:Below A w wr
 sz:A+4≤wr.heap.size
section
variable {M:Duo}{A P:Nat}{bA bB:Array Value}{w wr:World}{hv:Value}{E:List (List Nat)}{es:List (List Nat×Value)}
theorem OfInv.few (h:OfInv M A P bA bB w wr hv E es) (hs:M.Small):E.length≤256:=h.pq.few hs
theorem OfInv.len (h:OfInv M A P bA bB w wr hv E es) (hs:M.Small) (hK:M.K≤16):es.length≤4097:=by have:=h.pq.room hs hK;rwa [dJ] at this
theorem OfInv.good (h:OfInv M A P bA bB w wr hv E es) (hs:M.Small) (hK:M.K≤16):GoodW es:=fun e he=>by
 have hm:e.1∈cT es:=List.mem_map.2 ⟨e,he,rfl⟩;have h1:=h.pq.len e.1 hm;have h2:=h.few hs
 exact ⟨Duo.dig_of_valid hK (h.pq.valid e.1 hm),by omega⟩
theorem OfInv.boxes (h:OfInv M A P bA bB w wr hv E es){w':World}(K:Keeps (aR P hv) wr w'):KnownAt w' (A+3) (E.map M.run)∧w'.heap[A]?=some (.cells bA 34 (0,0))∧w'.heap[A+1]?=some (.cells bB 34 (0,0))∧
  w'.heap[A+1+1]?=some (.cells #[.bool false,.int .i64 0,.slice none 0 0,.int .i64 0] 82 (0,0))∧Below A w w'∧A+4≤w'.heap.size:=by
 have hn:∀k,k<A+4→¬aR P hv k:=fun k hk hb=>by have:=(h.ways.blocks hb).1;omega
 have hs:=h.sz;have hb:∀k,k<A+4→w'.heap[k]?=wr.heap[k]?:=fun k hk=>K.block k (by omega) (hn k hk)
 refine ⟨h.known.block (hb _ (by omega)),(hb _ (by omega)).trans h.bxA,(hb _ (by omega)).trans h.bxB,(hb _ (by omega)).trans h.bxR,⟨K.os.trans h.bel.os,K.tape.trans h.bel.tape,K.output.trans h.bel.output,Nat.le_trans h.bel.size K.size,fun k hk=>(hb k (by omega)).trans (h.bel.block k hk)⟩,Nat.le_trans hs K.size⟩
end
theorem WaysAt.keepsLow {M:Duo}{B P:Nat}{w w':World}{hv:Value}{es:List (List Nat×Value)}{S:Nat→Prop}(h:WaysAt M B w P hv es) (K:Keeps S w w') (hS:∀k,S k→k<B):WaysAt M B w' P hv es:=by
 have hP:=K.block P h.lt (fun hs=>by have:=hS P hs;have:=h.lo;omega);refine ⟨h.lo,Nat.lt_of_lt_of_le h.lt K.size,(World.cell?_of_block (w:=w) hP).trans h.cell,(World.frozen?_of_block (w:=w) hP).trans h.frz,aL h.own (fun q hq=>K.block q (h.own.lt q hq).2 (fun hs=>by have:=hS q hs;have:=(h.own.lt q hq).1;omega)),h.ap,fun e he=>(h.ins e he).keeps K (fun k hk=>.inr (hS k hk))⟩
structure InnInv (M:Duo) (A P b8:Nat) (bA bB c8:Array Value) (w wi:World) (hv:Value) (E:List (List Nat)) (es1:List (List Nat×Value)) (x:List Nat) (vx:Value) (k:Nat) (es2:List (List Nat×Value)):Prop where
 perm:(cT es2).Perm (cT es1++Duo.kids x k)
 heap:IsHeap (cT es2) es2.length
 ways:WaysAt M (A+4) wi P hv es2
 inx:InAt wi (inX (A+4) P hv) vx x
 nb8:hv.ownBlock≠some b8
 known:KnownAt wi (A+3) (E.map M.run)
 bxA:wi.heap[A]?=some (.cells bA 34 (0,0))
 bxB:wi.heap[A+1]?=some (.cells bB 34 (0,0))
 bxR:wi.heap[A+1+1]?=some (.cells #[.bool false,.int .i64 0,.slice none 0 0,.int .i64 0] 82 (0,0))
 bx8:wi.heap[b8]?=some (.cells c8 148 (0,0))
 bel:Below A w wi
 s8:A+4≤b8
 t8:b8<wi.heap.size
 pb:P≠b8
theorem InnInv.next {M:Duo}{A P b8:Nat}{bA bB c8:Array Value}{w wi wf wp:World}{hv hv':Value}{E:List (List Nat)}{es1 es2 es':List (List Nat×Value)}{x:List Nat}{vx v':Value}{k:Nat}(I:InnInv M A P b8 bA bB c8 w wi hv E es1 x vx k es2)
  (bf:Below wi.heap.size wi wf) (hp:es'.Perm (es2++[(x++[k],v')])) (ways':WaysAt M (A+4) wp P hv' es') (heap':IsHeap (cT es') es'.length) (K:Keeps (aR P hv) wf wp) (hn:∀q,hv'.ownBlock=some q→hv.ownBlock=some q∨wf.heap.size≤q) :
  InnInv M A P b8 bA bB c8 w wp hv' E es1 x vx (k+1) es':=by
 have t8:=I.t8;have s8:=I.s8;have hsz:=bf.size;have hblk:∀j,j<wi.heap.size→¬aR P hv j→wp.heap[j]?=wi.heap[j]?:=fun j hj hb=>(K.block j (by omega) hb).trans (bf.block j hj)
 have hlow:∀j,j<A+4→¬aR P hv j:=fun j hj hb=>by have:=(I.ways.blocks hb).1;omega
 have h8:¬aR P hv b8:=fun hb=>by
  rcases hb with hb | hb
  ·exact I.pb hb.symm
  ·exact I.nb8 hb
 refine ⟨?_,heap',ways',(I.inx.below bf).push K hn,?_,I.known.block (hblk _ (by omega) (hlow _ (by omega))),(hblk _ (by omega) (hlow _ (by omega))).trans I.bxA,(hblk _ (by omega) (hlow _ (by omega))).trans I.bxB,(hblk _ (by omega) (hlow _ (by omega))).trans I.bxR,(hblk _ t8 h8).trans I.bx8,?_,s8,by have:=K.size;omega,I.pb⟩
 ·have h1:(cT es').Perm (cT es2++[x++[k]]):=by
   have:=hp.map Prod.fst;rw [List.map_append] at this
   exact this
  refine h1.trans ?_;rw [Duo.kids_succ,←List.append_assoc]
  exact I.perm.append_right _
 ·intro e
  rcases hn b8 e with h | h
  ·exact I.nb8 h
  ·omega
 ·exact ⟨K.os.trans (bf.os.trans I.bel.os),K.tape.trans (bf.tape.trans I.bel.tape),K.output.trans (bf.output.trans I.bel.output),Nat.le_trans I.bel.size (Nat.le_trans hsz K.size),fun j hj=>(hblk j (by omega) (hlow j (by omega))).trans (I.bel.block j hj)⟩
theorem aAY {w:World}{b:Nat}{tmps:Array Value}{v0 v1 v2 v3:Value}(h:w.heap[b]?=some (.cells #[v0,v1,v2,v3] 82 (0,0)))
  (h4:tmps[4]?.getD undef=.pointer (some ⟨b,0,none⟩)) :
  (results Tryz.f60 tmps).run Tryz.prog w=.ok (.agg #[v0,v1,v2,v3]) w:=by
 obtain ⟨c0,c1,c2,c3⟩:=aK h
 simp [results,Tryz.results60,go_sem,h4,c0,c1,c2,c3]
theorem xZ {tmps:Array Value}{Q:Ending→World→Prop}{w:World}{b:Nat}{v0 v1 v2 v3:Value}(h:w.heap[b]?=some (.cells #[v0,v1,v2,v3] 82 (0,0)))
  (h4:tmps[4]?.getD undef=.pointer (some ⟨b,0,none⟩)) (hQ:Q (.returned (.agg #[v0,v1,v2,v3])) w) :
  bodyPost Tryz.prog Tryz.f60 Q Exit.ret ⟨tmps,[]⟩ w:=bodyPost_ret (aAY h h4) rfl hQ
def aMD (M:Duo) (w:World) (r:Ending) (w':World):Prop :=
 ∃(same:Bool) (reached:Nat) (trace:List Nat) (d:Nat) (tv:Value),M.Says same reached trace d∧r=.returned (.agg #[.bool same,.int .i64 reached,tv,.int .i64 ((if same then 0 else tzN d:Nat):Int)])∧
  w'.ownsRow w.heap.size 3 1 tv trace.length (aP trace)∧trace.length≤256∧Below w.heap.size w w'
end Go.Proofs.YtgpaajdfkekjiaaGreatDoor
