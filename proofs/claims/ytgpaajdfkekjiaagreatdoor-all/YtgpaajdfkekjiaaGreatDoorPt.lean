/-
  A part of the proof of the statement All: texts of ours, made small by program (blanks, names).
-/
import Derived.Test.YtgpaajdfkekjiaaGreatDoorPg
import Derived.Test.YtgpaajdfkekjiaaGreatDoorPr
import Derived.Test.YtgpaajdfkekjiaaGreatDoorPs
namespace Go.Proofs.YtgpaajdfkekjiaaGreatDoor
set_option maxHeartbeats 8000000
set_option maxRecDepth 100000
open Go.RowKit
def nmL (l:List Nat) (ls:List (Int×Int)) (k:Nat):List (Int×Int):=(List.range k).map fun j=>((putS l (ls.getD j (0,0)).1.toNat:Int),(ls.getD j (0,0)).2)
def nmO (l:List Nat) (os:List Int) (k:Nat):List Int:=(List.range k).map fun j=>(putS l (os.getD j 0).toNat:Int)
theorem jA (l:List Nat) (ls:List (Int×Int)) (k:Nat):(nmL l ls k).length=k:=by simp [nmL]
theorem jB (l:List Nat) (os:List Int) (k:Nat):(nmO l os k).length=k:=by simp [nmO]
theorem aCZ (l:List Nat) (ls:List (Int×Int)) (k:Nat):nmL l ls (k+1)=nmL l ls k++[((putS l (ls.getD k (0,0)).1.toNat:Int),(ls.getD k (0,0)).2)]:=by simp [nmL,List.range_succ]
theorem aD0 (l:List Nat) (os:List Int) (k:Nat):nmO l os (k+1)=nmO l os k++[(putS l (os.getD k 0).toNat:Int)]:=by simp [nmO,List.range_succ]
theorem aBK (l:List Nat) (ls:List (Int×Int)):nmL l ls ls.length=ls.map fun p=>((putS l p.1.toNat:Int),p.2):=by
 apply List.ext_getElem
 ·simp [nmL]
 ·intro i h1 h2
  have:i<ls.length:=by simpa using h2
  simp [nmL,this]
theorem aBL (l:List Nat) (os:List Int):nmO l os os.length=os.map fun s=>(putS l s.toNat:Int):=by
 apply List.ext_getElem
 ·simp [nmO]
 ·intro i h1 h2
  have:i<os.length:=by simpa using h2
  simp [nmO,this]
structure OInv (wr:World) (C B:Nat) (a gv:Value) (lv ov:Value) (ls:List (Int×Int)) (os:List Int):Prop where
 cb:C<B
 bs:B≤wr.heap.size
 boxC:wr.heap[C]?=some (.cells #[a,lv,gv,ov] 34 (0,0))
 ownL:wr.ownsRow B 54 2 lv ls.length (flat ls)
 ownO:wr.ownsRow B 3 1 ov os.length (ivs os)
 lo:∀q,lv.ownBlock=some q→ov.ownBlock≠some q
section
variable {wr wr':World}{C B:Nat}{a lv gv ov:Value}{ls:List (Int×Int)}{os:List Int}
theorem OInv.alloc (I:OInv wr C B a gv lv ov ls os) (o:Obj):OInv (wr.alloc o) C B a gv lv ov ls os :=
 ⟨I.cb,by simp;have:=I.bs;omega,aA I.boxC,I.ownL.alloc o,I.ownO.alloc o,I.lo⟩
theorem OInv.drew (I:OInv wr C B a gv lv ov ls os):OInv wr.drew C B a gv lv ov ls os:=⟨I.cb,I.bs,I.boxC,I.ownL,I.ownO,I.lo⟩
theorem OInv.addL (I:OInv wr C B a gv lv ov ls os){g' cap':Nat}{x y:Int}(own':wr'.ownsRow B 54 2 (.slice (some ⟨g',0,none⟩) (ls.length+1) cap') (ls.length+1) (flat ls++[.int .i64 x,.int .i64 y])) (G:Grew wr wr' lv g') :
  OInv (wr'.setCell ⟨C,1,none⟩ (.slice (some ⟨g',0,none⟩) (ls.length+1) cap')) C B a gv (.slice (some ⟨g',0,none⟩) (ls.length+1) cap') ov (ls++[(x,y)]) os:=by
 have h1:=I.cb;have h2:=I.bs;have hs:=G.grow.size;refine ⟨I.cb,by rw [Deep.nblk_setCell];omega,aM ((G.blk C (by omega) (fun e=>by have:=(I.ownL.lt _ e).1;omega)).trans I.boxC) _ _,?_,kV h1 (dE I.ownO G (fun q e e'=>I.lo q e' e)) _ _,?_⟩
 ·rw [fS,List.length_append];exact kV h1 own' _ _
 ·intro q hq
  simp only [Value.ownBlock,Option.some.injEq] at hq;subst hq
  exact apart I.ownO G (fun q e e'=>I.lo q e' e)
theorem OInv.addO (I:OInv wr C B a gv lv ov ls os){g' cap':Nat}{x:Int}(own':wr'.ownsRow B 3 1 (.slice (some ⟨g',0,none⟩) (os.length+1) cap') (os.length+1) (ivs os++[.int .i64 x])) (G:Grew wr wr' ov g') :
  OInv (wr'.setCell ⟨C,3,none⟩ (.slice (some ⟨g',0,none⟩) (os.length+1) cap')) C B a gv lv (.slice (some ⟨g',0,none⟩) (os.length+1) cap') ls (os++[x]):=by
 have h1:=I.cb;have h2:=I.bs;have hs:=G.grow.size;refine ⟨I.cb,by rw [Deep.nblk_setCell];omega,aM ((G.blk C (by omega) (fun e=>by have:=(I.ownO.lt _ e).1;omega)).trans I.boxC) _ _,kV h1 (dE I.ownL G I.lo) _ _,?_,?_⟩
 ·rw [wF,List.length_append];exact kV h1 own' _ _
 ·intro q hq e
  simp only [Value.ownBlock,Option.some.injEq] at e;subst e
  exact apart I.ownL G I.lo hq
end
theorem zQ {tmps:Array Value}{Q:Ending→World→Prop}{w:World}{b:Nat}{v0 v1 v2 v3:Value}(h:w.heap[b]?=some (.cells #[v0,v1,v2,v3] 34 (0,0)))
  (h6:tmps[6]?.getD undef=.pointer (some ⟨b,0,none⟩)) (hQ:Q (.returned (.agg #[v0,v1,v2,v3])) w) :
  bodyPost Tryz.prog Tryz.f101 Q Exit.ret ⟨tmps,[]⟩ w:=by
 obtain ⟨c0,c1,c2,c3⟩:=aK h
 exact bodyPost_ret (by simp [results,Tryz.results101,go_sem,h6,c0,c1,c2,c3]) rfl hQ
def aLJ (w:World) (v0 gv:Value) (ls:List (Int×Int)) (os:List Int) (e:Ending) (w':World):Prop :=
 ∃lv ov,e=.returned (.agg #[v0,lv,gv,ov])∧w'.ownsRow w.heap.size 54 2 lv ls.length (flat ls)∧w'.ownsRow w.heap.size 3 1 ov os.length (ivs os)∧(∀q,lv.ownBlock=some q→ov.ownBlock≠some q)∧Below w.heap.size w w'
theorem nD (N:Int) (la oa ga g0:Option Addr) (lc oc gn gc gm gd:Nat) (ls:List (Int×Int)) (os:List Int) (b off len cap:Nat) (l:List Nat) (w:World) (hl4:ls.length≤4) (ho4:os.length≤4)
  (hL:PairsAt w la ls) (hO:IntsAt w oa os) (hlen:len≤1000) (hv:len=l.length) (h01:∀x∈l,x<1000) (hb:b<w.heap.size)
  (hc:∀j,j<len→w.cell? ⟨b,off+j,none⟩=some (.int .i64 ((l.getD j 0:Nat):Int)))
  (fL:∀i,i<ls.length→0≤(ls.getD i (0,0)).1∧(ls.getD i (0,0)).1.toNat / 2<len) (fO:∀i,i<os.length→0≤os.getD i 0∧(os.getD i 0).toNat / 2<len) :
  Calls Tryz.prog 101 #[.slice (some ⟨b,off,none⟩) len cap,.agg #[.int .i64 N,.slice la ls.length lc,.slice g0 gm gd,.slice oa os.length oc],.slice ga gn gc] w
   (aLJ w (.int .i64 N) (.slice ga gn gc) (nmL l ls ls.length) (nmO l os os.length)):=by
 obtain ⟨W3,hW3⟩:∃W3,W3=((w.alloc (.cells #[.int .i64 N,.slice la ls.length lc,.slice g0 gm gd,.slice oa os.length oc] 34)).alloc (.cells #[.int .i64 0,.slice none 0 0,.slice none 0 0,.slice none 0 0] 34)).alloc (.cells #[.int .i64 N,.slice none 0 0,.slice ga gn gc,.slice none 0 0] 34):=⟨_,rfl⟩
 have s3:W3.heap.size=w.heap.size+3:=by rw [hW3];simp
 have B3:Below w.heap.size w W3:=by rw [hW3];exact (((Below.refl _ _).alloc (Nat.le_refl _) _).alloc (by simp) _).alloc (by simp;omega) _
 have bR:W3.heap[w.heap.size]?=some (.cells #[.int .i64 N,.slice la ls.length lc,.slice g0 gm gd,.slice oa os.length oc] 34 (0,0)):=by rw [hW3];exact aA (aA (aB _ _ _ rfl))
 have bA:W3.heap[w.heap.size+1]?=some (.cells #[.int .i64 0,.slice none 0 0,.slice none 0 0,.slice none 0 0] 34 (0,0)):=by rw [hW3];exact aA (aB _ _ _ (by simp))
 have I3:OInv W3 (w.heap.size+2) (w.heap.size+3) (.int .i64 N) (.slice ga gn gc) (.slice none 0 0) (.slice none 0 0) [] []:=⟨by omega,by omega,by rw [hW3];exact aB _ _ _ (by simp),World.ownsRow_nil _ _ _ _,World.ownsRow_nil _ _ _ _,(fun q e=>by cases e)⟩
 obtain ⟨iL,hiL,zL0,zL1,zL2⟩:=info_parts Tryz.infoLS;obtain ⟨iO,hiO,zO0,zO1,zO2⟩:=info_parts Tryz.infoInt;have HC:=aE hc;have H01:=aE h01;have HV:=aE hv;clear hc h01 hv
 go_enter Tryz.func101,Tryz.ntmps101
 go_wp2_with fail
 rw [←hW3];clear hW3
 go_loopw [19] (fun i wr=>∃(k:Nat) (lv:Value),k≤ls.length∧i=.int .i64 k∧OInv wr (w.heap.size+2) (w.heap.size+3) (.int .i64 N) (.slice ga gn gc) lv (.slice none 0 0) (nmL l ls k) []∧wr.heap[w.heap.size]?=some (.cells #[.int .i64 N,.slice la ls.length lc,.slice g0 gm gd,.slice oa os.length oc] 34 (0,0))∧wr.heap[w.heap.size+1]?=some (.cells #[.int .i64 0,.slice none 0 0,.slice none 0 0,.slice none 0 0] 34 (0,0))∧Below w.heap.size w wr)
  (fun i _=>ls.length - (intOf i).toNat)
 case atStart=>exact ⟨0,_,Nat.zero_le _,rfl,I3,bR,bA,B3⟩
 case round =>
  clear I3 bR bA B3 s3;obtain ⟨k,lv,hk,rfl,I,bR,bA,bel⟩:=hrel
  by_cases hk2:k<ls.length
  ·obtain ⟨bl,ol,rfl,hlt,hcL⟩:=hL.get (by omega)
   have hx1':=(bel.cell (p:=⟨bl,ol+k*2,none⟩) hlt).trans (hcL k hk2).1;have hx2:=(bel.cell (p:=⟨bl,ol+k*2+1,none⟩) hlt).trans (hcL k hk2).2;obtain ⟨f1,f2⟩:=fL k hk2;obtain ⟨x1,hX1⟩:=Int.eq_ofNat_of_zero_le f1;obtain ⟨x2,hX2⟩:∃x,x=(ls.getD k (0,0)).2:=⟨_,rfl⟩
   rw [hX1,Int.toNat_natCast] at f2;rw [hX1] at hx1';obtain ⟨p1,hp1⟩:∃p,p=putS l x1:=⟨_,rfl⟩
   have HK:Hid (nmL l ls (k+1)=nmL l ls k++[((p1:Int),x2)]):=(by show _=_;rw [aCZ,hX1,←hX2,hp1,Int.toNat_natCast])
   rw [←hX2] at hx2;have hx1:wr.cell? ⟨bl,ol+k*2,none⟩=some (.int .i64 (x1:Int)):=hx1';have oX:∀W,Below w.heap.size w W→Calls Tryz.prog 118 #[.slice (some ⟨b,off,none⟩) len cap,.int .i64 (x1:Int)] W fun e w'=>e=.returned (.int .i64 (p1:Int))∧w'=W:=fun W hW=>by
    rw [hp1]
    exact aD1 x1 b off len cap l W f2 hlen HV.out H01.out (fun j hj=>(hW.cell (p:=⟨b,_,none⟩) hb).trans (HC.out j hj))
   have yb:bl<wr.heap.size:=Nat.lt_of_lt_of_le hlt bel.size;obtain ⟨W4,hW4⟩:∃W4,W4=wr.alloc (.cells #[.int .i64 (x1:Int),.int .i64 x2] 54):=⟨_,rfl⟩
   have b4:Below w.heap.size w W4:=(by rw [hW4];exact bel.alloc bel.size _)
   have s4:W4.heap.size=wr.heap.size+1:=(by rw [hW4];simp)
   have bx4:W4.heap[wr.heap.size]?=some (.cells #[.int .i64 (x1:Int),.int .i64 x2] 54 (0,0)):=(by rw [hW4];exact heap_alloc_new _ _)
   have I4:OInv W4 (w.heap.size+2) (w.heap.size+3) (.int .i64 N) (.slice ga gn gc) lv (.slice none 0 0) (nmL l ls k) []:=(by rw [hW4];exact I.alloc _)
   have bR4:W4.heap[w.heap.size]?=some (.cells #[.int .i64 N,.slice (some ⟨bl,ol,none⟩) ls.length lc,.slice g0 gm gd,.slice oa os.length oc] 34 (0,0)):=(by rw [hW4];exact aA bR)
   have bA4:W4.heap[w.heap.size+1]?=some (.cells #[.int .i64 0,.slice none 0 0,.slice none 0 0,.slice none 0 0] 34 (0,0)):=(by rw [hW4];exact aA bA)
   have cC:W4.cell? ⟨w.heap.size+1+1,1,none⟩=some lv:=(by rw [cell_of_row _ _ _ _ _ _ I4.boxC];rfl)
   have fC:W4.frozen? ⟨w.heap.size+1+1,1,none⟩=false:=frozen_of_row _ _ _ _ _ I4.boxC;have q0:W4.cell? ⟨wr.heap.size,0,none⟩=some (.int .i64 (x1:Int)):=(by rw [cell_of_row _ _ _ _ _ _ bx4];rfl)
   have q1:W4.cell? ⟨wr.heap.size,1,none⟩=some (.int .i64 x2):=(by rw [cell_of_row _ _ _ _ _ _ bx4];rfl)
   have hsz:=I.bs;have y2:w.heap.size+1+1<W4.heap.size:=(by omega)
   have y4:wr.heap.size<W4.heap.size:=(by omega)
   have hob:∀q,lv.ownBlock=some q→w.heap.size+3≤q:=fun q hq=>(I.ownL.lt q hq).1
   have hob2:lv.ownBlock≠some wr.heap.size:=fun e=>by have:=(I.ownL.lt _ e).2;omega
   have hs7:∀j,j<w.heap.size+3→j<W4.heap.size:=fun j hj=>by omega
   have hs9:∀(o:Obj) (j:Nat),j<W4.heap.size→j<((W4.alloc o).drew).heap.size:=fun o j hj=>by show j<(W4.heap.push o).size;simp;omega
   have hs8:∀j,j<w.heap.size+3→lv.ownBlock≠some j:=fun j hj e=>by have:=hob j e;omega
   have hk0:(0:Int)≤(k:Int):=(by omega)
   have own:=I4.ownL;have hkl:(k:Int)<(ls.length:Int):=(by omega)
   rw [jA] at own;have FL:=aE fL;have hsW:w.heap.size+3≤W4.heap.size:=(by omega)
   clear hX1 hX2 hp1 hcL f1 f2 hx1' fL s4
   go_upto_region 5 with fail
   rw [←hW4];clear hW4;refine wp_region_noPanic ?_;refine bO (by kernel_rfl) (by kernel_rfl) ?_;simp only [List.pop_toArray,List.dropLast_cons_cons,List.dropLast_singleton,List.size_toArray,List.length_cons,List.length_nil,Nat.zero_add,Nat.reduceAdd];refine wpAny_of_held (S:=fun w'=>w'.cell? ⟨w.heap.size+1+1,1,none⟩=some lv∧w'.cell? ⟨wr.heap.size,0,none⟩=some (.int .i64 (x1:Int))∧w'.cell? ⟨wr.heap.size,1,none⟩=some (.int .i64 x2)) _ _ _ _ ?_;have hHeld:(fun w':World=>w'.cell? ⟨w.heap.size+1+1,1,none⟩=some lv∧w'.cell? ⟨wr.heap.size,0,none⟩=some (.int .i64 (x1:Int))∧w'.cell? ⟨wr.heap.size,1,none⟩=some (.int .i64 x2)) W4.drew:=⟨cC,q0,q1⟩
   refine tkH (i:=0) (v:=?_) (hS:=hHeld) (hy:=Or.inl ⟨by rfl,?_⟩) (h:=?_)
   rotate_left 1
   ·(intro w0 hSw;(try dsimp only at hSw);go_simp;try (with_reducible rfl))
   simp only [Act.put,sSet];refine tkH (i:=1) (v:=?_) (hS:=hHeld) (hy:=Or.inl ⟨by rfl,?_⟩) (h:=?_)
   rotate_left 1
   ·(intro w0 hSw;(try dsimp only at hSw);go_simp;try (with_reducible rfl))
   simp only [Act.put,sSet];refine tkH (i:=2) (v:=?_) (hS:=hHeld) (hy:=Or.inl ⟨by rfl,?_⟩) (h:=?_)
   rotate_left 1
   ·(intro w0 hSw;(try dsimp only at hSw);go_simp;try (with_reducible rfl))
   simp only [Act.put,sSet];refine tkH (i:=3) (v:=?_) (hS:=hHeld) (hy:=Or.inl ⟨by rfl,?_⟩) (h:=?_)
   rotate_left 1
   ·(intro w0 hSw;(try dsimp only at hSw);go_simp;try (with_reducible rfl))
   simp only [Act.put,sSet];refine tkH (i:=4) (v:=?_) (hS:=hHeld) (hy:=Or.inl ⟨by rfl,?_⟩) (h:=?_)
   rotate_left 1
   ·(intro w0 hSw;(try dsimp only at hSw);go_simp;try (with_reducible rfl))
   simp only [Act.put,sSet];refine tkH (i:=6) (v:=?_) (hS:=hHeld) (hy:=Or.inl ⟨by rfl,?_⟩) (h:=?_)
   rotate_left 1
   ·(intro w0 hSw;(try dsimp only at hSw);go_simp;try (with_reducible rfl))
   simp only [Act.put,sSet];refine tkH (i:=7) (v:=?_) (hS:=hHeld) (hy:=Or.inl ⟨by rfl,?_⟩) (h:=?_)
   rotate_left 1
   ·(intro w0 hSw;(try dsimp only at hSw);go_simp;try (with_reducible rfl))
   simp only [Act.put,sSet];refine wpAnyH_ready (rs:=[5]) (by kernel_rfl) (by simp) (AllReadyH.cons (by simp only [List.getElem?_toArray,List.getElem?_cons_succ,List.getElem?_cons_zero];rfl) (fun K hK=>?_) AllReadyH.nil);go_simp;refine (oX _ (b4.trans (Below.refl _ _).drew)).mono ?_;rintro e w' ⟨rfl,e9⟩;obtain rfl:=e9.symm;dsimp only;refine hK.out _ _ ?_ (fun hHeld=>?_)
   ·exact hHeld
   clear hK K
   try simp only [Act.put,sSet]
   refine tkH (i:=8) (v:=?_) (hS:=hHeld) (hy:=Or.inl ⟨by rfl,?_⟩) (h:=?_)
   rotate_left 1
   ·(intro w0 hSw;(try dsimp only at hSw);go_simp;try (with_reducible rfl))
   simp only [Act.put,sSet];refine wpAnyH_ready (rs:=[9]) (by kernel_rfl) (by simp) (AllReadyH.cons (by simp only [List.getElem?_toArray,List.getElem?_cons_succ,List.getElem?_cons_zero];rfl) (fun K hK=>?_) AllReadyH.nil);go_simp;refine hK.out _ _ ?_ (fun hHeld=>?_)
   ·simp [go_sem,World.cell?_alloc_past,y2,y4,cC,q0,q1]
   clear hK K
   try simp only [Act.put,sSet]
   refine wpAnyH_ready (rs:=[10]) (by kernel_rfl) (by simp) (AllReadyH.cons (by simp only [List.getElem?_toArray,List.getElem?_cons_succ,List.getElem?_cons_zero];rfl) (fun K hK=>?_) AllReadyH.nil);refine step_append_lies _ (by rfl) (.tmp 24) (.tmp 32) 30 (by rfl) (w.heap.size+3) 54 iL (.agg #[.int .i64 0,.int .i64 0]) 2 16 Tryz.underlying30 hiL zL0 zL1 zL2 rfl (by omega) lv k (flat (nmL l ls k)) (by rfl) ((own.alloc _).drew) ⟨W4.heap.size,0,none⟩ 1 1 [.int .i64 (p1:Int),.int .i64 x2] (by rfl) rfl (aG2 _ _ _ _) (by simp [Value.oneCell']) (by omega) (by unfold maxLen;omega) (by omega) (by simp;omega) _ rfl ?_;intro g' cap' w1 hown1 hgrow hat hlt1;have G8:Grew _ w1 lv g':=⟨hgrow,hat⟩
   have hblk:∀j,j<w.heap.size+3→w1.heap[j]?=W4.heap[j]?:=fun j hj=>(G8.blk j (hs9 _ j (hs7 j hj)) (fun e=>hs8 j hj e)).trans (Deep.blk_alloc_lt _ _ _ (hs7 j hj))
   have hblk4:w1.heap[wr.heap.size]?=W4.heap[wr.heap.size]?:=(G8.blk _ (hs9 _ _ y4) hob2).trans (Deep.blk_alloc_lt _ _ _ y4);have cC1:w1.cell? ⟨w.heap.size+1+1,1,none⟩=some lv:=(World.cell?_of_block (w:=W4) (hblk (w.heap.size+1+1) (by omega))).trans cC;have fC1:w1.frozen? ⟨w.heap.size+1+1,1,none⟩=false:=(World.frozen?_of_block (w:=W4) (hblk (w.heap.size+1+1) (by omega))).trans fC;refine hK.out _ _ ?_ (fun hHeld=>?_)
   ·exact ⟨cC1,(World.cell?_of_block (w:=W4) hblk4).trans q0,(World.cell?_of_block (w:=W4) hblk4).trans q1⟩
   clear hK K
   try simp only [Act.put,sSet]
   refine tkH (i:=11) (v:=?_) (hS:=hHeld) (hy:=Or.inl ⟨by rfl,?_⟩) (h:=?_)
   rotate_left 1
   ·(intro w0 hSw;(try dsimp only at hSw);go_simp;try (with_reducible rfl))
   simp only [Act.put,sSet];refine wpAnyH_done (by kernel_rfl) ?_ _;refine dR (by simp only [List.size_toArray,List.length_cons,List.length_nil,Nat.zero_add,Nat.reduceAdd,Nat.reduceSub,List.getElem?_toArray,List.getElem?_cons_succ,List.getElem?_cons_zero];rfl) (fun K hK=>?_);go_simp;refine hK _ _ (NoPanic.normal ?_);clear hK K hHeld;have I9:=(I4.alloc (.cells #[.int .i64 (p1:Int),.int .i64 x2] 54)).drew;have own1:w1.ownsRow (w.heap.size+3) 54 2 (.slice (some ⟨g',0,none⟩) ((nmL l ls k).length+1) cap') ((nmL l ls k).length+1) (flat (nmL l ls k)++ [.int .i64 (p1:Int),.int .i64 x2]):=(by rw [jA];exact hown1)
   have x8:=I9.addL own1 G8;rw [jA,←HK.out] at x8;have bel1:Below w.heap.size w w1:=b4.trans ⟨hgrow.os,hgrow.tape,hgrow.output,Nat.le_trans (by show W4.heap.size≤(W4.heap.push _).size;simp) hgrow.size,fun j hj=>hblk j (by omega)⟩;have X8:=aE x8;clear x8;go_wp2
   go_roundw
   case rel=>exact ⟨k+1,_,by omega,by go_num,X8.out,by rw [Deep.blk_setCell_other _ _ _ _ (show w.heap.size≠w.heap.size+1+1 by omega),hblk _ (by omega)];exact bR4,by rw [Deep.blk_setCell_other _ _ _ _ (show w.heap.size+1≠w.heap.size+1+1 by omega),hblk _ (by omega)];exact bA4,bel1.setCell (show w.heap.size≤w.heap.size+1+1 by omega) _⟩
   case measure=>simp [intOf];omega
  ·have hkN:k=ls.length:=by omega
   rw [hkN] at I;rw [hkN];clear hkN hk2 hk;have cR:wr.cell? ⟨w.heap.size,3,none⟩=some (.slice oa os.length oc):=by rw [cell_of_row _ _ _ _ _ _ bR];rfl
   go_wp2_with fail
   clear cR
   go_loopw [39] (fun i wr=>∃(k:Nat) (ov:Value),k≤os.length∧i=.int .i64 k∧OInv wr (w.heap.size+2) (w.heap.size+3) (.int .i64 N) (.slice ga gn gc) lv ov (nmL l ls ls.length) (nmO l os k)∧wr.heap[w.heap.size+1]?=some (.cells #[.int .i64 0,.slice none 0 0,.slice none 0 0,.slice none 0 0] 34 (0,0))∧Below w.heap.size w wr)
    (fun i _=>os.length - (intOf i).toNat)
   case atStart=>exact ⟨0,_,Nat.zero_le _,rfl,I,bA,bel⟩
   case round =>
    clear I bR bA bel;obtain ⟨k,ov,hk,rfl,I,bA,bel⟩:=hrel
    by_cases hk2:k<os.length
    ·obtain ⟨bl,ol,rfl,hlt,hcO⟩:=hO.get (by omega)
     have hx1':=(bel.cell (p:=⟨bl,ol+k,none⟩) hlt).trans (hcO k hk2);obtain ⟨f1,f2⟩:=fO k hk2;obtain ⟨x1,hX1⟩:=Int.eq_ofNat_of_zero_le f1;rw [hX1,Int.toNat_natCast] at f2;rw [hX1] at hx1';obtain ⟨p1,hp1⟩:∃p,p=putS l x1:=⟨_,rfl⟩
     have HK:Hid (nmO l os (k+1)=nmO l os k++[(p1:Int)]):=(by show _=_;rw [aD0,hX1,hp1,Int.toNat_natCast])
     have hx1:wr.cell? ⟨bl,ol+k,none⟩=some (.int .i64 (x1:Int)):=hx1';have oX:∀W,Below w.heap.size w W→Calls Tryz.prog 118 #[.slice (some ⟨b,off,none⟩) len cap,.int .i64 (x1:Int)] W fun e w'=>e=.returned (.int .i64 (p1:Int))∧w'=W:=fun W hW=>by
      rw [hp1]
      exact aD1 x1 b off len cap l W f2 hlen HV.out H01.out (fun j hj=>(hW.cell (p:=⟨b,_,none⟩) hb).trans (HC.out j hj))
     have yb:bl<wr.heap.size:=Nat.lt_of_lt_of_le hlt bel.size;have cC:wr.cell? ⟨w.heap.size+1+1,3,none⟩=some ov:=(by rw [cell_of_row _ _ _ _ _ _ I.boxC];rfl)
     have fC:wr.frozen? ⟨w.heap.size+1+1,3,none⟩=false:=frozen_of_row _ _ _ _ _ I.boxC;have hsz:=I.bs;have y2:w.heap.size+1+1<wr.heap.size:=(by omega)
     have hob:∀q,ov.ownBlock=some q→w.heap.size+3≤q:=fun q hq=>(I.ownO.lt q hq).1
     have hs7:∀j,j<w.heap.size+3→j<wr.heap.size:=fun j hj=>by omega
     have hs9:∀(o:Obj) (j:Nat),j<w.heap.size+3→j<((wr.alloc o).drew).heap.size:=fun o j hj=>by show j<(wr.heap.push o).size;simp;omega
     have hs8:∀j,j<w.heap.size+3→ov.ownBlock≠some j:=fun j hj e=>by have:=hob j e;omega
     have hk0:(0:Int)≤(k:Int):=(by omega)
     have own:=I.ownO;have hkl:(k:Int)<(os.length:Int):=(by omega)
     rw [jB] at own;clear hX1 hp1 hcO f1 f2 hx1'
     go_upto_region 10 with fail
     refine wp_region_noPanic ?_;refine bO (by kernel_rfl) (by kernel_rfl) ?_;simp only [List.pop_toArray,List.dropLast_cons_cons,List.dropLast_singleton,List.size_toArray,List.length_cons,List.length_nil,Nat.zero_add,Nat.reduceAdd];refine wpAny_of_held (S:=fun w'=>w'.cell? ⟨w.heap.size+1+1,3,none⟩=some ov) _ _ _ _ ?_;have hHeld:(fun w':World=>w'.cell? ⟨w.heap.size+1+1,3,none⟩=some ov) wr.drew:=cC;refine tkH (i:=0) (v:=?_) (hS:=hHeld) (hy:=Or.inl ⟨by rfl,?_⟩) (h:=?_)
     rotate_left 1
     ·(intro w0 hSw;(try dsimp only at hSw);go_simp;try (with_reducible rfl))
     simp only [Act.put,sSet];refine tkH (i:=1) (v:=?_) (hS:=hHeld) (hy:=Or.inl ⟨by rfl,?_⟩) (h:=?_)
     rotate_left 1
     ·(intro w0 hSw;(try dsimp only at hSw);go_simp;try (with_reducible rfl))
     simp only [Act.put,sSet];refine tkH (i:=2) (v:=?_) (hS:=hHeld) (hy:=Or.inl ⟨by rfl,?_⟩) (h:=?_)
     rotate_left 1
     ·(intro w0 hSw;(try dsimp only at hSw);go_simp;try (with_reducible rfl))
     simp only [Act.put,sSet];refine tkH (i:=3) (v:=?_) (hS:=hHeld) (hy:=Or.inl ⟨by rfl,?_⟩) (h:=?_)
     rotate_left 1
     ·(intro w0 hSw;(try dsimp only at hSw);go_simp;try (with_reducible rfl))
     simp only [Act.put,sSet];refine wpAnyH_ready (rs:=[4]) (by kernel_rfl) (by simp) (AllReadyH.cons (by simp only [List.getElem?_toArray,List.getElem?_cons_succ,List.getElem?_cons_zero];rfl) (fun K hK=>?_) AllReadyH.nil);go_simp;refine (oX _ (bel.trans (Below.refl _ _).drew)).mono ?_;rintro e w' ⟨rfl,e9⟩;obtain rfl:=e9.symm;dsimp only;refine hK.out _ _ ?_ (fun hHeld=>?_)
     ·exact hHeld
     clear hK K
     try simp only [Act.put,sSet]
     refine wpAnyH_ready (rs:=[5]) (by kernel_rfl) (by simp) (AllReadyH.cons (by simp only [List.getElem?_toArray,List.getElem?_cons_succ,List.getElem?_cons_zero];rfl) (fun K hK=>?_) AllReadyH.nil);go_simp;refine hK.out _ _ ?_ (fun hHeld=>?_)
     ·simp [go_sem,World.cell?_alloc_past,y2,cC]
     clear hK K
     try simp only [Act.put,sSet]
     refine wpAnyH_ready (rs:=[6]) (by kernel_rfl) (by simp) (AllReadyH.cons (by simp only [List.getElem?_toArray,List.getElem?_cons_succ,List.getElem?_cons_zero];rfl) (fun K hK=>?_) AllReadyH.nil);refine step_append_lies _ (by rfl) (.tmp 44) (.tmp 48) 32 (by rfl) (w.heap.size+3) 3 iO (.int .i64 0) 1 8 Tryz.underlying32 hiO zO0 zO1 zO2 rfl (by omega) ov k (ivs (nmO l os k)) (by rfl) ((own.alloc _).drew) ⟨wr.heap.size,0,none⟩ 1 1 [.int .i64 (p1:Int)] (by rfl) rfl (aM0 _ _ _) (by simp [Value.oneCell']) (by omega) (by unfold maxLen;omega) (by omega) (by simp;omega) _ rfl ?_;intro g' cap' w1 hown1 hgrow hat hlt1;have G8:Grew _ w1 ov g':=⟨hgrow,hat⟩
     have hblk:∀j,j<w.heap.size+3→w1.heap[j]?=wr.heap[j]?:=fun j hj=>(G8.blk j (hs9 _ j hj) (fun e=>hs8 j hj e)).trans (Deep.blk_alloc_lt _ _ _ (hs7 j hj))
     have cC1:w1.cell? ⟨w.heap.size+1+1,3,none⟩=some ov:=(World.cell?_of_block (w:=wr) (hblk (w.heap.size+1+1) (by omega))).trans cC;have fC1:w1.frozen? ⟨w.heap.size+1+1,3,none⟩=false:=(World.frozen?_of_block (w:=wr) (hblk (w.heap.size+1+1) (by omega))).trans fC;refine hK.out _ _ ?_ (fun hHeld=>?_)
     ·exact cC1
     clear hK K
     try simp only [Act.put,sSet]
     refine tkH (i:=7) (v:=?_) (hS:=hHeld) (hy:=Or.inl ⟨by rfl,?_⟩) (h:=?_)
     rotate_left 1
     ·(intro w0 hSw;(try dsimp only at hSw);go_simp;try (with_reducible rfl))
     simp only [Act.put,sSet];refine wpAnyH_done (by kernel_rfl) ?_ _;refine dR (by simp only [List.size_toArray,List.length_cons,List.length_nil,Nat.zero_add,Nat.reduceAdd,Nat.reduceSub,List.getElem?_toArray,List.getElem?_cons_succ,List.getElem?_cons_zero];rfl) (fun K hK=>?_);go_simp;refine hK _ _ (NoPanic.normal ?_);clear hK K hHeld;have I9:=(I.alloc (.cells #[.int .i64 (p1:Int)] 3)).drew;have own1:w1.ownsRow (w.heap.size+3) 3 1 (.slice (some ⟨g',0,none⟩) ((nmO l os k).length+1) cap') ((nmO l os k).length+1) (ivs (nmO l os k)++ [.int .i64 (p1:Int)]):=(by rw [jB];exact hown1)
     have x8:=I9.addO own1 G8;rw [jB,←HK.out] at x8;have bel1:Below w.heap.size w w1:=bel.trans ⟨hgrow.os,hgrow.tape,hgrow.output,Nat.le_trans (by show wr.heap.size≤(wr.heap.push _).size;simp) hgrow.size,fun j hj=>hblk j (by omega)⟩;have X8:=aE x8;clear x8;go_wp2
     go_roundw
     case rel=>exact ⟨k+1,_,by omega,by go_num,X8.out,by rw [Deep.blk_setCell_other _ _ _ _ (show w.heap.size+1≠w.heap.size+1+1 by omega),hblk _ (by omega)];exact bA,bel1.setCell (show w.heap.size≤w.heap.size+1+1 by omega) _⟩
     case measure=>simp [intOf];omega
    ·have hkN:k=os.length:=by omega
     rw [hkN] at I;rw [hkN];clear hkN hk2 hk;obtain ⟨q0,q1,q2,q3⟩:=aK I.boxC;obtain ⟨u0,u1,u2,u3⟩:=aK bA;have v0:wr.frozen? ⟨w.heap.size+1,0,none⟩=false:=frozen_of_row _ _ _ _ _ bA;have v1:wr.frozen? ⟨w.heap.size+1,1,none⟩=false:=frozen_of_row _ _ _ _ _ bA;have v2:wr.frozen? ⟨w.heap.size+1,2,none⟩=false:=frozen_of_row _ _ _ _ _ bA;have v3:wr.frozen? ⟨w.heap.size+1,3,none⟩=false:=frozen_of_row _ _ _ _ _ bA;obtain ⟨la',ln',lc',rfl⟩:=bQ I.ownL;obtain ⟨oa',on',oc',rfl⟩:=bQ I.ownO;go_wp2;refine zQ (b:=w.heap.size+1) (aS bA _ _ _ _) (by rfl) ?_;have hsz:=I.bs
     exact ⟨_,_,rfl,bG (b:=w.heap.size+1) I.ownL (by omega) (by omega) _ _ _ _,bG (b:=w.heap.size+1) I.ownO (by omega) (by omega) _ _ _ _,I.lo,aH bel (by omega) _ _ _ _⟩
end Go.Proofs.YtgpaajdfkekjiaaGreatDoor
namespace Go.Proofs.YtgpaajdfkekjiaaGreatDoor
set_option maxHeartbeats 8000000
set_option maxRecDepth 100000
open Go.RowKit Go.Maps
theorem tH {w w':World}(h:Below w.heap.size w w'):w.grownBy w' none:=⟨h.os,h.tape,h.output,h.size,fun k hk _=>h.block k hk⟩
theorem eD {w w':World}{base e size:Nat}{v:Value}{n:Nat}{xs:List Value}(h:w.ownsRow base e size v n xs) (b:Below w.heap.size w w'):w'.ownsRow base e size v n xs :=
 aL h (fun q hq=>b.block q (h.lt q hq).2)
theorem aW {w:World}{base e size:Nat}{v:Value}{n:Nat}{xs:List Value}(h:w.ownsRow base e size v n xs):∃a c,v=.slice a n c:=by
 rcases h.2 with ⟨h',h0⟩ | ⟨g,cap,cur,hv,_⟩
 ·exact ⟨none,0,by rw [h',h0]⟩
 ·exact ⟨_,_,hv⟩
structure NInv (wr:World) (B M:Nat) (nv kv:Value) (nm:List Nat) (kept:List (Nat×Nat)) (D:DataW Nat) (n:Nat):Prop where
 bs:B≤wr.heap.size
 ownN:wr.ownsRow B 3 1 nv nm.length (aP nm)
 ownK:wr.ownsRow B 56 2 kv kept.length (flat (z2 kept))
 nk:∀q,nv.ownBlock=some q→kv.ownBlock≠some q
 map:wr.ownsMap Tryz.prog 56 (plainElem Tryz.prog 3) M n D
 nM:nv.ownBlock≠some M
 kM:kv.ownBlock≠some M
section
variable {wr wr':World}{B M:Nat}{nv kv:Value}{nm:List Nat}{kept:List (Nat×Nat)}{D:DataW Nat}{n:Nat}
theorem NInv.below (I:NInv wr B M nv kv nm kept D n) (h:Below wr.heap.size wr wr'):NInv wr' B M nv kv nm kept D n :=
 ⟨Nat.le_trans I.bs h.size,eD I.ownN h,eD I.ownK h,I.nk,I.map.kept (tH h) (by simp),I.nM,I.kM⟩
theorem NInv.alloc (I:NInv wr B M nv kv nm kept D n) (o:Obj):NInv (wr.alloc o) B M nv kv nm kept D n:=I.below ((Below.refl _ _).alloc (Nat.le_refl _) _)
theorem NInv.addN (I:NInv wr B M nv kv nm kept D n){g' cap' x:Nat}(own':wr'.ownsRow B 3 1 (.slice (some ⟨g',0,none⟩) (nm.length+1) cap') (nm.length+1) (aP nm++[.int .i64 (x:Int)])) (G:Grew wr wr' nv g') :
  NInv wr' B M (.slice (some ⟨g',0,none⟩) (nm.length+1) cap') kv (nm++[x]) kept D n:=by
 have hM:g'≠M:=fun e=>by
  rcases G.hat with e' | e'
  ·exact I.nM (e▸e')
  ·have:=I.map.lt;omega
 refine ⟨Nat.le_trans I.bs G.grow.size,?_,dE I.ownK G (fun q e e'=>I.nk q e' e),fun q hq=>?_,I.map.kept G.grow (fun e=>I.nM e.symm),fun e=>hM (by simpa [Value.ownBlock] using e),I.kM⟩
 ·rw [aZ,List.length_append];exact own'
 ·simp only [Value.ownBlock,Option.some.injEq] at hq
  subst hq
  exact apart I.ownK G (fun q e e'=>I.nk q e' e)
theorem NInv.addK (I:NInv wr B M nv kv nm kept D n){g' cap':Nat}{x y:Nat}(own':wr'.ownsRow B 56 2 (.slice (some ⟨g',0,none⟩) (kept.length+1) cap') (kept.length+1) (flat (z2 kept)++ [.int .i64 (x:Int),.int .i64 (y:Int)])) (G:Grew wr wr' kv g') :
  NInv wr' B M nv (.slice (some ⟨g',0,none⟩) (kept.length+1) cap') nm (kept++[(x,y)]) D n:=by
 have hM:g'≠M:=fun e=>by
  rcases G.hat with e' | e'
  ·exact I.kM (e▸e')
  ·have:=I.map.lt;omega
 refine ⟨Nat.le_trans I.bs G.grow.size,dE I.ownN G I.nk,?_,fun q hq e=>?_,I.map.kept G.grow (fun e=>I.kM e.symm),I.nM,fun e=>hM (by simpa [Value.ownBlock] using e)⟩
 ·have e:z2 (kept++[(x,y)])=z2 kept++[((x:Int),(y:Int))]:=by simp [z2]
  rw [e,fS,List.length_append];exact own'
 ·simp only [Value.ownBlock,Option.some.injEq] at e
  subst e
  exact apart I.ownN G I.nk hq
theorem NInv.put (I:NInv wr B M nv kv nm kept D n){D':DataW Nat}{n':Nat}(m':wr'.ownsMap Tryz.prog 56 (plainElem Tryz.prog 3) M n' D') (g:wr.grownBy wr' (some M)):NInv wr' B M nv kv nm kept D' n' :=
 ⟨Nat.le_trans I.bs g.size,aL I.ownN (fun q hq=>g.block q (I.ownN.lt q hq).2 (fun e=>I.nM (hq.trans e))),aL I.ownK (fun q hq=>g.block q (I.ownK.lt q hq).2 (fun e=>I.kM (hq.trans e))),I.nk,m',I.nM,I.kM⟩
theorem NInv.mono (I:NInv wr B M nv kv nm kept D n){n':Nat}(h:n≤n'):NInv wr B M nv kv nm kept D n':=⟨I.bs,I.ownN,I.ownK,I.nk,I.map.mono h,I.nM,I.kM⟩
theorem NInv.names (I:NInv wr B M nv kv nm kept D n) (h0:nm≠[]):∃g cap,nv=.slice (some ⟨g,0,none⟩) nm.length cap∧B≤g∧g<wr.heap.size∧∀j,j<nm.length→wr.cell? ⟨g,0+j,none⟩=some (.int .i64 ((nm.getD j 0:Nat):Int)):=by
 have o:=I.ownN
 rcases I.ownN.2 with ⟨_,h⟩ | ⟨g,cap,cur,rfl,_⟩
 ·exact absurd (List.length_eq_zero_iff.1 h) h0
 ·refine ⟨g,cap,rfl,(o.lt g rfl).1,(o.lt g rfl).2,fun j hj=>?_⟩
  rw [Nat.zero_add,o.cellAt j (by simpa [aP] using hj)]
  simp [aP,hj]
end
section
variable {n:Nat}{ls gs:List (Int×Int)}{os:List Int}
theorem nL (h:RightN n ls gs os){k:Nat}(hk:k≤gs.length):(∀x∈(sl1 (n+ls.length+1) (natP gs) k).1,x<1000)∧(∀s,s / 2<n+ls.length+1+k→putS (sl1 (n+ls.length+1) (natP gs) k).1 s<1000):=by
 have inv:=aC3 (first:=n+ls.length+1) (by omega) h.gatesOk k (by rw [qP];exact hk);have hl:=jV (n+ls.length+1) (natP gs) k;have hle:=jE (n+ls.length+1) (natP gs) k;have h1:=h.n4;have h2:=h.l4;have h3:=h.g30;refine ⟨fun x hx=>?_,fun s hs=>?_⟩
 ·obtain ⟨i,hi,rfl⟩:=List.getElem_of_mem hx
  have:=inv.names i hi;rw [List.getD_eq_getElem?_getD,List.getElem?_eq_getElem hi] at this;simp only [Option.getD_some] at this
  omega
 ·have:=inv.names (s / 2) (by omega)
  rw [←iP] at this
  omega
end
end Go.Proofs.YtgpaajdfkekjiaaGreatDoor
