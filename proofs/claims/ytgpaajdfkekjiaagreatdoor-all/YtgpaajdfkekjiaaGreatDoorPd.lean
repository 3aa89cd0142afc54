/-
  A part of the proof of the statement All: texts of ours, made small by program (blanks, names).
-/
import Derived.Test.YtgpaajdfkekjiaaGreatDoorPc
import Derived.Deep.RegionHeld3
import Derived.Deep.DrawnRows
import Derived.Test.YtgpaajdfkekjiaaGreatDoorPa
import Derived.ArgAppend
namespace Go.Proofs.YtgpaajdfkekjiaaGreatDoor
set_option maxHeartbeats 8000000
set_option maxRecDepth 100000
open Go.RowKit
theorem wN (z:Value) (n:Nat):madeCells #[z,z] n=(List.replicate n z).toArray:=by
 apply Array.ext
 ·simp [madeCells]
 ·intro i h1 h2
  have h3:i % 2=0∨i % 2=1:=by omega
  rcases h3 with h3 | h3<;>simp [madeCells,h3]
def gR (ps:List (Int×Int)):List Value:=ps.flatMap fun p=>[.int .i64 p.1,.int .i64 p.2]
theorem kS (ps:List (Int×Int)):(gR ps).length=ps.length*2:=by
 induction ps with
 | nil=>rfl
 | cons p r ih=>simp [gR] at ih ⊢;omega
def tP (ps:List (Int×Int)) (j:Nat):Value:=.int .i64 (if j % 2=0 then (ps.getD (j / 2) (0,0)).1 else (ps.getD (j / 2) (0,0)).2)
theorem uW (ps:List (Int×Int)):∀j,j<ps.length*2→(gR ps)[j]?=some (tP ps j):=by
 induction ps with
 | nil=>intro j h;simp at h
 | cons p r ih =>
  intro j h
  match j with
  | 0=>simp [gR,tP]
  | 1=>simp [gR,tP]
  | j+2 =>
   have hj:j<r.length*2:=(by simp at h;omega)
   have e:gR (p :: r)=.int .i64 p.1 :: .int .i64 p.2 :: gR r:=(by simp [gR])
   rw [e];simp only [List.getElem?_cons_succ];rw [ih j hj];unfold tP;have h1:(j+2) % 2=j % 2:=(by omega)
   have h2:(j+2) / 2=j / 2+1:=(by omega)
   rw [h1,h2,List.getD_cons_succ]
theorem aEI (ps:List (Int×Int)):∀v∈gR ps,v.oneCell'=true:=by
 intro v hv;simp only [gR,List.mem_flatMap] at hv;obtain ⟨p,_,hp⟩:=hv
 simp at hp
 rcases hp with rfl | rfl<;>rfl
theorem aGZ {w:World}{b off:Nat}{ps:List (Int×Int)}(hc:∀i,i<ps.length→w.cell? ⟨b,off+i*2,none⟩=some (.int .i64 (ps.getD i (0,0)).1)∧w.cell? ⟨b,off+i*2+1,none⟩=some (.int .i64 (ps.getD i (0,0)).2)) :
  ∀j v,(gR ps)[j]?=some v→w.cell? ((⟨b,off,none⟩:Addr).add j)=some v:=by
 intro j v hv;have hadd:(⟨b,off,none⟩:Addr).add j=⟨b,off+j,none⟩:=by unfold Addr.add;split<;>simp_all
 have hj:j<ps.length*2:=by
  rcases Nat.lt_or_ge j (ps.length*2) with h | h
  ·exact h
  ·rw [List.getElem?_eq_none (by rw [kS];exact h)] at hv;cases hv
 rw [uW ps j hj] at hv;have h2:=hc (j / 2) (by omega);rw [hadd,←hv];unfold tP
 by_cases h3:j % 2=0
 ·rw [if_pos h3,show off+j=off+j / 2*2 by omega];exact h2.1
 ·rw [if_neg h3,show off+j=off+j / 2*2+1 by omega];exact h2.2
def eN (ps:List (Int×Int)) (k j:Nat):Value:=if j<ps.length*2 then tP ps j else if j<k*2 then .int .i64 (if j % 2=0 then -5 else 0) else .int .i64 0
def lW (ps:List (Int×Int)) (j:Nat):Value:=if j<ps.length*2 then tP ps j else .int .i64 (if j % 2=0 then -5 else 0)
theorem pH {ps:List (Int×Int)}{k j:Nat}(hk:ps.length≤k):(if j=k*2+1 then (Value.int .i64 0) else if j=k*2 then (Value.int .i64 (-5)) else eN ps k j)=eN ps (k+1) j:=by
 unfold eN
 by_cases h:j=k*2+1
 ·subst h;rw [if_pos rfl,if_neg (by omega),if_pos (by omega),if_neg (by omega)]
 ·rw [if_neg h]
  by_cases h':j=k*2
  ·subst h';rw [if_pos rfl,if_neg (by omega),if_pos (by omega),if_pos (by omega)]
  ·rw [if_neg h']
   have:j<(k+1)*2↔j<k*2:=by omega
   simp only [this]
theorem yJ {w:World}{g:Nat}{t:TypeId}{ps:List (Int×Int)}(h:w.heap[g]?=some (.cells (splice (List.replicate ((ps.length+8)*2) (.int .i64 0)) 0 (gR ps)).toArray t (0,0))):w.rowIs g t ((ps.length+8)*2) (eN ps ps.length):=by
 have hp:=kS ps;have hl:(splice (List.replicate ((ps.length+8)*2) (Value.int .i64 0)) 0 (gR ps)).length=(ps.length+8)*2:=by rw [length_splice _ _ _ (by rw [hp];simp;omega)];simp
 have:=nI (f:=eN ps ps.length) h (fun i hi=>?_)
 ·rw [hl] at this;exact this
 ·rw [hl] at hi
  unfold eN splice
  by_cases hx:i<ps.length*2
  ·rw [if_pos hx,List.take_zero,List.nil_append,List.getElem?_append_left (by rw [hp];exact hx),uW ps i hx]
  ·rw [if_neg hx,if_neg hx,List.take_zero,List.nil_append,List.getElem?_append_right (by rw [hp];omega),List.drop_replicate,List.getElem?_replicate,if_pos (by rw [hp];omega)]
theorem uI {T E:TypeId}(hT:Tryz.prog.underlying T=some (.slice E)) (hE:(Tryz.prog.info? E).map (fun i=>(i.zero,i.size,i.bytes))=some (some (.agg #[.int .i64 0,.int .i64 0]),2,16))
  (a:Option Addr) (c:Nat) (ps:List (Int×Int)) (w:World) (hm:ps.length*16≤140737488351232) (hP:PairsAt w a ps) :
  ∃o w1,(Instr.makeSlice T (.int .i64 ((ps.length:Int)+8)) (.int .i64 ((ps.length:Int)+8))).run Tryz.prog w=.ok (.slice (some ⟨w.heap.size,0,none⟩) (ps.length+8) (ps.length+8)) (w.alloc o)∧
   (Builtin.copy_ #[T,T] 3 #[.slice (some ⟨w.heap.size,0,none⟩) (ps.length+8) (ps.length+8),.slice a ps.length c]).run Tryz.prog (w.alloc o)=.ok (.int .i64 (ps.length:Nat)) w1 ∧
   w1.rowIs w.heap.size E ((ps.length+8)*2) (eN ps ps.length)∧Below w.heap.size w w1:=by
 obtain ⟨i0,hi0,hz0,hz1,hz2⟩:=info_parts hE;have hmk:=run_make (P:=Tryz.prog) w T E i0 _ hT hi0 hz0 .i64 .i64 ((ps.length:Int)+8) ((ps.length:Int)+8) (by omega) (Int.le_refl _) (by rw [hz2];omega) (by omega);have e8:((ps.length:Int)+8).toNat=ps.length+8:=by omega
 rw [e8,hz1,show (Value.agg #[.int .i64 0,.int .i64 0]).cells=#[.int .i64 0,.int .i64 0] from rfl,wN] at hmk;have hbel:Below w.heap.size w (w.alloc (.cells (List.replicate ((ps.length+8)*2) (Value.int .i64 0)).toArray E)):=(Below.refl _ _).alloc (Nat.le_refl _) _;have hsrc:0<ps.length→∃ad,a=some ad∧∀j v,(gR ps)[j]?=some v→(w.alloc (.cells (List.replicate ((ps.length+8)*2) (Value.int .i64 0)).toArray E)).cell? (ad.add j)=some v:=by
  intro h0
  rcases hP with rfl | ⟨b,off,rfl,hlt,hc⟩
  ·simp at h0
  ·exact ⟨_,rfl,aGZ (fun i hi=>⟨(hbel.cell (p:=⟨b,_,none⟩) hlt).trans (hc i hi).1,(hbel.cell (p:=⟨b,_,none⟩) hlt).trans (hc i hi).2⟩)⟩
 obtain ⟨w1,hcp,hg1,hb1⟩:=lP (P:=Tryz.prog) (w.alloc (.cells (List.replicate ((ps.length+8)*2) (Value.int .i64 0)).toArray E)) T T 3 E 2 w.heap.size (ps.length+8) (ps.length+8) a ps.length c _ E (gR ps) hT (by rw [hi0];simp [hz1]) (heap_alloc_new w _) (by omega) (kS ps) hsrc (by rw [kS];simp;omega) (aEI ps)
 exact ⟨_,w1,hmk,hcp,yJ hg1,hb1 _ _ hbel (Nat.le_refl _)⟩
theorem Tryz.infoLatch:(Tryz.prog.info? 54).map (fun i=>(i.zero,i.size,i.bytes))=some (some (.agg #[.int .i64 0,.int .i64 0]),2,16):=by kernel_rfl
theorem Tryz.infoGate:(Tryz.prog.info? 56).map (fun i=>(i.zero,i.size,i.bytes))=some (some (.agg #[.int .i64 0,.int .i64 0]),2,16):=by kernel_rfl
theorem aLD {w:World}{b t n B:Nat}{f:Nat→Value}{v0 v1 v2 v3:Value}(h:w.rowIs b t n f) (hb:b≠B) :
  ((((w.setCell ⟨B,0,none⟩ v0).setCell ⟨B,1,none⟩ v1).setCell ⟨B,2,none⟩ v2).setCell ⟨B,3,none⟩ v3).rowIs b t n f:=(((h.setOther hb _).setOther hb _).setOther hb _).setOther hb _
theorem cH (n:Int) (la ga oa:Option Addr) (lc gc oc:Nat) (ls gs:List (Int×Int)) (os:List Int) (w:World)
  (hml:ls.length*16≤140737488351232) (hmg:gs.length*16≤140737488351232) (hmo:os.length*8≤140737488351232) (hL:PairsAt w la ls) (hG:PairsAt w ga gs) (hO:IntsAt w oa os) :
  Calls Tryz.prog 18 #[.agg #[.int .i64 n,.slice la ls.length lc,.slice ga gs.length gc,.slice oa os.length oc]] w fun e w'=>∃gl gg go,
   e=.returned (.agg #[.int .i64 n,.slice (some ⟨gl,0,none⟩) ls.length (ls.length+8),.slice (some ⟨gg,0,none⟩) gs.length (gs.length+8),.slice (some ⟨go,0,none⟩) os.length (os.length+8)])∧
   w.heap.size≤gl∧gl<gg∧gg<go∧w'.rowIs gl 54 ((ls.length+8)*2) (lW ls)∧w'.rowIs gg 56 ((gs.length+8)*2) (lW gs)∧w'.rowIs go 3 (os.length+8) (hInt os)∧Below w.heap.size w w':=by
 obtain ⟨W2,hW2⟩:∃W2,W2=(w.alloc (.cells #[.int .i64 n,.slice la ls.length lc,.slice ga gs.length gc,.slice oa os.length oc] 34)).alloc (.cells #[.int .i64 0,.slice none 0 0,.slice none 0 0,.slice none 0 0] 34):=⟨_,rfl⟩
 have bel2:Below w.heap.size w W2:=by rw [hW2];exact ((Below.refl _ _).alloc (Nat.le_refl _) _).alloc (by simp) _
 have s2:W2.heap.size=w.heap.size+2:=by rw [hW2];simp
 obtain ⟨o1,w1,hmk,hcp,hrow,hb1⟩:=uI Tryz.underlying30 Tryz.infoLatch la lc ls W2 hml (hL.below bel2);have q0:W2.cell? ⟨w.heap.size,0,none⟩=some (.int .i64 n):=by rw [hW2,World.cell?_alloc_past _ _ _ (by simp)];simp
 have q1:W2.cell? ⟨w.heap.size,1,none⟩=some (.slice la ls.length lc):=by rw [hW2,World.cell?_alloc_past _ _ _ (by simp)];simp
 have q2:W2.cell? ⟨w.heap.size,2,none⟩=some (.slice ga gs.length gc):=by rw [hW2,World.cell?_alloc_past _ _ _ (by simp)];simp
 have q3:W2.cell? ⟨w.heap.size,3,none⟩=some (.slice oa os.length oc):=by rw [hW2,World.cell?_alloc_past _ _ _ (by simp)];simp
 have q1a:(W2.alloc o1).cell? ⟨w.heap.size,1,none⟩=some (.slice la ls.length lc):=by rw [World.cell?_alloc_past _ _ _ (by show w.heap.size < _;omega)];exact q1
 have q1b:w1.cell? ⟨w.heap.size,1,none⟩=some (.slice la ls.length lc):=by rw [(bZ hb1).1 _ _ (by omega)];exact q1
 have n0:∀j,W2.cell? ⟨w.heap.size+1,j,none⟩=#[.int .i64 0,.slice none 0 0,.slice none 0 0,.slice none 0 0][j]?:=fun j=>by rw [hW2];exact cell_of_row _ _ _ _ _ _ (by rw [show w.heap.size+1=(w.alloc (.cells #[.int .i64 n,.slice la ls.length lc,.slice ga gs.length gc,.slice oa os.length oc] 34)).heap.size by simp];exact heap_alloc_new _ _)
 have n1:∀j,W2.frozen? ⟨w.heap.size+1,j,none⟩=false:=fun j=>by rw [hW2];exact World.frozen?_alloc_at _ _ _ _ (by simp)
 have N0:Hid (∀j,W2.cell? ⟨w.heap.size+1,j,none⟩=#[.int .i64 0,.slice none 0 0,.slice none 0 0,.slice none 0 0][j]?):=n0;have N1:Hid (∀j,W2.frozen? ⟨w.heap.size+1,j,none⟩=false):=n1;clear n0 n1;rw [hW2] at hmk hcp q1a;have HS2:Hid (W2.heap.size=w.heap.size+2):=s2;have hsz:((w.alloc (.cells #[.int .i64 n,.slice la ls.length lc,.slice ga gs.length gc,.slice oa os.length oc] 34)).alloc (.cells #[.int .i64 0,.slice none 0 0,.slice none 0 0,.slice none 0 0] 34)).heap.size=w.heap.size+1+1:=by simp
 simp only [hsz] at hmk hcp;clear hW2 s2
 go_enter Tryz.func18,Tryz.ntmps18
 go_wp2;rw [HS2.out] at hrow hb1;clear hmk hcp hsz q1a q1b;have belW:Below W2.heap.size W2 w1:=by rw [HS2.out];exact hb1
 clear hb1
 go_loopw [4] (fun i wr=>∃k:Nat,ls.length≤k∧k≤ls.length+8∧i=.int .i64 k∧wr.rowIs (w.heap.size+1+1) 54 ((ls.length+8)*2) (eN ls k)∧Below W2.heap.size W2 wr) (fun i _=>ls.length+8 - (intOf i).toNat)
 case atStart=>exact ⟨ls.length,Nat.le_refl _,by omega,rfl,hrow,belW⟩
 case round =>
  clear hrow belW;obtain ⟨k,hk0,hk,rfl,hrow,hbel⟩:=hrel
  by_cases hk2:k<ls.length+8
  ·have c1:=hrow.cell (i:=k*2) (by omega)
   have c2:=hrow.cell (i:=k*2+1) (by omega);have f1:=hrow.frozen (k*2);have f2:=hrow.frozen (k*2+1);have r2:=(hrow.set (k*2) (.int .i64 (-5))).set (k*2+1) (.int .i64 0);have hk3:(k:Int)<(ls.length:Int)+8:=(by omega)
   obtain ⟨u,hu⟩:∃u,u=eN ls k (k*2):=⟨_,rfl⟩
   obtain ⟨v,hv⟩:∃v,v=eN ls k (k*2+1):=⟨_,rfl⟩
   rw [←hu] at c1;rw [←hv] at c2;clear hu hv q0 q1 q2 q3;go_wp2
   go_roundw
   case rel=>exact ⟨k+1,by omega,by omega,by go_num,r2.congr (fun i hi=>pH hk0),(hbel.setCell (by rw [HS2.out];simp) _).setCell (by rw [HS2.out];simp) _⟩
   case measure=>simp [intOf];omega
  ·obtain rfl:k=ls.length+8:=by omega
   obtain ⟨w4,rfl⟩:∃w4,w4=wr:=⟨wr,rfl⟩
   have rowL:w4.rowIs (w.heap.size+1+1) 54 ((ls.length+8)*2) (lW ls):=hrow.congr (fun i hi=>by unfold eN lW;by_cases h:i<ls.length*2<;>simp [h];omega);clear hrow;have p0:=((bZ hbel).1 w.heap.size 0 (by rw [HS2.out];omega)).trans q0;have p1:=((bZ hbel).1 w.heap.size 1 (by rw [HS2.out];omega)).trans q1;have p2:=((bZ hbel).1 w.heap.size 2 (by rw [HS2.out];omega)).trans q2;have p3:=((bZ hbel).1 w.heap.size 3 (by rw [HS2.out];omega)).trans q3;obtain ⟨o2,w2,hmk,hcp,hrow2,hb2⟩:=uI Tryz.underlying31 Tryz.infoGate ga gc gs w4 hmg ((hG.below bel2).below hbel);have hlr:=rowL.lt;have p2a:(w4.alloc o2).cell? ⟨w.heap.size,2,none⟩=some (.slice ga gs.length gc):=(by rw [World.cell?_alloc_past _ _ _ (by show w.heap.size < _;omega)];exact p2)
   have p2b:w2.cell? ⟨w.heap.size,2,none⟩=some (.slice ga gs.length gc):=(by rw [(bZ hb2).1 _ _ (by omega)];exact p2)
   obtain ⟨G,hGG⟩:∃G,G=w4.heap.size:=⟨_,rfl⟩
   go_wp2;clear hmk hcp p2a p2b hGG G;have s3:w.heap.size+1+1<w4.heap.size:=hlr
   go_loopw [6] (fun i ws=>∃k:Nat,gs.length≤k∧k≤gs.length+8∧i=.int .i64 k∧ws.rowIs w4.heap.size 56 ((gs.length+8)*2) (eN gs k)∧Below w4.heap.size w4 ws) (fun i _=>gs.length+8 - (intOf i).toNat)
   case atStart=>exact ⟨gs.length,Nat.le_refl _,by omega,rfl,hrow2,hb2⟩
   case round =>
    clear hrow2 hb2;obtain ⟨k,hk0,hk,rfl,hrow2,hb2⟩:=hrel
    by_cases hk2:k<gs.length+8
    ·have c1:=hrow2.cell (i:=k*2) (by omega)
     have c2:=hrow2.cell (i:=k*2+1) (by omega);have f1:=hrow2.frozen (k*2);have f2:=hrow2.frozen (k*2+1);have r2:=(hrow2.set (k*2) (.int .i64 (-5))).set (k*2+1) (.int .i64 0);have hk3:(k:Int)<(gs.length:Int)+8:=(by omega)
     obtain ⟨u,hu⟩:∃u,u=eN gs k (k*2):=⟨_,rfl⟩
     obtain ⟨v,hv⟩:∃v,v=eN gs k (k*2+1):=⟨_,rfl⟩
     rw [←hu] at c1;rw [←hv] at c2;clear hu hv q0 q1 q2 q3 p0 p1 p2 p3;go_wp2
     go_roundw
     case rel=>exact ⟨k+1,by omega,by omega,by go_num,r2.congr (fun i hi=>pH hk0),(hb2.setCell (Nat.le_refl _) _).setCell (Nat.le_refl _) _⟩
     case measure=>simp [intOf];omega
    ·obtain rfl:k=gs.length+8:=by omega
     have rowG:wr.rowIs w4.heap.size 56 ((gs.length+8)*2) (lW gs):=hrow2.congr (fun i hi=>by unfold eN lW;by_cases h:i<gs.length*2<;>simp [h];omega);have m0:=((bZ hb2).1 w.heap.size 0 (by omega)).trans p0;have m1:=((bZ hb2).1 w.heap.size 1 (by omega)).trans p1;have m2:=((bZ hb2).1 w.heap.size 2 (by omega)).trans p2;have m3:=((bZ hb2).1 w.heap.size 3 (by omega)).trans p3;have hOr:=((hO.below bel2).below hbel).below hb2;have rL:=aD rowL hb2;have kl:(ls.length:Int)≤(ls.length:Int)+8:=(by omega)
     have kg:(gs.length:Int)≤(gs.length:Int)+8:=(by omega)
     clear hrow2 q0 q1 q2 q3 p0 p1 p2 p3;go_wp2;have hzr:w.heap.size<wr.heap.size:=Nat.lt_of_lt_of_le (by omega) hb2.size;have hzr1:w.heap.size+1<wr.heap.size:=Nat.lt_of_lt_of_le (by omega) hb2.size;have NC:Hid (∀j,wr.cell? ⟨w.heap.size+1,j,none⟩=#[.int .i64 0,.slice none 0 0,.slice none 0 0,.slice none 0 0][j]?):=fun j=>(((bZ hb2).1 _ _ (by omega)).trans ((bZ hbel).1 _ _ (by rw [HS2.out];omega))).trans (N0.out j)
     have NF:Hid (∀j,wr.frozen? ⟨w.heap.size+1,j,none⟩=false):=fun j=>(((bZ hb2).2 _ _ (by omega)).trans ((bZ hbel).2 _ _ (by rw [HS2.out];omega))).trans (N1.out j)
     go_region_held3 (fun w'=>w'.cell? ⟨w.heap.size,0,none⟩=some (.int .i64 n)∧w'.cell? ⟨w.heap.size,1,none⟩=some (.slice la ls.length lc)∧w'.cell? ⟨w.heap.size,2,none⟩=some (.slice ga gs.length gc)∧w'.cell? ⟨w.heap.size,3,none⟩=some (.slice oa os.length oc)) (first | (simp [go_sem,m0,m1,m2,m3];done) | (exact ⟨((bZ b5).1 _ _ hzr).trans m0,((bZ b5).1 _ _ hzr).trans m1,((bZ b5).1 _ _ hzr).trans m2,((bZ b5).1 _ _ hzr).trans m3⟩) | (simp [go_sem, *];done)) (first | (go_at_call 19;refine (cL oa oc os _ hmo (hOr.below (Below.refl _ _).drew)).mono ?_;rintro e w5 ⟨go,rfl,hgo,rowO,b5⟩;have d0:=((bZ b5).1 _ 0 hzr1).trans (NC.out 0);have d1:=((bZ b5).1 _ 1 hzr1).trans (NC.out 1);have d2:=((bZ b5).1 _ 2 hzr1).trans (NC.out 2);have d3:=((bZ b5).1 _ 3 hzr1).trans (NC.out 3);have e0:=((bZ b5).2 _ 0 hzr1).trans (NF.out 0);have e1:=((bZ b5).2 _ 1 hzr1).trans (NF.out 1);have e2:=((bZ b5).2 _ 2 hzr1).trans (NF.out 2);have e3:=((bZ b5).2 _ 3 hzr1).trans (NF.out 3)) | fail)
     go_wp2;have hb5:Below wr.heap.size wr w5:=⟨b5.os,b5.tape,b5.output,b5.size,b5.block⟩
     have hgo':wr.heap.size≤go:=hgo;have rowGl:=rowG.lt;have bel5:Below w.heap.size w w5:=(((bel2.trans (hbel.mono (by rw [HS2.out];omega))).trans (hb2.mono (by omega))).trans (hb5.mono (by omega)))
     have rL5:=aD rL hb5;have rG5:=aD rowG hb5;refine bodyPost_ret (v:=.agg #[.int .i64 n,.slice (some ⟨w.heap.size+1+1,0,none⟩) ls.length (ls.length+8),.slice (some ⟨w4.heap.size,0,none⟩) gs.length (gs.length+8),.slice (some ⟨go,0,none⟩) os.length (os.length+8)]) (by simp [results,Tryz.results18,go_sem,d0,d1,d2,d3]) rfl ⟨w.heap.size+1+1,w4.heap.size,go,rfl,by omega,s3,by omega,aLD rL5 (by omega),aLD rG5 (by omega),aLD rowO (by omega),?_⟩
     exact (((bel5.setCell (by simp) _).setCell (by simp) _).setCell (by simp) _).setCell (by simp) _
def dY (ps:List (Int×Int)) (k j:Nat):Value:=if j<k*2 then .int .i64 (if j % 2=0 then 1 else 0) else lW ps j
theorem fK {ps:List (Int×Int)}{k j:Nat}:(if j=k*2+1 then (Value.int .i64 0) else if j=k*2 then (Value.int .i64 1) else dY ps k j)=dY ps (k+1) j:=by
 unfold dY
 by_cases h:j=k*2+1
 ·subst h;rw [if_pos rfl,if_pos (by omega),if_neg (by omega)]
 ·rw [if_neg h]
  by_cases h':j=k*2
  ·subst h';rw [if_pos rfl,if_pos (by omega),if_pos (by omega)]
  ·rw [if_neg h']
   have:j<(k+1)*2↔j<k*2:=by omega
   simp only [this]
theorem gZ {ps:List (Int×Int)}{k:Nat}(h:k<ps.length):dY ps k (k*2)=.int .i64 (ps.getD k (0,0)).1∧dY ps k (k*2+1)=.int .i64 (ps.getD k (0,0)).2:=by
 unfold dY lW tP;have h1:k*2 / 2=k:=by omega
 have h2:(k*2+1) / 2=k:=by omega
 refine ⟨?_,?_⟩
 ·rw [if_neg (by omega),if_pos (by omega),if_pos (by omega),h1]
 ·rw [if_neg (by omega),if_pos (by omega),if_neg (by omega),h2]
theorem gB {ps:List (Int×Int)}{k:Nat}(h:¬k<ps.length):dY ps k (k*2)=.int .i64 (-5)∧dY ps k (k*2+1)=.int .i64 0:=by
 unfold dY lW;refine ⟨?_,?_⟩
 ·rw [if_neg (by omega),if_neg (by omega),if_pos (by omega)]
 ·rw [if_neg (by omega),if_neg (by omega),if_neg (by omega)]
theorem lT (w:World) (n:Nat):Below w.heap.size w (w.drewN n):=below_drewN (Below.refl _ _) n
theorem qT {w:World}{A:Obj}{nq g t N k:Nat}{f:Nat→Value}{v0 v1:Value}(h:w.rowIs g t N f) :
  ((((w.alloc A).drewN nq).setCell ⟨g,k*2,none⟩ v0).setCell ⟨g,k*2+1,none⟩ v1).rowIs g t N (fun j=>if j=k*2+1 then v1 else if j=k*2 then v0 else f j) :=
 ((aD (h.alloc A) (lT _ nq)).set _ _).set _ _
theorem vJ {w:World}{A:Obj}{nq g b t N k:Nat}{f:Nat→Value}{v0 v1:Value}(h:w.rowIs b t N f) (hb:b≠g) :
  ((((w.alloc A).drewN nq).setCell ⟨g,k*2,none⟩ v0).setCell ⟨g,k*2+1,none⟩ v1).rowIs b t N f :=
 ((aD (h.alloc A) (lT _ nq)).setOther hb _).setOther hb _
theorem nS {lo hi:Nat}{W w:World}{A:Obj}{nq g k:Nat}{v0 v1:Value}(h:Span lo hi W w) (h1:lo≤g) (h2:g<hi) :
  Span lo hi W ((((w.alloc A).drewN nq).setCell ⟨g,k*2,none⟩ v0).setCell ⟨g,k*2+1,none⟩ v1) :=
 (((h.alloc A).trans (Span.of_below (lT _ nq))).setCell h1 h2 _).setCell h1 h2 _
theorem aX (n:Int) (la ga oa:Option Addr) (lc gc oc gl gg go:Nat) (ls gs:List (Int×Int)) (os:List Int) (w:World)
  (hml:ls.length*16≤140737488351232) (hmg:gs.length*16≤140737488351232) (hmo:os.length*8≤140737488351232) (hL:PairsIn gl w la ls) (hG:PairsIn gl w ga gs) (hO:IntsIn gl w oa os)
  (h1:gl<gg) (h2:gg<go) (rL:w.rowIs gl 54 ((ls.length+8)*2) (lW ls)) (rG:w.rowIs gg 56 ((gs.length+8)*2) (lW gs)) (rO:w.rowIs go 3 (os.length+8) (hInt os)) :
  Calls Tryz.prog 35 #[.agg #[.int .i64 n,.slice (some ⟨gl,0,none⟩) ls.length (ls.length+8),.slice (some ⟨gg,0,none⟩) gs.length (gs.length+8),.slice (some ⟨go,0,none⟩) os.length (os.length+8)],
    .agg #[.int .i64 n,.slice la ls.length lc,.slice ga gs.length gc,.slice oa os.length oc]] w fun e w'=>e=.returned (.bool true)∧Span gl (go+1) w w':=by
 obtain ⟨W2,hW2⟩:∃W2,W2=(w.alloc (.cells #[.int .i64 n,.slice (some ⟨gl,0,none⟩) ls.length (ls.length+8),.slice (some ⟨gg,0,none⟩) gs.length (gs.length+8),.slice (some ⟨go,0,none⟩) os.length (os.length+8)] 34)).alloc (.cells #[.int .i64 n,.slice la ls.length lc,.slice ga gs.length gc,.slice oa os.length oc] 34):=⟨_,rfl⟩
 have bel2:Below w.heap.size w W2:=by rw [hW2];exact ((Below.refl _ _).alloc (Nat.le_refl _) _).alloc (by simp) _
 have s2:W2.heap.size=w.heap.size+2:=by rw [hW2];simp
 have lo:=rO.lt;have hL2:=hL.below bel2;have hG2:=hG.below bel2;have hO2:=hO.below bel2;have rL2:=aD rL bel2;have rG2:=aD rG bel2;have rO2:=aD rO bel2;have bo:∀j,W2.cell? ⟨w.heap.size,j,none⟩=#[.int .i64 n,.slice (some ⟨gl,0,none⟩) ls.length (ls.length+8),.slice (some ⟨gg,0,none⟩) gs.length (gs.length+8),.slice (some ⟨go,0,none⟩) os.length (os.length+8)][j]?:=fun j=>by rw [hW2,World.cell?_alloc_past _ _ _ (by simp)];exact cell_of_row _ _ _ _ _ _ (heap_alloc_new _ _)
 have bc:∀j,W2.cell? ⟨w.heap.size+1,j,none⟩=#[.int .i64 n,.slice la ls.length lc,.slice ga gs.length gc,.slice oa os.length oc][j]?:=fun j=>by rw [hW2];exact cell_of_row _ _ _ _ _ _ (aDI _ _ _ (by simp))
 have HO:Hid (∀j,W2.cell? ⟨w.heap.size,j,none⟩=#[.int .i64 n,.slice (some ⟨gl,0,none⟩) ls.length (ls.length+8),.slice (some ⟨gg,0,none⟩) gs.length (gs.length+8),.slice (some ⟨go,0,none⟩) os.length (os.length+8)][j]?):=bo;have HC:Hid (∀j,W2.cell? ⟨w.heap.size+1,j,none⟩=#[.int .i64 n,.slice la ls.length lc,.slice ga gs.length gc,.slice oa os.length oc][j]?):=bc;have HS2:Hid (W2.heap.size=w.heap.size+2):=s2;have hun:=bM oa oc go os W2 hmo (hO2.mono (by omega)) rO2;rw [hW2] at hun;clear bo bc s2
 go_enter Tryz.func35,Tryz.ntmps35
 go_wp2_with (go_at_call 36;refine hun.mono ?_;rintro e w1 ⟨rfl,sp1⟩;rw [←hW2] at sp1;have d0:=(sp1.cell (p:=⟨w.heap.size,0,none⟩) (by rw [HS2.out];simp) (by simp;omega)).trans (HO.out 0);have d1:=(sp1.cell (p:=⟨w.heap.size,1,none⟩) (by rw [HS2.out];simp) (by simp;omega)).trans (HO.out 1);have e0:=(sp1.cell (p:=⟨w.heap.size+1,0,none⟩) (by rw [HS2.out];simp) (by simp;omega)).trans (HC.out 0);have e1:=(sp1.cell (p:=⟨w.heap.size+1,1,none⟩) (by rw [HS2.out];simp) (by simp;omega)).trans (HC.out 1))
 have rL1:=uY rL2 sp1 (.inl (by omega));have sp1':Span gl (go+1) W2 w1:=sp1.mono (by omega) (Nat.le_refl _);clear hun d0 d1 e0 e1 hW2
 go_loopw [6,9,10] (fun ok i _ wr=>∃k:Nat,k≤ls.length+8∧i=.int .i64 k∧ok=.bool true∧wr.rowIs gl 54 ((ls.length+8)*2) (dY ls k)∧wr.rowIs gg 56 ((gs.length+8)*2) (lW gs)∧Span gl (go+1) W2 wr) (fun _ i _ _=>ls.length+8 - (intOf i).toNat)
 case atStart=>exact ⟨0,by omega,rfl,rfl,rL1,uY rG2 sp1 (.inl (by omega)),sp1'⟩
 case round =>
  clear rL1 sp1';obtain ⟨k,hk,rfl,rfl,hrow,hrG,hsp⟩:=hrel;have e1:=(hsp.cell (p:=⟨w.heap.size+1,1,none⟩) (by rw [HS2.out];simp) (by simp;omega)).trans (HC.out 1)
  by_cases hk2:k<ls.length+8
  ·have c1:=hrow.cell (i:=k*2) (by omega)
   have c2:=hrow.cell (i:=k*2+1) (by omega);have f1:=hrow.frozen (k*2);have f2:=hrow.frozen (k*2+1);have r2:=((hrow.alloc (.cells #[.int .i64 (-5),.int .i64 0] 54)).drew)
   have hk3:(k:Int)<(ls.length:Int)+8:=(by omega)
   have hk0:(0:Int)≤(k:Int):=(by omega)
   have hLr:=hL2.span hsp (Nat.le_refl _);have hszr:w.heap.size+1<wr.heap.size:=Nat.lt_of_lt_of_le (by rw [HS2.out];omega) hsp.size
   by_cases hx:k<ls.length
   ·rw [(gZ hx).1] at c1
    rw [(gZ hx).2] at c2;obtain ⟨b,off,rfl,hbg,hlt,hc⟩:=hLr.get (by omega);obtain ⟨hx1,hx2⟩:=hc k hx;obtain ⟨x,hX⟩:∃x,x=ls.getD k (0,0):=⟨_,rfl⟩
    rw [←hX] at c1 c2 hx1 hx2;obtain ⟨x1,x2⟩:=x;dsimp only at c1 c2 hx1 hx2;have hgl:=hrow.lt;have c1a:(wr.alloc (.cells #[.int .i64 x1,.int .i64 x2] 54)).cell? ⟨gl,k*2,none⟩=some (.int .i64 x1):=(by rw [World.cell?_alloc_past _ _ _ hgl];exact c1)
    have c2a:(wr.alloc (.cells #[.int .i64 x1,.int .i64 x2] 54)).cell? ⟨gl,k*2+1,none⟩=some (.int .i64 x2):=(by rw [World.cell?_alloc_past _ _ _ hgl];exact c2)
    clear hX hc hLr;go_wp2
    go_quiet (fail)
    go_wp2
    go_roundw
    case rel=>exact ⟨k+1,by omega,by go_num,rfl,(qT hrow).congr (fun i hi=>fK),vJ hrG (by omega),nS hsp (Nat.le_refl _) (by omega)⟩
    case measure=>simp [intOf];omega
   ·rw [(gB hx).1] at c1
    rw [(gB hx).2] at c2;have hgl:=hrow.lt;have c1a:(wr.alloc (.cells #[.int .i64 (-5),.int .i64 0] 54)).cell? ⟨gl,k*2,none⟩=some (.int .i64 (-5)):=(by rw [World.cell?_alloc_past _ _ _ hgl];exact c1)
    have c2a:(wr.alloc (.cells #[.int .i64 (-5),.int .i64 0] 54)).cell? ⟨gl,k*2+1,none⟩=some (.int .i64 0):=(by rw [World.cell?_alloc_past _ _ _ hgl];exact c2)
    clear hLr;go_wp2
    go_quiet (fail)
    go_wp2
    go_roundw
    case rel=>exact ⟨k+1,by omega,by go_num,rfl,(qT hrow).congr (fun i hi=>fK),vJ hrG (by omega),nS hsp (Nat.le_refl _) (by omega)⟩
    case measure=>simp [intOf];omega
  ·obtain rfl:k=ls.length+8:=by omega
   obtain ⟨w4,rfl⟩:∃w4,w4=wr:=⟨wr,rfl⟩
   have d2:=(hsp.cell (p:=⟨w.heap.size,2,none⟩) (by rw [HS2.out];simp) (by simp;omega)).trans (HO.out 2);have e2:=(hsp.cell (p:=⟨w.heap.size+1,2,none⟩) (by rw [HS2.out];simp) (by simp;omega)).trans (HC.out 2);clear hrow e1;go_wp2
   go_loopw [6,12,13] (fun ok i _ wr=>∃k:Nat,k≤gs.length+8∧i=.int .i64 k∧ok=.bool true∧wr.rowIs gg 56 ((gs.length+8)*2) (dY gs k)∧Span gl (go+1) W2 wr) (fun _ i _ _=>gs.length+8 - (intOf i).toNat)
   case atStart=>exact ⟨0,by omega,rfl,rfl,hrG,hsp⟩
   case round =>
    clear hrG hsp d2 e2;obtain ⟨k,hk,rfl,rfl,hrow,hsp⟩:=hrel;have e2:=(hsp.cell (p:=⟨w.heap.size+1,2,none⟩) (by rw [HS2.out];simp) (by simp;omega)).trans (HC.out 2)
    by_cases hk2:k<gs.length+8
    ·have c1:=hrow.cell (i:=k*2) (by omega)
     have c2:=hrow.cell (i:=k*2+1) (by omega);have f1:=hrow.frozen (k*2);have f2:=hrow.frozen (k*2+1);have hk3:(k:Int)<(gs.length:Int)+8:=(by omega)
     have hk0:(0:Int)≤(k:Int):=(by omega)
     have hGr:=hG2.span hsp (Nat.le_refl _);have hszr:w.heap.size+1<wr.heap.size:=Nat.lt_of_lt_of_le (by rw [HS2.out];omega) hsp.size;have hgl:=hrow.lt
     by_cases hx:k<gs.length
     ·rw [(gZ hx).1] at c1
      rw [(gZ hx).2] at c2;obtain ⟨b,off,rfl,hbg,hlt,hc⟩:=hGr.get (by omega);obtain ⟨hx1,hx2⟩:=hc k hx;obtain ⟨x,hX⟩:∃x,x=gs.getD k (0,0):=⟨_,rfl⟩
      rw [←hX] at c1 c2 hx1 hx2;obtain ⟨x1,x2⟩:=x;dsimp only at c1 c2 hx1 hx2;have c1a:(wr.alloc (.cells #[.int .i64 x1,.int .i64 x2] 56)).cell? ⟨gg,k*2,none⟩=some (.int .i64 x1):=(by rw [World.cell?_alloc_past _ _ _ hgl];exact c1)
      have c2a:(wr.alloc (.cells #[.int .i64 x1,.int .i64 x2] 56)).cell? ⟨gg,k*2+1,none⟩=some (.int .i64 x2):=(by rw [World.cell?_alloc_past _ _ _ hgl];exact c2)
      clear hX hc hGr;go_wp2
      go_quiet (fail)
      go_wp2
      go_roundw
      case rel=>exact ⟨k+1,by omega,by go_num,rfl,(qT hrow).congr (fun i hi=>fK),nS hsp (by omega) (by omega)⟩
      case measure=>simp [intOf];omega
     ·rw [(gB hx).1] at c1
      rw [(gB hx).2] at c2;have c1a:(wr.alloc (.cells #[.int .i64 (-5),.int .i64 0] 56)).cell? ⟨gg,k*2,none⟩=some (.int .i64 (-5)):=(by rw [World.cell?_alloc_past _ _ _ hgl];exact c1)
      have c2a:(wr.alloc (.cells #[.int .i64 (-5),.int .i64 0] 56)).cell? ⟨gg,k*2+1,none⟩=some (.int .i64 0):=(by rw [World.cell?_alloc_past _ _ _ hgl];exact c2)
      clear hGr;go_wp2
      go_quiet (fail)
      go_wp2
      go_roundw
      case rel=>exact ⟨k+1,by omega,by go_num,rfl,(qT hrow).congr (fun i hi=>fK),nS hsp (by omega) (by omega)⟩
      case measure=>simp [intOf];omega
    ·clear e2
     go_wp2
     go_ret
     exact ⟨rfl,(Span.of_below bel2).trans hsp⟩
structure Keeps (S:Nat→Prop) (w w':World):Prop where
 os:w'.os=w.os
 tape:w'.tape=w.tape
 output:w'.output=w.output
 size:w.heap.size≤w'.heap.size
 block:∀k,k<w.heap.size→¬S k→w'.heap[k]?=w.heap[k]?
theorem Keeps.refl (S:Nat→Prop) (w:World):Keeps S w w:=⟨rfl,rfl,rfl,Nat.le_refl _,fun _ _ _=>rfl⟩
theorem Keeps.trans {S:Nat→Prop}{a b c:World}(h:Keeps S a b) (k:Keeps S b c):Keeps S a c :=
 ⟨k.os.trans h.os,k.tape.trans h.tape,k.output.trans h.output,Nat.le_trans h.size k.size,fun i hi ho=>(k.block i (Nat.lt_of_lt_of_le hi h.size) ho).trans (h.block i hi ho)⟩
theorem Keeps.mono {S T:Nat→Prop}{a b:World}(h:Keeps S a b) (hT:∀k,k<a.heap.size→S k→T k):Keeps T a b :=
 ⟨h.os,h.tape,h.output,h.size,fun k hk ho=>h.block k hk (fun hs=>ho (hT k hk hs))⟩
theorem Keeps.of_below {S:Nat→Prop}{a b:World}(h:Below a.heap.size a b):Keeps S a b:=⟨h.os,h.tape,h.output,h.size,fun k hk _=>h.block k hk⟩
theorem Keeps.of_span {lo hi:Nat}{a b:World}(h:Span lo hi a b):Keeps (fun k=>lo≤k∧k<hi) a b:=⟨h.os,h.tape,h.output,h.size,fun k hk ho=>h.block k hk (by omega)⟩
theorem Keeps.cell {S:Nat→Prop}{a b:World}(h:Keeps S a b){p:Addr}(h1:p.block<a.heap.size) (h2:¬S p.block):b.cell? p=a.cell? p:=World.cell?_of_block (w:=a) (h.block _ h1 h2)
theorem Keeps.below {S:Nat→Prop}{B:Nat}{a b:World}(h:Keeps S a b) (hB:B≤a.heap.size) (hS:∀k,S k→B≤k):Below B a b :=
 ⟨h.os,h.tape,h.output,h.size,fun k hk=>h.block k (by omega) (fun hs=>by have:=hS k hs;omega)⟩
structure Entry where
 a:Option Addr
 len:Nat
 cap:Nat
def Entry.val (e:Entry):Value:=.slice e.a e.len e.cap
theorem aGC {w w':World}{base e size g len cap:Nat}{xs:List Value}(h:w.ownsRow base e size (.slice (some ⟨g,0,none⟩) len cap) len xs) (hb:w'.heap[g]?=w.heap[g]?) :
  w'.ownsRow base e size (.slice (some ⟨g,0,none⟩) len cap) len xs:=by
 refine ⟨h.1,?_⟩
 rcases h.2 with ⟨h',_⟩ | ⟨g',cap',cur,h',hbg,hr,hrest⟩
 ·simp at h'
 ·simp only [Value.slice.injEq,Option.some.injEq,Addr.mk.injEq,and_true,true_and] at h'
  obtain ⟨rfl,rfl⟩:=h'
  exact .inr ⟨g,cap,cur,rfl,hbg,by rw [hb];exact hr,hrest⟩
theorem iK {w w':World}{base e size:Nat}{v:Value}{n:Nat}{xs:List Value}(h:w.ownsRow base e size v n xs) (hb:∀q,v.ownBlock=some q→w'.heap[q]?=w.heap[q]?):w'.ownsRow base e size v n xs:=by
 refine ⟨h.1,?_⟩
 rcases h.2 with h' | ⟨g,cap,cur,hv,hbg,hr,hrest⟩
 ·exact .inl h'
 ·exact .inr ⟨g,cap,cur,hv,hbg,by rw [hb g (by rw [hv];rfl)];exact hr,hrest⟩

end Go.Proofs.YtgpaajdfkekjiaaGreatDoor
