/-
  A part of the proof of the statement All: texts of ours, made small by program (blanks, names).
-/
import Derived.Test.YtgpaajdfkekjiaaGreatDoorPg
import Derived.Test.YtgpaajdfkekjiaaGreatDoorPu
import Derived.Deep.OwnRows
namespace Go.Proofs.YtgpaajdfkekjiaaGreatDoor
set_option maxHeartbeats 8000000
set_option maxRecDepth 100000
open Go.RowKit Go.Shelf
attribute [local go_sem] Oper.semAt_some
theorem Tryz.infoBoolS:(Tryz.prog.info? 4).map (fun i=>(i.zero,i.size,i.bytes))=some (some (.bool false),1,1):=by kernel_rfl
def bvf (f:Nat→Bool) (v:Nat):Value:=.bool (f v)
theorem iA {w:World}{U T:Nat}{f:Nat→Bool}(h:w.rowIs U 4 T (bvf f)) (i:Nat):(w.setCell ⟨U,i,none⟩ (.bool true)).rowIs U 4 T (bvf fun v=>f v||decide (i=v)):=by
 refine (h.set i (.bool true)).congr (fun j _=>?_)
 by_cases e:j=i
 ·subst e;simp [bvf]
 ·simp [bvf,e,Ne.symm e]
def aC6 (F:Nat) (kept:List (Nat×Nat)) (f:Nat→Bool) (j v:Nat):Bool :=
 f v||(f (F+(kept.length - 1 - j))&&(decide ((kept.getD (kept.length - 1 - j) (0,0)).1 / 2=v)||decide ((kept.getD (kept.length - 1 - j) (0,0)).2 / 2=v)))
theorem zK (F:Nat) (roots:List Nat) (kept:List (Nat×Nat)):∀j,(List.range j).foldl (aC6 F kept) (need F roots kept 0)=need F roots kept j
 | 0=>rfl
 | j+1=>by
  rw [List.range_succ,List.foldl_append,zK F roots kept j]
  funext v
  rfl
theorem aJR (n T F:Nat) (la ga oa:Option Addr) (lc gc oc:Nat) (ls gs:List (Int×Int)) (os:List Int) (w:World) (h1:n≤4) (h2:ls.length≤4) (h3:gs.length≤30) (h4:os.length≤4) (hT:T=n+ls.length+gs.length+1) (hF:F=n+ls.length+1)
  (hL:PairsAt w la ls) (hG:PairsAt w ga gs) (hO:IntsAt w oa os)
  (fL:∀i,i<ls.length→0≤(ls.getD i (0,0)).1∧(ls.getD i (0,0)).1.toNat / 2<T) (fO:∀i,i<os.length→0≤os.getD i 0∧(os.getD i 0).toNat / 2<T)
  (fG:∀i,i<gs.length→0≤(gs.getD i (0,0)).1∧0≤(gs.getD i (0,0)).2∧(gs.getD i (0,0)).1.toNat / 2<T∧(gs.getD i (0,0)).2.toNat / 2<T) :
  Calls Tryz.prog 99 #[.agg #[.int .i64 n,.slice la ls.length lc,.slice ga gs.length gc,.slice oa os.length oc]] w fun e w'=>∃U,e=.returned (.slice (some ⟨U,0,none⟩) T T)∧w.heap.size≤U ∧
   w'.rowIs U 4 T (bvf (need F (ls.map (fun p=>p.1.toNat)++ os.map fun s=>s.toNat) (natP gs) gs.length))∧Below w.heap.size w w':=by
 have hTI:(n:Int)+(ls.length:Int)+(gs.length:Int)+1=(T:Int):=by omega
 have hFI:(T:Int) - (gs.length:Int)=(F:Int):=by omega
 have T40:T≤40:=by omega
 have hFg:∀i,i<gs.length→F+i<T:=fun i hi=>by omega
 have HT:=aE hT;have HF:=aE hF;have HFG:=aE hFg;have FL:=aE fL;have FO:=aE fO;have FG:=aE fG;clear hT hF hFg fL fO fG;have hmk:=run_make_row' (P:=Tryz.prog) 138 4 (.bool false) 1 Tryz.underlying138 Tryz.infoBoolS rfl .i64 .i64 T (by omega) (by omega);refine (callsIn_wide (n:=3)).1 ?_;refine callsIn_of_wp_marks Tryz.func99 rfl trivial ?_ rfl;simp only [Tryz.ntmps99,List.size_toArray,List.length_cons,List.length_nil,Nat.reduceAdd,Nat.reduceSub,Array.replicate_succ,Array.replicate_zero,List.push_toArray,List.append_toArray,List.nil_append,List.cons_append]
 gi_wp2_with fail
 refine ⟨trivial,?_⟩;refine (callsIn_wide.2 (iY n _ _ _ ls.length _ gs.length _ _ _ _ (by omega) (by omega) (by omega) (by omega))).mono ?_;rintro e w' ⟨rfl,rfl⟩;obtain ⟨C,hC⟩:∃C,C=Obj.cells #[.int .i64 n,.slice la ls.length lc,.slice ga gs.length gc,.slice oa os.length oc] 34 (0,0):=⟨_,rfl⟩
 obtain ⟨W4,hW4⟩:∃W4,W4=(((w.alloc C).alloc C).alloc (.cells (madeCells #[.bool false] T) 4)).alloc (.cells #[.slice (some ⟨w.heap.size+1+1,0,none⟩) T T] 138):=⟨_,rfl⟩
 have s4:W4.heap.size=w.heap.size+4:=by rw [hW4];simp
 have B4:Below w.heap.size w W4:=by rw [hW4];exact ((((Below.refl _ _).alloc (Nat.le_refl _) _).alloc (by simp) _).alloc (by simp;omega) _).alloc (by simp;omega) _
 have bC4:W4.heap[w.heap.size]?=some C:=by rw [hW4];exact aA (aA (aA (aB _ _ _ rfl)))
 have bU4:W4.rowIs (w.heap.size+2) 4 T (bvf (iZ [])):=by
  have h:=(World.rowIs_made ((w.alloc C).alloc C) (.bool false) T 4).alloc (.cells #[.slice (some ⟨w.heap.size+1+1,0,none⟩) T T] 138);rw [←hW4] at h;simp only [World.size_alloc] at h
  exact h.congr (fun v _=>by simp [bvf,zI])
 have bV4:W4.heap[w.heap.size+3]?=some (.cells #[.slice (some ⟨w.heap.size+2,0,none⟩) T T] 138 (0,0)):=by rw [hW4];exact aB _ _ _ (by simp)
 rw [hC] at bC4;have q3:W4.cell? ⟨w.heap.size,3,none⟩=some (.slice oa os.length oc):=by rw [cell_of_row _ _ _ _ _ _ bC4];rfl
 gi_wp2_with fail
 rw [←hC,←hW4];clear hW4 hC;clear q3;obtain ⟨U,hU⟩:∃U,U=w.heap.size+2:=⟨_,rfl⟩
 rw [←hU] at bU4 bV4;have U1:w.heap.size<U:=by omega
 have U2:U<w.heap.size+3:=by omega
 have HU:=aE hU;clear hU
 gi_loopw [18] (fun i wr=>∃k:Nat,k≤os.length∧i=.int .i64 k∧wr.rowIs U 4 T (bvf (iZ ((os.take k).map fun s=>s.toNat)))∧wr.heap[w.heap.size+3]?=some (.cells #[.slice (some ⟨U,0,none⟩) T T] 138 (0,0))∧wr.heap[w.heap.size]?=some (.cells #[.int .i64 n,.slice la ls.length lc,.slice ga gs.length gc,.slice oa os.length oc] 34 (0,0))∧Below w.heap.size w wr)
  (fun i _=>os.length - (intOf i).toNat)
 case atStart=>exact ⟨0,Nat.zero_le _,rfl,bU4,bV4,bC4,B4⟩
 case round =>
  clear bU4 bV4 bC4 B4 s4;obtain ⟨k,hk,rfl,bU,bV,bC,bel⟩:=hrel
  by_cases hk2:k<os.length
  ·obtain ⟨bl,ol,rfl,hlt,hcO⟩:=hO.get (by omega)
   have hx1':=(bel.cell (p:=⟨bl,ol+k,none⟩) hlt).trans (hcO k hk2);obtain ⟨f1,f2⟩:=FO.out k hk2;obtain ⟨x1,hX1⟩:=Int.eq_ofNat_of_zero_le f1;rw [hX1,Int.toNat_natCast] at f2;rw [hX1] at hx1';have hx1:wr.cell? ⟨bl,ol+k,none⟩=some (.int .i64 (x1:Int)):=hx1';have hkI:(k:Int)<(os.length:Int):=(by omega)
   have cV:wr.cell? ⟨w.heap.size+1+1+1,0,none⟩=some (.slice (some ⟨U,0,none⟩) T T):=(by rw [cell_of_row _ _ _ _ _ _ bV];rfl)
   have cU:=bU.cell f2;have gU:=bU.frozen (x1 / 2);have X1:=aE ((iA bU (x1 / 2)).congr (g:=bvf (iZ ((os.take (k+1)).map fun s=>s.toNat))) (fun v _=>by
    rw [sY os 0 k hk2,List.map_append,hX1];simp only [bvf,List.map_cons,List.map_nil,Int.toNat_natCast];rw [kQ]))
   have f3:(x1:Int) / 2<(T:Int):=(by omega)
   have RO:=aE bU;clear hX1 f1 hx1' hcO bU;unfold bvf at cU
   gi_wp2
   go_roundw
   case rel=>exact ⟨k+1,by omega,by go_num,X1.out,by rw [Deep.blk_setCell_other _ _ _ _ (show w.heap.size+3≠U by omega)];exact bV,by rw [Deep.blk_setCell_other _ _ _ _ (show w.heap.size≠U by omega)];exact bC,bel.setCell (show w.heap.size≤U by omega) _⟩
   case measure=>simp [intOf];omega
  ·have hkN:k=os.length:=by omega
   rw [hkN,List.take_length] at bU;rw [hkN];clear hkN hk2 hk;have q1:wr.cell? ⟨w.heap.size,1,none⟩=some (.slice la ls.length lc):=(by rw [cell_of_row _ _ _ _ _ _ bC];rfl)
   obtain ⟨RO,hRO⟩:∃RO:List Nat,RO=os.map fun s=>s.toNat:=⟨_,rfl⟩
   rw [←hRO] at bU;have HRO:=aE hRO;clear hRO
   gi_wp2_with fail
   clear q1
   gi_loopw [30] (fun i wr=>∃k:Nat,k≤ls.length∧i=.int .i64 k∧wr.rowIs U 4 T (bvf (iZ (RO++(ls.take k).map fun p=>p.1.toNat)))∧wr.heap[w.heap.size+3]?=some (.cells #[.slice (some ⟨U,0,none⟩) T T] 138 (0,0))∧wr.heap[w.heap.size]?=some (.cells #[.int .i64 n,.slice la ls.length lc,.slice ga gs.length gc,.slice oa os.length oc] 34 (0,0))∧Below w.heap.size w wr)
    (fun i _=>ls.length - (intOf i).toNat)
   case atStart=>exact ⟨0,Nat.zero_le _,rfl,by simpa using bU,bV,bC,bel⟩
   case round =>
    clear bU bV bC bel;obtain ⟨k,hk,rfl,bU,bV,bC,bel⟩:=hrel
    by_cases hk2:k<ls.length
    ·obtain ⟨bl,ol,rfl,hlt,hcL⟩:=hL.get (by omega)
     have hx1':=(bel.cell (p:=⟨bl,ol+k*2,none⟩) hlt).trans (hcL k hk2).1;have hx2:=(bel.cell (p:=⟨bl,ol+k*2+1,none⟩) hlt).trans (hcL k hk2).2;obtain ⟨f1,f2⟩:=FL.out k hk2;obtain ⟨x1,hX1⟩:=Int.eq_ofNat_of_zero_le f1;obtain ⟨x2,hX2⟩:∃x,x=(ls.getD k (0,0)).2:=⟨_,rfl⟩
     rw [hX1,Int.toNat_natCast] at f2;rw [hX1] at hx1';rw [←hX2] at hx2;have hx1:wr.cell? ⟨bl,ol+k*2,none⟩=some (.int .i64 (x1:Int)):=hx1';have hkI:(k:Int)<(ls.length:Int):=(by omega)
     have hsz:w.heap.size+3<wr.heap.size:=(Array.getElem?_eq_some_iff.1 bV).1;have cV:wr.cell? ⟨w.heap.size+1+1+1,0,none⟩=some (.slice (some ⟨U,0,none⟩) T T):=(by rw [cell_of_row _ _ _ _ _ _ bV];rfl)
     have cU:=bU.cell f2;have gU:=bU.frozen (x1 / 2);have yV:w.heap.size+1+1+1<wr.heap.size:=hsz;have yU:U<wr.heap.size:=bU.lt;have X1:=aE (((iA bU (x1 / 2)).congr (g:=bvf (iZ (RO++(ls.take (k+1)).map fun p=>p.1.toNat))) (fun v _=>by
      rw [sY ls (0,0) k hk2,List.map_append,←List.append_assoc];simp only [bvf,List.map_cons,List.map_nil,hX1,Int.toNat_natCast];rw [kQ])).alloc (.cells #[.int .i64 (x1:Int),.int .i64 x2] 54))
     have f3:(x1:Int) / 2<(T:Int):=(by omega)
     have yb:bl<wr.heap.size:=Nat.lt_of_lt_of_le hlt bel.size;have bV5:=aE bV;have bC5:=aE bC;clear hX1 hX2 f1 hx1' hcL bU bV bC;unfold bvf at cU
     gi_wp2
     go_roundw
     case rel=>exact ⟨k+1,by omega,by go_num,X1.out,aA (by rw [Deep.blk_setCell_other _ _ _ _ (show w.heap.size+3≠U by omega)];exact bV5.out),aA (by rw [Deep.blk_setCell_other _ _ _ _ (show w.heap.size≠U by omega)];exact bC5.out),(bel.setCell (p:=⟨U,_,none⟩) (show w.heap.size≤U by omega) _).alloc (by rw [Deep.nblk_setCell];exact bel.size) _⟩
     case measure=>simp [intOf];omega
    ·have hkN:k=ls.length:=by omega
     rw [hkN,List.take_length] at bU;rw [hkN];clear hkN hk2 hk;have q2:wr.cell? ⟨w.heap.size,2,none⟩=some (.slice ga gs.length gc):=(by rw [cell_of_row _ _ _ _ _ _ bC];rfl)
     have cV:wr.cell? ⟨w.heap.size+1+1+1,0,none⟩=some (.slice (some ⟨U,0,none⟩) T T):=(by rw [cell_of_row _ _ _ _ _ _ bV];rfl)
     have hsz:w.heap.size+3<wr.heap.size:=(Array.getElem?_eq_some_iff.1 bV).1;have yV:w.heap.size+1+1+1<wr.heap.size:=hsz;have yC:w.heap.size<wr.heap.size:=(by omega)
     have bU0:wr.rowIs U 4 T (bvf (need F (ls.map (fun p=>p.1.toNat)++ os.map fun s=>s.toNat) (natP gs) 0)):=bU.congr (fun v _=>by
      simp only [bvf,aG1];rw [HRO.out,aE6])
     obtain ⟨ND,hND⟩:∃ND,ND=need F (ls.map (fun p=>p.1.toNat)++ os.map fun s=>s.toNat) (natP gs):=⟨_,rfl⟩
     rw [←hND] at bU0;have HND:=aE hND;clear hND bU
     gi_wp2_with fail
     refine ⟨trivial,?_⟩;refine (aKH Fence.wide 2 trivial rfl ga gs.length gc _).mono ?_;rintro e w' ⟨rfl,rfl⟩;obtain ⟨W6,hW6⟩:∃W6,W6=(wr.alloc (.cells #[.int .i64 (F:Int)] 3)).alloc (.cells #[.slice ga gs.length gc] 31):=⟨_,rfl⟩
     have s6:W6.heap.size=wr.heap.size+2:=(by rw [hW6];simp)
     have bel6:Below w.heap.size w W6:=(by rw [hW6];exact (bel.alloc bel.size _).alloc (by simp;omega) _)
     have bU6:W6.rowIs U 4 T (bvf (ND 0)):=(by rw [hW6];exact (bU0.alloc _).alloc _)
     have bV6:W6.heap[w.heap.size+3]?=some (.cells #[.slice (some ⟨U,0,none⟩) T T] 138 (0,0)):=(by rw [hW6];exact aA (aA bV))
     have bF6:W6.heap[wr.heap.size]?=some (.cells #[.int .i64 (F:Int)] 3 (0,0)):=(by rw [hW6];exact aA (aB _ _ _ rfl))
     have bS6:W6.heap[wr.heap.size+1]?=some (.cells #[.slice ga gs.length gc] 31 (0,0)):=(by rw [hW6];exact aB _ _ _ (by simp))
     have cS6:W6.cell? ⟨wr.heap.size+1,0,none⟩=some (.slice ga gs.length gc):=(by rw [cell_of_row _ _ _ _ _ _ bS6];rfl)
     have yU:U<wr.heap.size:=bU0.lt;have S6:=aE s6
     gi_wp2_with fail
     rw [←hW6];clear hW6 bU0 bV bC bel q2 cV;refine wpIn_rangeFunc_ownH (F:=Fence.wide) (n:=3) (P:=Tryz.prog) rfl (by omega) (gf:=128) (lb:=#[.pointer (some ⟨wr.heap.size+1,0,none⟩)]) rfl trivial (enters_of Tryz.func128 (by kernel_rfl) rfl)
      (aDJ Fence.wide 2 trivial rfl (by omega) (wr.heap.size+1) U W6.heap.size ga gc gs (by omega) w hG (by omega) bel6.size (by omega) (by omega) W6 (Nat.le_refl _) cS6 bel6) aLV aMK (Below.refl _ _) (fun _=>rfl)
      (fun pre W=>(W.rowIs U 4 T (bvf (pre.foldl (aC6 F (natP gs)) (ND 0)))∧W.heap[w.heap.size+3]?=some (.cells #[.slice (some ⟨U,0,none⟩) T T] 138 (0,0))∧W.heap[wr.heap.size]?=some (.cells #[.int .i64 (F:Int)] 3 (0,0))∧W6.heap.size≤W.heap.size)∧Below w.heap.size w W)
      (fun _ _ _=>False)
      (fun s A B row hs hg hr=>by
       obtain ⟨⟨r1,r2,r3,r5⟩,r4⟩:=hs;have bl:∀k,k<W6.heap.size→k<A.heap.size→B.heap[k]?=A.heap[k]?:=fun k hk hk'=>hg.block k hk' (fun e=>by have:=(hr k e.symm).1;omega)
       exact ⟨⟨r1.of_block (bl U (by omega) r1.lt),(bl _ (by omega) (Array.getElem?_eq_some_iff.1 r2).1).trans r2,(bl _ (by omega) (Array.getElem?_eq_some_iff.1 r3).1).trans r3,Nat.le_trans r5 hg.size⟩,r4.grown hg r4.size (fun k e=>by have:=(hr k e).1;omega)⟩)
      (fun _ _ _ _ _ hs _ _=>hs)
      ⟨⟨bU6,bV6,bF6,Nat.le_refl _⟩,bel6⟩
      (fun x a' W=>∃Bx,W6.heap.size≤Bx∧W.heap[Bx]?=some (.cells #[.int .i64 (gs.getD (gs.length - 1 - x) (0,0)).1,.int .i64 (gs.getD (gs.length - 1 - x) (0,0)).2] 56 (0,0))∧a'={ tmps:=#[.agg #[.int .i64 n,.slice la ls.length lc,.slice ga gs.length gc,.slice oa os.length oc],.pointer (some ⟨w.heap.size,0,none⟩),.slice none 0 0,.pointer (some ⟨w.heap.size+1+1+1,0,none⟩),undef,u5,undef,u7,.pointer (some ⟨wr.heap.size,0,none⟩),.int .i64 ((gs.length - 1 - x:Nat):Int),.pointer (some ⟨Bx,0,none⟩),.agg #[.int .i64 n,.slice la ls.length lc,.slice ga gs.length gc,.slice oa os.length oc],.int .i64 ((n:Int)+ls.length+gs.length),.int .i64 (T:Int),.slice (some ⟨w.heap.size+1+1,0,none⟩) T T,.pointer (some ⟨w.heap.size,3,none⟩),.slice oa os.length oc,.int .i64 (os.length:Int),.int .i64 (os.length:Int),.bool false,u20,u21,u22,u23,u24,u25,u26,.pointer (some ⟨w.heap.size,1,none⟩),.slice la ls.length lc,.int .i64 (ls.length:Int),.int .i64 (ls.length:Int),.bool false,u32,u33,u34,u35,u36,u37,u38,u39,.slice (some ⟨U,0,none⟩) T T,.int .i64 (T:Int),.pointer (some ⟨w.heap.size,2,none⟩),.slice ga gs.length gc,.int .i64 (gs.length:Int),.int .i64 (F:Int),.pointer (some ⟨w.heap.size,2,none⟩),.slice ga gs.length gc,.func (.func 128) #[] #[.pointer (some ⟨wr.heap.size+1,0,none⟩)],.int .i64 ((gs.length - 1 - x:Nat):Int),.agg #[.int .i64 (gs.getD (gs.length - 1 - x) (0,0)).1,.int .i64 (gs.getD (gs.length - 1 - x) (0,0)).2],undef,undef,undef,undef,undef,undef,undef,undef,undef,undef,undef,undef,undef,undef,undef,undef,undef],defers:=[] })
      (fun x a' s A B row hs hg hr=>by
       obtain ⟨Bx,h1,h2,h3⟩:=hs;refine ⟨Bx,h1,(hg.block Bx (Array.getElem?_eq_some_iff.1 h2).1 (fun e=>?_)).trans h2,h3⟩;obtain ⟨_,o,ho,hoc⟩:=hr Bx e.symm;rw [h2] at ho
       cases ho
       cases hoc)
      ?assign ?body ?done ?stop
     case assign =>
      rintro l pre x W K ⟨⟨r1,r2,r3,r5⟩,r4⟩ hK;unfold aI3
      gi_wp2
      exact hK _ _ ((KeepsOthers.alloc _ _).from _) (Keeps.of_below ((Below.refl _ _).alloc (Nat.le_refl _) _)) ⟨⟨r1.alloc _,aA r2,aA r3,Nat.le_trans r5 (by simp)⟩,r4.alloc r4.size _⟩ ⟨W.heap.size,r5,heap_alloc_new _ _,rfl⟩
     case body =>
      rintro l pre x a' W hl ⟨r,hr⟩ ⟨⟨r1,r2,r3,r5⟩,r4⟩ ⟨Bx,hBx,bX,rfl⟩ hlt;obtain ⟨f,hf⟩:∃f,f=pre.foldl (aC6 F (natP gs)) (ND 0):=⟨_,rfl⟩
      obtain ⟨i,hi⟩:∃i,i=gs.length - 1 - x:=⟨_,rfl⟩
      have hi2:i<gs.length:=(by omega)
      obtain ⟨f1,f2,f3,f4⟩:=FG.out i hi2;obtain ⟨a,hA⟩:=Int.eq_ofNat_of_zero_le f1;obtain ⟨c,hC⟩:=Int.eq_ofNat_of_zero_le f2;rw [hA,Int.toNat_natCast] at f3;rw [hC,Int.toNat_natCast] at f4;have hgk:(natP gs).getD i (0,0)=(a,c):=(by rw [qN,hA,hC,Int.toNat_natCast,Int.toNat_natCast])
      have hFi:=HFG.out i hi2;rw [←hi,hA,hC] at bX;rw [←hi,hA,hC];rw [←hf] at r1;have hst:∀v,(pre++[x]).foldl (aC6 F (natP gs)) (ND 0) v=(f v||(f (F+i)&&(decide (a / 2=v)||decide (c / 2=v)))):=fun v=>by
       rw [List.foldl_append,←hf]
       show aC6 F (natP gs) f x v=_
       unfold aC6;rw [qP,←hi,hgk]
      have cV:W.cell? ⟨w.heap.size+1+1+1,0,none⟩=some (.slice (some ⟨U,0,none⟩) T T):=(by rw [cell_of_row _ _ _ _ _ _ r2];rfl)
      have cF:W.cell? ⟨wr.heap.size,0,none⟩=some (.int .i64 (F:Int)):=(by rw [cell_of_row _ _ _ _ _ _ r3];rfl)
      have cX0:W.cell? ⟨Bx,0,none⟩=some (.int .i64 (a:Int)):=(by rw [cell_of_row _ _ _ _ _ _ bX];rfl)
      have cX1:W.cell? ⟨Bx,1,none⟩=some (.int .i64 (c:Int)):=(by rw [cell_of_row _ _ _ _ _ _ bX];rfl)
      have cU:=r1.cell hFi;obtain ⟨A2,hA2⟩:∃x,x=a / 2:=⟨_,rfl⟩
      obtain ⟨C2,hC2⟩:∃x,x=c / 2:=⟨_,rfl⟩
      have wa:IntKind.i64.wrap ((a:Int) / 2)=(A2:Int):=(by rw [cZ];omega)
      have wc:IntKind.i64.wrap ((c:Int) / 2)=(C2:Int):=(by rw [cZ];omega)
      rw [←hA2] at f3;rw [←hC2] at f4;rw [←hA2,←hC2] at hst;have cA:=r1.cell f3;have gA:=r1.frozen A2;have cC:=r1.cell f4;have gC:=r1.frozen C2;unfold bvf at cU cA cC;have hFI2:(F:Int)+(i:Int)<(T:Int):=(by omega)
      have f3I:(A2:Int)<(T:Int):=(by omega)
      have f4I:(C2:Int)<(T:Int):=(by omega)
      have HST:=aE hst;have R1:=aE r1;clear hi hA hC f1 f2 hgk hf hst r1 hA2 hC2
      cases hff:f (F+i) with
      | false =>
       rw [hff] at cU
       gi_wp2
       refine ⟨(KeepsOthers.refl _).from _,Keeps.refl _ _,⟨R1.out.congr (fun v _=>?_),r2,r3,r5⟩,r4⟩;unfold bvf;rw [HST.out,hff]
       simp
      | true =>
       rw [hff] at cU
       gi_wp2_with fail
       refine tF (by kernel_rfl) (by kernel_rfl) ?_;simp only [List.size_toArray,List.length_cons,List.length_nil,Nat.zero_add,Nat.reduceAdd];refine wpAny_of_held (S:=fun w'=>w'.cell? ⟨w.heap.size+1+1+1,0,none⟩=some (.slice (some ⟨U,0,none⟩) T T)∧w'.cell? ⟨Bx,0,none⟩=some (.int .i64 (a:Int))∧w'.cell? ⟨Bx,1,none⟩=some (.int .i64 (c:Int))) _ _ _ _ ?_;have hHeld:(fun w':World=>w'.cell? ⟨w.heap.size+1+1+1,0,none⟩=some (.slice (some ⟨U,0,none⟩) T T)∧w'.cell? ⟨Bx,0,none⟩=some (.int .i64 (a:Int))∧w'.cell? ⟨Bx,1,none⟩=some (.int .i64 (c:Int))) W.drew:=⟨cV,cX0,cX1⟩
       refine tkH (i:=0) (v:=?_) (hS:=hHeld) (hy:=Or.inl ⟨by rfl,?_⟩) (h:=?_)
       rotate_left 1
       ·(intro w0 hSw;(try dsimp only at hSw);go_simp;try (with_reducible rfl))
       simp only [Act.put,sSet];refine tkH (i:=1) (v:=?_) (hS:=hHeld) (hy:=Or.inl ⟨by rfl,?_⟩) (h:=?_)
       rotate_left 1
       ·(intro w0 hSw;(try dsimp only at hSw);go_simp;try (with_reducible rfl))
       simp only [Act.put,sSet];refine tkH (i:=2) (v:=?_) (hS:=hHeld) (hy:=Or.inl ⟨by rfl,?_⟩) (h:=?_)
       rotate_left 1
       ·(intro w0 hSw;(try dsimp only at hSw);go_simp;try (with_reducible rfl))
       simp only [Act.put,sSet];refine tkH (i:=3) (v:=?_) (hS:=hHeld) (hy:=Or.inl ⟨by rfl,?_⟩) (h:=?_)
       rotate_left 1
       ·(intro w0 hSw;(try dsimp only at hSw);go_simp;try (with_reducible rfl))
       simp only [Act.put,sSet];refine tkH (i:=4) (v:=?_) (hS:=hHeld) (hy:=Or.inl ⟨by rfl,?_⟩) (h:=?_)
       rotate_left 1
       ·(intro w0 hSw;(try dsimp only at hSw);go_simp;try (with_reducible rfl))
       simp only [Act.put,sSet];refine tkH (i:=5) (v:=?_) (hS:=hHeld) (hy:=Or.inl ⟨by rfl,?_⟩) (h:=?_)
       rotate_left 1
       ·(intro w0 hSw;(try dsimp only at hSw);go_simp;try (with_reducible rfl))
       simp only [Act.put,sSet];refine tkH (i:=6) (v:=?_) (hS:=hHeld) (hy:=Or.inl ⟨by rfl,?_⟩) (h:=?_)
       rotate_left 1
       ·(intro w0 hSw;(try dsimp only at hSw);go_simp;try (with_reducible rfl))
       simp only [Act.put,sSet];refine tkH (i:=7) (v:=?_) (hS:=hHeld) (hy:=Or.inl ⟨by rfl,?_⟩) (h:=?_)
       rotate_left 1
       ·(intro w0 hSw;(try dsimp only at hSw);go_simp;try (with_reducible rfl))
       simp only [Act.put,sSet];refine tkH (i:=8) (v:=?_) (hS:=hHeld) (hy:=Or.inl ⟨by rfl,?_⟩) (h:=?_)
       rotate_left 1
       ·(intro w0 hSw;(try dsimp only at hSw);go_simp;try (with_reducible rfl))
       simp only [Act.put,sSet];refine wpAnyH_ready (rs:=[9]) (by kernel_rfl) (by simp) (AllReadyH.cons (by simp only [List.getElem?_toArray,List.getElem?_cons_succ,List.getElem?_cons_zero];rfl) (fun K hK=>?_) AllReadyH.nil);go_simp;refine hK.out _ _ ?_ (fun hHeld=>?_)
       ·exact ⟨(World.cell?_of_block (w:=W) (Deep.blk_setCell_other _ _ _ _ (show w.heap.size+1+1+1≠U by omega))).trans cV,(World.cell?_of_block (w:=W) (Deep.blk_setCell_other _ _ _ _ (show Bx≠U by omega))).trans cX0,(World.cell?_of_block (w:=W) (Deep.blk_setCell_other _ _ _ _ (show Bx≠U by omega))).trans cX1⟩
       clear hK K
       try simp only [Act.put,sSet]
       refine tkH (i:=10) (v:=?_) (hS:=hHeld) (hy:=Or.inl ⟨by rfl,?_⟩) (h:=?_)
       rotate_left 1
       ·(intro w0 hSw;(try dsimp only at hSw);go_simp;try (with_reducible rfl))
       simp only [Act.put,sSet];refine wpAnyH_ready (rs:=[11]) (by kernel_rfl) (by simp) (AllReadyH.cons (by simp only [List.getElem?_toArray,List.getElem?_cons_succ,List.getElem?_cons_zero];rfl) (fun K hK=>?_) AllReadyH.nil);obtain ⟨W8,hW8⟩:∃W8,W8=W.setCell ⟨U,A2,none⟩ (.bool true):=⟨_,rfl⟩
       have R8:W8.rowIs U 4 T (bvf fun v=>f v||decide (A2=v)):=(by rw [hW8];exact iA R1.out A2)
       have c8:=R8.cell f4;have g8:=R8.frozen C2;unfold bvf at c8;rw [←hW8];have HW8:=aE hW8;clear hW8;go_simp;have ob:∀b,b≠U→((W8.setCell ⟨U,C2,none⟩ (.bool true)).drew).heap[b]?=W.heap[b]?:=fun b hb=>by
        show (W8.setCell ⟨U,C2,none⟩ (.bool true)).heap[b]?=_
        rw [Deep.blk_setCell_other _ _ _ _ hb,HW8.out,Deep.blk_setCell_other _ _ _ _ hb]
       refine hK.out _ _ ⟨(World.cell?_of_block (w:=W) (ob _ (show w.heap.size+1+1+1≠U by omega))).trans cV,(World.cell?_of_block (w:=W) (ob _ (show Bx≠U by omega))).trans cX0,(World.cell?_of_block (w:=W) (ob _ (show Bx≠U by omega))).trans cX1⟩ (fun hHeld=>?_);clear hK K;refine wpAnyH_done (by kernel_rfl) ?_ _;have R9:((W8.setCell ⟨U,C2,none⟩ (.bool true)).drew).rowIs U 4 T (bvf ((pre++[x]).foldl (aC6 F (natP gs)) (ND 0))):=((iA R8 C2).drew).congr (fun v _=>by
        unfold bvf;rw [HST.out,hff,Bool.true_and,←Bool.or_assoc])
       have KF:KeepsFrom W6.heap.size W ((W8.setCell ⟨U,C2,none⟩ (.bool true)).drew):=by
        rw [HW8.out]
        exact ((((KeepsOthers.setCell _ _ _).trans (KeepsOthers.setCell _ _ _)).trans (KeepsOthers.drew _))).from _
       have sz9:((W8.setCell ⟨U,C2,none⟩ (.bool true)).drew).heap.size=W.heap.size:=by
        show (W8.setCell ⟨U,C2,none⟩ (.bool true)).heap.size=_
        rw [Deep.nblk_setCell,HW8.out,Deep.nblk_setCell]
       have B9:Below w.heap.size w ((W8.setCell ⟨U,C2,none⟩ (.bool true)).drew):=by
        rw [HW8.out]
        exact (((r4.setCell (p:=⟨U,_,none⟩) (show w.heap.size≤U by omega) _).setCell (p:=⟨U,_,none⟩) (show w.heap.size≤U by omega) _)).drew
       have K9:KpU U W6.heap.size W ((W8.setCell ⟨U,C2,none⟩ (.bool true)).drew):=⟨by rw [HW8.out];rfl,by rw [HW8.out];rfl,by rw [HW8.out];rfl,by rw [sz9];exact Nat.le_refl _,fun k _ hk=>ob k (fun e=>hk (.inl e))⟩
       exact ⟨KF,K9,⟨R9,(ob _ (by omega)).trans r2,(ob _ (by omega)).trans r3,by rw [sz9];exact r5⟩,B9⟩
     case done =>
      rintro D ys W hD rfl ⟨⟨r1,r2,r3,r5⟩,r4⟩ hK;have cV:W.cell? ⟨w.heap.size+1+1+1,0,none⟩=some (.slice (some ⟨U,0,none⟩) T T):=(by rw [cell_of_row _ _ _ _ _ _ r2];rfl)
      rw [HND.out,zK] at r1
      gi_wp2
      refine ⟨by simp,.inl ⟨_,_,rfl,run_takeDeferred hK,?_⟩⟩;have hUD:U≠D:=(by omega)
      refine ⟨_,results_tmp rfl _ _ _,U,rfl,by omega,r1.of_block (World.putObj_heap_other hUD),r4.trans (belowK_b (w:=w) (Nat.le_refl _) W D _ _ (by have:=bel6.size;omega) hK rfl rfl)⟩
     case stop =>
      rintro D c pre W _ _ h _
      exact h.elim
end Go.Proofs.YtgpaajdfkekjiaaGreatDoor
