/-
  A part of the proof of the statement All: texts of ours, made small by program (blanks, names).
-/
import Derived.Test.YtgpaajdfkekjiaaGreatDoorPn
import Derived.Test.YtgpaajdfkekjiaaGreatDoorPj
import Derived.Test.YtgpaajdfkekjiaaGreatDoorPi
import Derived.Handy
import Derived.Test.YtgpaajdfkekjiaaGreatDoorPg
import Derived.Test.YtgpaajdfkekjiaaGreatDoorPz
namespace Go.Proofs.YtgpaajdfkekjiaaGreatDoor
set_option maxHeartbeats 8000000
set_option maxRecDepth 100000
open Go.RowKit
def lQ (w:World) (z:Int) (L G:List (Int×Int)) (O:List Int) (T:Value→Value) (e:Ending) (w':World):Prop :=
 ∃(la ga oa:Option Addr) (lc gc oc:Nat),e=.returned (T (.agg #[.int .i64 z,.slice la L.length lc,.slice ga G.length gc,.slice oa O.length oc]))∧
  w'.ownsRow w.heap.size 54 2 (.slice la L.length lc) L.length (flat L)∧w'.ownsRow w.heap.size 56 2 (.slice ga G.length gc) G.length (flat G)∧w'.ownsRow w.heap.size 3 1 (.slice oa O.length oc) O.length (ivs O)∧
  (∀b,(Value.slice la L.length lc).ownBlock=some b→(Value.slice oa O.length oc).ownBlock≠some b)∧(∀b,(Value.slice ga G.length gc).ownBlock=some b→(Value.slice oa O.length oc).ownBlock≠some b)∧
  (∀b,(Value.slice ga G.length gc).ownBlock=some b→(Value.slice la L.length lc).ownBlock≠some b)∧Below w.heap.size w w'
def mH (w:World) (z:Int) (L G:List (Int×Int)) (O:List Int) (T:Value→Value) (e:Ending) (w':World):Prop :=
 ∃(la ga oa:Option Addr) (lc gc oc:Nat),e=.returned (T (.agg #[.int .i64 z,.slice la L.length lc,.slice ga G.length gc,.slice oa O.length oc]))∧PairsAt w' la L∧PairsAt w' ga G∧IntsAt w' oa O∧Below w.heap.size w w'
theorem aCQ:∀(ps:List (Int×Int)) (i:Nat),i<ps.length→(flat ps)[i*2]?=some (.int .i64 (ps.getD i (0,0)).1)∧(flat ps)[i*2+1]?=some (.int .i64 (ps.getD i (0,0)).2)
 | [],i,h=>by simp at h
 | p :: ps,0,_=>⟨rfl,rfl⟩
 | p :: ps,i+1,hi=>by
  have:=aCQ ps i (by simpa using hi);have e1:(i+1)*2=i*2+2:=by omega
  have e2:flat (p :: ps)=[.int .i64 p.1,.int .i64 p.2]++ flat ps:=rfl;rw [e1,e2,List.getElem?_append_right (by simp),List.getElem?_append_right (by simp)]
  simpa using this
theorem eU {w:World}{base e c:Nat}{a:Option Addr}{ps:List (Int×Int)}(h:w.ownsRow base e 2 (.slice a ps.length c) ps.length (flat ps)):PairsAt w a ps:=by
 rcases h.2 with ⟨h1,h0⟩ | ⟨g,cap,cur,hv,_⟩
 ·obtain rfl:ps=[]:=List.length_eq_zero_iff.1 h0
  exact .inl rfl
 ·simp only [Value.slice.injEq,true_and] at hv
  obtain ⟨rfl,rfl⟩:=hv;refine .inr ⟨g,0,rfl,(h.lt g rfl).2,fun i hi=>?_⟩;have l2:i*2<(flat ps).length:=by rw [gY];omega
  have l3:i*2+1<(flat ps).length:=by rw [gY];omega
  rw [Nat.zero_add,h.cellAt (i*2) (by rw [gY] at l2;omega),h.cellAt (i*2+1) (by rw [gY] at l3;omega)]
  exact aCQ ps i hi
theorem nF {w:World}{base e c:Nat}{a:Option Addr}{xs:List Int}(h:w.ownsRow base e 1 (.slice a xs.length c) xs.length (ivs xs)):IntsAt w a xs:=by
 rcases h.2 with ⟨h1,h0⟩ | ⟨g,cap,cur,hv,_⟩
 ·obtain rfl:xs=[]:=List.length_eq_zero_iff.1 h0
  exact .inl rfl
 ·simp only [Value.slice.injEq,true_and] at hv
  obtain ⟨rfl,rfl⟩:=hv;refine .inr ⟨g,0,rfl,(h.lt g rfl).2,fun i hi=>?_⟩;rw [Nat.zero_add,h.cellAt i (by omega)]
  simp [ivs,hi]
theorem sM (z:Int) (la lb ga gb oa ob:Option Addr) (lc ld gc gd oc od:Nat) (L G:List (Int×Int)) (O:List Int) (w:World) (hl:L.length≤900) (hg:G.length≤900) (ho:O.length≤900)
  (pL:PairsAt w la L) (qL:PairsAt w lb L) (pG:PairsAt w ga G) (qG:PairsAt w gb G) (pO:IntsAt w oa O) (qO:IntsAt w ob O) :
  Calls Tryz.prog 11 #[.agg #[.int .i64 z,.slice la L.length lc,.slice ga G.length gc,.slice oa O.length oc],.agg #[.int .i64 z,.slice lb L.length ld,.slice gb G.length gd,.slice ob O.length od]] w fun e w'=>e=.returned (.bool true)∧Below w.heap.size w w':=by
 obtain ⟨W2,hW2⟩:∃W2,W2=(w.alloc (.cells #[.int .i64 z,.slice la L.length lc,.slice ga G.length gc,.slice oa O.length oc] 34)).alloc (.cells #[.int .i64 z,.slice lb L.length ld,.slice gb G.length gd,.slice ob O.length od] 34):=⟨_,rfl⟩
 have s2:W2.heap.size=w.heap.size+2:=by rw [hW2];simp
 have B2:Below w.heap.size w W2:=by rw [hW2];exact ((Below.refl _ _).alloc (Nat.le_refl _) _).alloc (by simp) _
 have yA:W2.heap[w.heap.size]?=some (.cells #[.int .i64 z,.slice la L.length lc,.slice ga G.length gc,.slice oa O.length oc] 34 (0,0)):=by rw [hW2];exact aA (aB _ _ _ rfl)
 have yB:W2.heap[w.heap.size+1]?=some (.cells #[.int .i64 z,.slice lb L.length ld,.slice gb G.length gd,.slice ob O.length od] 34 (0,0)):=by rw [hW2];exact aB _ _ _ (by simp)
 have A3:W2.cell? ⟨w.heap.size,3,none⟩=some (.slice oa O.length oc):=by rw [cell_of_row _ _ _ _ _ _ yA];rfl
 have D3:W2.cell? ⟨w.heap.size+1,3,none⟩=some (.slice ob O.length od):=by rw [cell_of_row _ _ _ _ _ _ yB];rfl
 go_enter Tryz.func11,Tryz.ntmps11
 go_upto_region 1 with fail
 rw [←hW2];clear hW2
 go_wp2_with fail
 refine (mC oa ob O.length oc od O W2 rfl (by omega) (pO.below B2) (qO.below B2)).mono ?_;rintro e W3 ⟨rfl,b3⟩;have bel:Below w.heap.size w W3:=B2.trans (b3.mono B2.size);have xA:=(b3.block w.heap.size (by omega)).trans yA;have xB:=(b3.block (w.heap.size+1) (by omega)).trans yB;clear A3 D3 yA yB;have A0:W3.cell? ⟨w.heap.size,0,none⟩=some (.int .i64 z):=by rw [cell_of_row _ _ _ _ _ _ xA];rfl
 have D0:W3.cell? ⟨w.heap.size+1,0,none⟩=some (.int .i64 z):=by rw [cell_of_row _ _ _ _ _ _ xB];rfl
 have A1:W3.cell? ⟨w.heap.size,1,none⟩=some (.slice la L.length lc):=by rw [cell_of_row _ _ _ _ _ _ xA];rfl
 have D1:W3.cell? ⟨w.heap.size+1,1,none⟩=some (.slice lb L.length ld):=by rw [cell_of_row _ _ _ _ _ _ xB];rfl
 have A2:W3.cell? ⟨w.heap.size,2,none⟩=some (.slice ga G.length gc):=by rw [cell_of_row _ _ _ _ _ _ xA];rfl
 have D2:W3.cell? ⟨w.heap.size+1,2,none⟩=some (.slice gb G.length gd):=by rw [cell_of_row _ _ _ _ _ _ xB];rfl
 go_wp2_with fail
 clear A0 D0 A1 D1 A2 D2 b3 s2 B2
 go_loopw [6] (fun i wr=>∃k:Nat,k≤L.length∧i=.int .i64 k∧wr.heap[w.heap.size]?=some (.cells #[.int .i64 z,.slice la L.length lc,.slice ga G.length gc,.slice oa O.length oc] 34 (0,0))∧wr.heap[w.heap.size+1]?=some (.cells #[.int .i64 z,.slice lb L.length ld,.slice gb G.length gd,.slice ob O.length od] 34 (0,0))∧Below w.heap.size w wr) (fun i _=>L.length - (intOf i).toNat)
 case atStart=>exact ⟨0,Nat.zero_le _,rfl,xA,xB,bel⟩
 case round =>
  clear xA xB bel;obtain ⟨k,hk,rfl,xA,xB,bel⟩:=hrel;have A1:wr.cell? ⟨w.heap.size,1,none⟩=some (.slice la L.length lc):=by rw [cell_of_row _ _ _ _ _ _ xA];rfl
  have D1:wr.cell? ⟨w.heap.size+1,1,none⟩=some (.slice lb L.length ld):=by rw [cell_of_row _ _ _ _ _ _ xB];rfl
  by_cases hk2:k<L.length
  ·obtain ⟨b,off,rfl,hb,hc⟩:=pL.get (by omega)
   obtain ⟨b',off',rfl,hb',hc'⟩:=qL.get (by omega);have d0:=(bel.cell (p:=⟨b,off+k*2,none⟩) hb).trans (hc k hk2).1;have d1:=(bel.cell (p:=⟨b,off+k*2+1,none⟩) hb).trans (hc k hk2).2;have e0:=(bel.cell (p:=⟨b',off'+k*2,none⟩) hb').trans (hc' k hk2).1;have e1:=(bel.cell (p:=⟨b',off'+k*2+1,none⟩) hb').trans (hc' k hk2).2;obtain ⟨g,hg0⟩:∃g,g=L.getD k (0,0):=⟨_,rfl⟩
   rw [←hg0] at d0 d1 e0 e1;obtain ⟨p,q⟩:=g;dsimp only at d0 d1 e0 e1;have kI:(k:Int)<(L.length:Int):=(by omega)
   have k0:(0:Int)≤(k:Int):=(by omega)
   clear hc hc' hg0;go_wp2
   go_quiet (fail)
   go_wp2
   go_roundw
   case rel=>exact ⟨k+1,by omega,by go_num,xA,xB,below_drewN bel _⟩
   case measure=>simp [intOf];omega
  ·have hkN:k=L.length:=by omega
   rw [hkN];clear hkN hk2 hk
   go_wp2_with fail
   clear A1 D1
   go_loopw [7] (fun i wr=>∃k:Nat,k≤G.length∧i=.int .i64 k∧wr.heap[w.heap.size]?=some (.cells #[.int .i64 z,.slice la L.length lc,.slice ga G.length gc,.slice oa O.length oc] 34 (0,0))∧wr.heap[w.heap.size+1]?=some (.cells #[.int .i64 z,.slice lb L.length ld,.slice gb G.length gd,.slice ob O.length od] 34 (0,0))∧Below w.heap.size w wr) (fun i _=>G.length - (intOf i).toNat)
   case atStart=>exact ⟨0,Nat.zero_le _,rfl,xA,xB,bel⟩
   case round =>
    clear xA xB bel;obtain ⟨k,hk,rfl,xA,xB,bel⟩:=hrel;have A1:wr.cell? ⟨w.heap.size,2,none⟩=some (.slice ga G.length gc):=(by rw [cell_of_row _ _ _ _ _ _ xA];rfl)
    have D1:wr.cell? ⟨w.heap.size+1,2,none⟩=some (.slice gb G.length gd):=by rw [cell_of_row _ _ _ _ _ _ xB];rfl
    by_cases hk2:k<G.length
    ·obtain ⟨b,off,rfl,hb,hc⟩:=pG.get (by omega)
     obtain ⟨b',off',rfl,hb',hc'⟩:=qG.get (by omega);have d0:=(bel.cell (p:=⟨b,off+k*2,none⟩) hb).trans (hc k hk2).1;have d1:=(bel.cell (p:=⟨b,off+k*2+1,none⟩) hb).trans (hc k hk2).2;have e0:=(bel.cell (p:=⟨b',off'+k*2,none⟩) hb').trans (hc' k hk2).1;have e1:=(bel.cell (p:=⟨b',off'+k*2+1,none⟩) hb').trans (hc' k hk2).2;obtain ⟨g,hg0⟩:∃g,g=G.getD k (0,0):=⟨_,rfl⟩
     rw [←hg0] at d0 d1 e0 e1;obtain ⟨p,q⟩:=g;dsimp only at d0 d1 e0 e1;have kI:(k:Int)<(G.length:Int):=(by omega)
     have k0:(0:Int)≤(k:Int):=(by omega)
     clear hc hc' hg0;go_wp2
     go_quiet (fail)
     go_wp2
     go_roundw
     case rel=>exact ⟨k+1,by omega,by go_num,xA,xB,below_drewN bel _⟩
     case measure=>simp [intOf];omega
    ·have hkN:k=G.length:=by omega
     rw [hkN];clear hkN hk2 hk;go_wp2
     go_ret
     exact ⟨rfl,bel⟩
theorem aEU (n:Int) (la ga oa:Option Addr) (lc gc oc:Nat) (ls gs:List (Int×Int)) (os:List Int) (w:World) (hr:aG n ls gs os=false) (hL:PairsAt w la ls) (hG:PairsAt w ga gs) (hO:IntsAt w oa os) :
  Calls Tryz.prog 27 #[.agg #[.int .i64 n,.slice la ls.length lc,.slice ga gs.length gc,.slice oa os.length oc]] w fun e w'=>e=.returned (.tuple #[.agg #[.int .i64 0,.slice none 0 0,.slice none 0 0,.slice none 0 0],.int .i64 2])∧Below w.heap.size w w':=by
 obtain ⟨W2,hW2⟩:∃W2,W2=(w.alloc (.cells #[.int .i64 n,.slice la ls.length lc,.slice ga gs.length gc,.slice oa os.length oc] 34)).alloc (.cells #[.int .i64 0,.slice none 0 0,.slice none 0 0,.slice none 0 0] 34):=⟨_,rfl⟩
 have s2:W2.heap.size=w.heap.size+2:=by rw [hW2];simp
 have B2:Below w.heap.size w W2:=by rw [hW2];exact ((Below.refl _ _).alloc (Nat.le_refl _) _).alloc (by simp) _
 have bC2:W2.heap[w.heap.size]?=some (.cells #[.int .i64 n,.slice la ls.length lc,.slice ga gs.length gc,.slice oa os.length oc] 34 (0,0)):=by rw [hW2];exact aA (aB _ _ _ rfl)
 have bA2:W2.heap[w.heap.size+1]?=some (.cells #[.int .i64 0,.slice none 0 0,.slice none 0 0,.slice none 0 0] 34 (0,0)):=by rw [hW2];exact aB _ _ _ (by simp)
 obtain ⟨q0,q1,q2,q3⟩:W2.cell? ⟨w.heap.size,0,none⟩=some (.int .i64 n)∧W2.cell? ⟨w.heap.size,1,none⟩=some (.slice la ls.length lc)∧W2.cell? ⟨w.heap.size,2,none⟩=some (.slice ga gs.length gc)∧W2.cell? ⟨w.heap.size,3,none⟩=some (.slice oa os.length oc):=by
  refine ⟨?_,?_,?_,?_⟩<;> (rw [cell_of_row _ _ _ _ _ _ bC2];rfl)
 go_enter Tryz.func27,Tryz.ntmps27
 go_upto_region 1 with fail
 rw [←hW2];clear hW2
 go_wp2_with fail
 refine (cI W2 (hL.below B2) (hG.below B2) (hO.below B2) hr).mono ?_;rintro e w1 ⟨rfl,b3⟩;have bel1:Below w.heap.size w w1:=B2.trans (b3.mono B2.size);have bA1:=(b3.block (w.heap.size+1) (by omega)).trans bA2;clear q0 q1 q2 q3 bC2 bA2;obtain ⟨u0,u1,u2,u3⟩:=aK bA1;have v0:w1.frozen? ⟨w.heap.size+1,0,none⟩=false:=frozen_of_row _ _ _ _ _ bA1;have v1:w1.frozen? ⟨w.heap.size+1,1,none⟩=false:=frozen_of_row _ _ _ _ _ bA1;have v2:w1.frozen? ⟨w.heap.size+1,2,none⟩=false:=frozen_of_row _ _ _ _ _ bA1;have v3:w1.frozen? ⟨w.heap.size+1,3,none⟩=false:=frozen_of_row _ _ _ _ _ bA1;go_wp2;refine aD9 (b:=w.heap.size+1) (aS bA1 _ _ _ _) (by rfl) (by rfl) ?_
 exact ⟨rfl,aH bel1 (by omega) _ _ _ _⟩
theorem wY (n:Int) (la ga oa:Option Addr) (lc gc oc:Nat) (ls gs:List (Int×Int)) (os:List Int) (w:World) (hr:aG n ls gs os=false) (hL:PairsAt w la ls) (hG:PairsAt w ga gs) (hO:IntsAt w oa os)
  (fL:∀i,i<ls.length→Fits (ls.getD i (0,0)).1) (fG:∀i,i<gs.length→Fits (gs.getD i (0,0)).1∧Fits (gs.getD i (0,0)).2) (fO:∀i,i<os.length→Fits (os.getD i 0)) :
  Calls Tryz.prog 28 #[.agg #[.int .i64 n,.slice la ls.length lc,.slice ga gs.length gc,.slice oa os.length oc]] w fun e w'=>e=.returned (.tuple #[.agg #[.int .i64 0,.slice none 0 0,.slice none 0 0,.slice none 0 0],.int .i64 2])∧Below w.heap.size w w':=by
 obtain ⟨W2,hW2⟩:∃W2,W2=(w.alloc (.cells #[.int .i64 n,.slice la ls.length lc,.slice ga gs.length gc,.slice oa os.length oc] 34)).alloc (.cells #[.int .i64 0,.slice none 0 0,.slice none 0 0,.slice none 0 0] 34):=⟨_,rfl⟩
 have s2:W2.heap.size=w.heap.size+2:=by rw [hW2];simp
 have B2:Below w.heap.size w W2:=by rw [hW2];exact ((Below.refl _ _).alloc (Nat.le_refl _) _).alloc (by simp) _
 have bC2:W2.heap[w.heap.size]?=some (.cells #[.int .i64 n,.slice la ls.length lc,.slice ga gs.length gc,.slice oa os.length oc] 34 (0,0)):=by rw [hW2];exact aA (aB _ _ _ rfl)
 have bA2:W2.heap[w.heap.size+1]?=some (.cells #[.int .i64 0,.slice none 0 0,.slice none 0 0,.slice none 0 0] 34 (0,0)):=by rw [hW2];exact aB _ _ _ (by simp)
 obtain ⟨q0,q1,q2,q3⟩:W2.cell? ⟨w.heap.size,0,none⟩=some (.int .i64 n)∧W2.cell? ⟨w.heap.size,1,none⟩=some (.slice la ls.length lc)∧W2.cell? ⟨w.heap.size,2,none⟩=some (.slice ga gs.length gc)∧W2.cell? ⟨w.heap.size,3,none⟩=some (.slice oa os.length oc):=by
  refine ⟨?_,?_,?_,?_⟩<;> (rw [cell_of_row _ _ _ _ _ _ bC2];rfl)
 go_enter Tryz.func28,Tryz.ntmps28
 go_upto_region 1 with fail
 rw [←hW2];clear hW2
 go_wp2_with fail
 refine (aA9 W2 (hL.below B2) (hG.below B2) (hO.below B2) fL fG fO hr).mono ?_;rintro e w1 ⟨rfl,b3⟩;have bel1:Below w.heap.size w w1:=B2.trans (b3.mono B2.size);have bA1:=(b3.block (w.heap.size+1) (by omega)).trans bA2;clear q0 q1 q2 q3 bC2 bA2;obtain ⟨u0,u1,u2,u3⟩:=aK bA1;have v0:w1.frozen? ⟨w.heap.size+1,0,none⟩=false:=frozen_of_row _ _ _ _ _ bA1;have v1:w1.frozen? ⟨w.heap.size+1,1,none⟩=false:=frozen_of_row _ _ _ _ _ bA1;have v2:w1.frozen? ⟨w.heap.size+1,2,none⟩=false:=frozen_of_row _ _ _ _ _ bA1;have v3:w1.frozen? ⟨w.heap.size+1,3,none⟩=false:=frozen_of_row _ _ _ _ _ bA1;go_wp2;refine aAB (b:=w.heap.size+1) (aS bA1 _ _ _ _) (by rfl) (by rfl) ?_
 exact ⟨rfl,aH bel1 (by omega) _ _ _ _⟩
def anZ (n:Int) (ls gs:List (Int×Int)) (os:List Int):Int:=if aG n ls gs os then n else 0
def anL (n:Int) (ls gs:List (Int×Int)) (os:List Int):List (Int×Int):=if aG n ls gs os then slL n.toNat ls gs os else []
def anG (n:Int) (ls gs:List (Int×Int)) (os:List Int):List (Int×Int):=if aG n ls gs os then slG n.toNat ls gs os else []
def anO (n:Int) (ls gs:List (Int×Int)) (os:List Int):List Int:=if aG n ls gs os then slO n.toNat ls gs os else []
def anE (n:Int) (ls gs:List (Int×Int)) (os:List Int):Int:=if aG n ls gs os then 0 else 2
theorem aAX (n:Int) (ls gs:List (Int×Int)) (os:List Int):(anL n ls gs os).length≤900∧(anG n ls gs os).length≤900∧(anO n ls gs os).length≤900:=by
 unfold anL anG anO
 cases hr:aG n ls gs os
 ·simp
 ·have hn:0≤n:=by
   simp only [aG,eJ,Bool.and_eq_true,decide_eq_true_eq,inB] at hr;obtain ⟨⟨⟨⟨⟨⟨h1,h2⟩,h3⟩,h4⟩,hl⟩,hg⟩,ho⟩:=hr
   omega
  obtain ⟨k,rfl⟩:=Int.eq_ofNat_of_zero_le hn;have h:=rightN_iff.1 hr;simp only [if_true,Int.toNat_natCast,aLF,aLE,aLG];have h1:=h.l4;have h2:=h.g30;have h3:=h.o4;have h4:=Nat.le_trans (aGW (n:=k) (ls:=ls) (gs:=gs) (os:=os)) sN
  omega
theorem aDA {w w':World}{N:Nat}{L G:List (Int×Int)}{O:List Int}{e:Ending}(h:aAV w N L G O e w'):lQ w N L G O (fun c=>.tuple #[c,.int .i64 0]) e w':=by
 obtain ⟨lv,gv,ov,rfl,oL,oG,oO,d1,d2,d3,b⟩:=h;obtain ⟨la,lc,rfl⟩:=aW oL;obtain ⟨ga,gc,rfl⟩:=aW oG;obtain ⟨oa,oc,rfl⟩:=aW oO
 exact ⟨la,ga,oa,lc,gc,oc,rfl,oL,oG,oO,d2,d3,fun b e e'=>d1 b e' e,b⟩
theorem yF {w w':World}{z:Int}{L G:List (Int×Int)}{O:List Int}{T:Value→Value}{e:Ending}(h:lQ w z L G O T e w'):mH w z L G O T e w':=by
 obtain ⟨la,ga,oa,lc,gc,oc,he,oL,oG,oO,-,-,-,b⟩:=h
 exact ⟨la,ga,oa,lc,gc,oc,he,eU oL,eU oG,nF oO,b⟩
theorem aF5 {w w':World}{e:Ending}{T:Value→Value}(h:e=.returned (T (.agg #[.int .i64 0,.slice none 0 0,.slice none 0 0,.slice none 0 0]))∧Below w.heap.size w w'):lQ w 0 [] [] [] T e w' :=
 ⟨none,none,none,0,0,0,h.1,World.ownsRow_nil _ _ _ _,World.ownsRow_nil _ _ _ _,World.ownsRow_nil _ _ _ _,(fun b e=>by cases e),(fun b e=>by cases e),(fun b e=>by cases e),h.2⟩
theorem aJC (n:Int) (la ga oa:Option Addr) (lc gc oc:Nat) (ls gs:List (Int×Int)) (os:List Int) (w:World) (hL:PairsAt w la ls) (hG:PairsAt w ga gs) (hO:IntsAt w oa os) :
  Calls Tryz.prog 27 #[.agg #[.int .i64 n,.slice la ls.length lc,.slice ga gs.length gc,.slice oa os.length oc]] w (lQ w (anZ n ls gs os) (anL n ls gs os) (anG n ls gs os) (anO n ls gs os) (fun c=>.tuple #[c,.int .i64 (anE n ls gs os)])):=by
 unfold anZ anL anG anO anE
 cases hr:aG n ls gs os
 ·exact (aEU n la ga oa lc gc oc ls gs os w hr hL hG hO).mono fun e w' h=>aF5 h
 ·have hn:0≤n:=by
   simp only [aG,eJ,Bool.and_eq_true,decide_eq_true_eq,inB] at hr;obtain ⟨⟨⟨⟨⟨⟨h1,h2⟩,h3⟩,h4⟩,hl⟩,hg⟩,ho⟩:=hr
   omega
  obtain ⟨k,rfl⟩:=Int.eq_ofNat_of_zero_le hn
  exact (aLH k la ga oa lc gc oc ls gs os w hr hL hG hO).mono fun e w' h=>aDA h
theorem aBX (n:Int) (la ga oa:Option Addr) (lc gc oc:Nat) (ls gs:List (Int×Int)) (os:List Int) (w:World) (hL:PairsAt w la ls) (hG:PairsAt w ga gs) (hO:IntsAt w oa os)
  (fL:∀i,i<ls.length→Fits (ls.getD i (0,0)).1) (fG:∀i,i<gs.length→Fits (gs.getD i (0,0)).1∧Fits (gs.getD i (0,0)).2) (fO:∀i,i<os.length→Fits (os.getD i 0)) :
  Calls Tryz.prog 28 #[.agg #[.int .i64 n,.slice la ls.length lc,.slice ga gs.length gc,.slice oa os.length oc]] w (mH w (anZ n ls gs os) (anL n ls gs os) (anG n ls gs os) (anO n ls gs os) (fun c=>.tuple #[c,.int .i64 (anE n ls gs os)])):=by
 unfold anZ anL anG anO anE
 cases hr:aG n ls gs os
 ·exact (wY n la ga oa lc gc oc ls gs os w hr hL hG hO fL fG fO).mono fun e w' h=>yF (aF5 h)
 ·have hn:0≤n:=by
   simp only [aG,eJ,Bool.and_eq_true,decide_eq_true_eq,inB] at hr;obtain ⟨⟨⟨⟨⟨⟨h1,h2⟩,h3⟩,h4⟩,hl⟩,hg⟩,ho⟩:=hr
   omega
  obtain ⟨k,rfl⟩:=Int.eq_ofNat_of_zero_le hn
  exact (aEO k la ga oa lc gc oc ls gs os w hr hL hG hO).mono fun e w' h=>yF (aDA h)
end Go.Proofs.YtgpaajdfkekjiaaGreatDoor
