/-
  A part of the proof of the statement All: texts of ours, made small by program (blanks, names).
-/
import Derived.Test.YtgpaajdfkekjiaaGreatDoorPg
import Derived.Test.YtgpaajdfkekjiaaGreatDoorPi
import Derived.Test.YtgpaajdfkekjiaaGreatDoorPd
import Derived.Test.YtgpaajdfkekjiaaGreatDoorPj
import Derived.Test.YtgpaajdfkekjiaaGreatDoorPb
namespace Go.Proofs.YtgpaajdfkekjiaaGreatDoor
set_option maxHeartbeats 8000000
set_option maxRecDepth 100000
open Go.RowKit
def fvf (f:Nat→Nat) (E t:Nat):Value:=.float .f64 (fq (f t) E)
theorem aB7 (E:Nat):fq 0 E=0:=by unfold fq;rw [Nat.zero_mul];exact qE
theorem aKA (w:World) (E:Nat):(w.alloc (.cells #[.float .f64 0,.float .f64 0,.float .f64 0,.float .f64 0,.float .f64 0,.float .f64 0,.float .f64 0,.float .f64 0,.float .f64 0,.float .f64 0,.float .f64 0,.float .f64 0,.float .f64 0,.float .f64 0,.float .f64 0,.float .f64 0] 140)).rowIs w.heap.size 140 16 (fvf (fun _=>0) E):=by
 refine ⟨_,heap_alloc_new _ _,rfl,fun i hi=>?_⟩;unfold fvf;rw [aB7]
 match i,hi with
 | 0,_=>rfl
 | 1,_=>rfl
 | 2,_=>rfl
 | 3,_=>rfl
 | 4,_=>rfl
 | 5,_=>rfl
 | 6,_=>rfl
 | 7,_=>rfl
 | 8,_=>rfl
 | 9,_=>rfl
 | 10,_=>rfl
 | 11,_=>rfl
 | 12,_=>rfl
 | 13,_=>rfl
 | 14,_=>rfl
 | 15,_=>rfl
 | i+16,h=>omega
def BhInv (w:World) (B e0:Nat) (n:Nat) (la ga oa:Option Addr) (lc gc oc:Nat) (ls gs:List (Int×Int)) (os:List Int) (f:Nat→Nat) (E s j:Nat) (W:World):Prop :=
 W.rowIs B 140 16 (fvf (fH (nxF n ls gs) (2^n) f s j) (E+n))∧W.heap[e0]?=some (.cells #[.int .i64 n,.slice la ls.length lc,.slice ga gs.length gc,.slice oa os.length oc] 34 (0,0))∧w.heap.size+3≤B∧B<e0∧Below w.heap.size w W∧W.heap[w.heap.size+2]?=some (.cells #[.float .f64 0,.float .f64 0,.float .f64 0,.float .f64 0,.float .f64 0,.float .f64 0,.float .f64 0,.float .f64 0,.float .f64 0,.float .f64 0,.float .f64 0,.float .f64 0,.float .f64 0,.float .f64 0,.float .f64 0,.float .f64 0] 140 (0,0))
theorem BhInv.below {w:World}{B e0 n:Nat}{la ga oa:Option Addr}{lc gc oc:Nat}{ls gs:List (Int×Int)}{os:List Int}{f:Nat→Nat}{E s j:Nat}{W W':World}(h:BhInv w B e0 n la ga oa lc gc oc ls gs os f E s j W) (hb:Below W.heap.size W W'):BhInv w B e0 n la ga oa lc gc oc ls gs os f E s j W':=by
 obtain ⟨h1,h2,h3,h4,h5,h6⟩:=h
 exact ⟨h1.of_block (hb.block B h1.lt),(hb.block e0 (Array.getElem?_eq_some_iff.1 h2).1).trans h2,h3,h4,h5.trans (hb.mono h5.size),(hb.block _ (Array.getElem?_eq_some_iff.1 h6).1).trans h6⟩
theorem BhInv.tell {w:World}{B e0 n:Nat}{la ga oa:Option Addr}{lc gc oc:Nat}{ls gs:List (Int×Int)}{os:List Int}{f:Nat→Nat}{E s j:Nat}{W:World}(h:BhInv w B e0 n la ga oa lc gc oc ls gs os f E s j W) :
  BhInv w B e0 n la ga oa lc gc oc ls gs os f E s (j+1) (W.setCell ⟨B,nxF n ls gs s j,none⟩ (.float .f64 (fq (fH (nxF n ls gs) (2^n) f s j (nxF n ls gs s j)+f s) (E+n)))):=by
 obtain ⟨h1,h2,h3,h4,h5,h6⟩:=h;refine ⟨(h1.set _ _).congr (fun t _=>?_),(Deep.blk_setCell_other _ _ _ _ (show e0≠B by omega)).trans h2,h3,h4,h5.setCell (p:=⟨B,_,none⟩) (show w.heap.size≤B by omega) _,(Deep.blk_setCell_other _ _ _ _ (show w.heap.size+2≠B by omega)).trans h6⟩;unfold fvf;rw [uU]
 by_cases e:t=nxF n ls gs s j
 ·rw [if_pos e,if_pos e.symm,e]
 ·rw [if_neg e,if_neg (fun h=>e h.symm),Nat.add_zero]
theorem aHR {tmps:Array Value}{Q:Ending→World→Prop}{w:World}{b E:Nat}{f:Nat→Nat}(h:w.heap[b]?=some (.cells (eM f E) 140 (0,0))) (h4:tmps[4]?.getD undef=.pointer (some ⟨b,0,none⟩)) (hQ:Q (.returned (.agg (eM f E))) w) :
  bodyPost Tryz.prog Tryz.f83 Q Exit.ret ⟨tmps,[]⟩ w:=by
 obtain ⟨c0,c1,c2,c3,c4,c5,c6,c7,c8,c9,c10,c11,c12,c13,c14,c15⟩:=oE h
 exact bodyPost_ret (v:=.agg (eM f E)) (by simp [results,Tryz.results83,go_sem,h4,c0,c1,c2,c3,c4,c5,c6,c7,c8,c9,c10,c11,c12,c13,c14,c15];rfl) rfl hQ
theorem aHS (n E:Nat) (la ga oa:Option Addr) (lc gc oc:Nat) (ls gs:List (Int×Int)) (os:List Int) (f:Nat→Nat) (w:World) (h1:n≤4) (h2:ls.length≤4) (h3:gs.length≤30) (h4:os.length≤4) (hL:PairsAt w la ls) (hG:PairsAt w ga gs) (hO:IntsAt w oa os)
  (hg:∀i,i<gs.length→dG (n+ls.length+(i:Nat)) (gs.getD i (0,0))=true) (hl:∀i,i<ls.length→inB (ls.getD i (0,0)).1 (2*(n+ls.length+gs.length)+1)=true) (ho:∀i,i<os.length→inB (os.getD i 0) (2*(n+ls.length+gs.length)+1)=true)
  (hE:E+n≤100) (hfl:∀s,s<16→f s<9007199254740992) (hpl:∀s j t,s<16→j≤2^n→fH (nxF n ls gs) (2^n) f s j t<9007199254740992) :
  Calls Tryz.prog 83 #[.agg #[.int .i64 n,.slice la ls.length lc,.slice ga gs.length gc,.slice oa os.length oc],.agg (eM f E)] w fun e w'=>e=.returned (.agg (eM (mE (nxF n ls gs) (2^n) f) (E+n)))∧Below w.heap.size w w':=by
 have hmf:∀(fn:Fn) (first cap:Array Value) (w:World),(Instr.makeFunc fn first cap).run Tryz.prog w=.ok (.func fn first cap) w:=fun _ _ _ _=>rfl
 obtain ⟨W5,hW5⟩:∃W5,W5=(((w.alloc (.cells #[.int .i64 n,.slice la ls.length lc,.slice ga gs.length gc,.slice oa os.length oc] 34)).alloc (.cells (eM f E) 140)).alloc (.cells #[.float .f64 0,.float .f64 0,.float .f64 0,.float .f64 0,.float .f64 0,.float .f64 0,.float .f64 0,.float .f64 0,.float .f64 0,.float .f64 0,.float .f64 0,.float .f64 0,.float .f64 0,.float .f64 0,.float .f64 0,.float .f64 0] 140)).alloc (.cells #[.float .f64 0,.float .f64 0,.float .f64 0,.float .f64 0,.float .f64 0,.float .f64 0,.float .f64 0,.float .f64 0,.float .f64 0,.float .f64 0,.float .f64 0,.float .f64 0,.float .f64 0,.float .f64 0,.float .f64 0,.float .f64 0] 140):=⟨_,rfl⟩
 have s5:W5.heap.size=w.heap.size+4:=by rw [hW5];simp
 have B5:Below w.heap.size w W5:=by rw [hW5];exact ((((Below.refl _ _).alloc (Nat.le_refl _) _).alloc (by simp) _).alloc (by simp;omega) _).alloc (by simp;omega) _
 have xC:W5.heap[w.heap.size]?=some (.cells #[.int .i64 n,.slice la ls.length lc,.slice ga gs.length gc,.slice oa os.length oc] 34 (0,0)):=by rw [hW5];exact aA (aA (aA (aB _ _ _ rfl)))
 have xN:W5.heap[w.heap.size+1]?=some (.cells (eM f E) 140 (0,0)):=by rw [hW5];exact aA (aA (aB _ _ _ (by simp)))
 have xR:W5.heap[w.heap.size+2]?=some (.cells #[.float .f64 0,.float .f64 0,.float .f64 0,.float .f64 0,.float .f64 0,.float .f64 0,.float .f64 0,.float .f64 0,.float .f64 0,.float .f64 0,.float .f64 0,.float .f64 0,.float .f64 0,.float .f64 0,.float .f64 0,.float .f64 0] 140 (0,0)):=by rw [hW5];exact aA (aB _ _ _ (by simp))
 have r5:W5.rowIs (w.heap.size+3) 140 16 (fvf (fun _=>0) (E+n)):=by
  rw [hW5];have h:=aKA (((w.alloc (.cells #[.int .i64 n,.slice la ls.length lc,.slice ga gs.length gc,.slice oa os.length oc] 34)).alloc (.cells (eM f E) 140)).alloc (.cells #[.float .f64 0,.float .f64 0,.float .f64 0,.float .f64 0,.float .f64 0,.float .f64 0,.float .f64 0,.float .f64 0,.float .f64 0,.float .f64 0,.float .f64 0,.float .f64 0,.float .f64 0,.float .f64 0,.float .f64 0,.float .f64 0] 140)) (E+n)
  simpa using h
 obtain ⟨q0,q1,q2,q3⟩:=aK xC;obtain ⟨d0,d1,d2,d3,d4,d5,d6,d7,d8,d9,d10,d11,d12,d13,d14,d15⟩:=oE xN
 go_enter Tryz.func83,Tryz.ntmps83
 go_upto_region 2 with fail
 rw [←hW5];clear hW5
 go_wp2_with fail
 have hst:=@fD Tryz.prog;refine (rJ n E la ga oa lc gc oc ls gs os f (2^n) (nxF n ls gs) (fun s j=>dZ os (vals n ls.length gs s j) os.length) (.pointer (some ⟨w.heap.size+1+1+1,0,none⟩)) (BhInv w (w.heap.size+3) W5.heap.size n la ga oa lc gc oc ls gs os f E) W5 h1 rfl hE hfl
  (fun W s j hs hj I=>(qS n s j la ga oa lc gc oc ls gs os W h1 h2 h3 h4 hs (by have:=eY h1;omega) (hL.below I.2.2.2.2.1) (hG.below I.2.2.2.2.1) (hO.below I.2.2.2.2.1) hg hl ho).mono fun e w' h=>⟨h.1,I.below h.2⟩)
  (fun W s j hs hj hp I=>(aHQ _ (nxF n ls gs s j) _ _ _ (w.heap.size+3) W (zP h2 s j) (I.1.cell (zP h2 s j)) (I.1.frozen _) (aK1 (hpl s j _ hs (by omega)) (hfl s hs))).mono fun e w' h=>⟨h.1,by rw [h.2];exact I.tell⟩)
  (fun W s hs I=>⟨I.1.congr (fun t _=>by unfold fvf;rw [uS]),I.2⟩) (fun W s hs h0 I=>⟨I.1.congr (fun t _=>by unfold fvf;rw [uT _ _ _ _ _ h0]),I.2⟩) (fun W s j I=>I.2.1)
  ⟨((r5.alloc _).alloc _).congr (fun t _=>by unfold fvf;rw [uV]),aA (aB _ _ _ rfl),by omega,by omega,(B5.alloc B5.size _).alloc (by simp;omega) _,aA (aA xR)⟩).mono ?_
 rintro e w6 ⟨rfl,I6⟩;obtain ⟨G,hG9⟩:∃G,G=mE (nxF n ls gs) (2^n) f:=⟨_,rfl⟩
 have r6:w6.rowIs (w.heap.size+3) 140 16 (fvf G (E+n)):=I6.1.congr (fun t _=>by unfold fvf;rw [aA0,hG9]);have b6:=I6.2.2.2.2.1;have x6:=I6.2.2.2.2.2;have HG9:=hidK hG9;have e0:w6.cell? ⟨w.heap.size+3,0,none⟩=some (.float .f64 (fq (G 0) (E+n))):=r6.cell (by omega);have u0:w6.cell? ⟨w.heap.size+2,0,none⟩=some (.float .f64 0):=by rw [cell_of_row _ _ _ _ _ _ x6];rfl
 have v0:w6.frozen? ⟨w.heap.size+2,0,none⟩=false:=frozen_of_row _ _ _ _ _ x6;have e1:w6.cell? ⟨w.heap.size+3,1,none⟩=some (.float .f64 (fq (G 1) (E+n))):=r6.cell (by omega);have u1:w6.cell? ⟨w.heap.size+2,1,none⟩=some (.float .f64 0):=by rw [cell_of_row _ _ _ _ _ _ x6];rfl
 have v1:w6.frozen? ⟨w.heap.size+2,1,none⟩=false:=frozen_of_row _ _ _ _ _ x6;have e2:w6.cell? ⟨w.heap.size+3,2,none⟩=some (.float .f64 (fq (G 2) (E+n))):=r6.cell (by omega);have u2:w6.cell? ⟨w.heap.size+2,2,none⟩=some (.float .f64 0):=by rw [cell_of_row _ _ _ _ _ _ x6];rfl
 have v2:w6.frozen? ⟨w.heap.size+2,2,none⟩=false:=frozen_of_row _ _ _ _ _ x6;have e3:w6.cell? ⟨w.heap.size+3,3,none⟩=some (.float .f64 (fq (G 3) (E+n))):=r6.cell (by omega);have u3:w6.cell? ⟨w.heap.size+2,3,none⟩=some (.float .f64 0):=by rw [cell_of_row _ _ _ _ _ _ x6];rfl
 have v3:w6.frozen? ⟨w.heap.size+2,3,none⟩=false:=frozen_of_row _ _ _ _ _ x6;have e4:w6.cell? ⟨w.heap.size+3,4,none⟩=some (.float .f64 (fq (G 4) (E+n))):=r6.cell (by omega);have u4:w6.cell? ⟨w.heap.size+2,4,none⟩=some (.float .f64 0):=by rw [cell_of_row _ _ _ _ _ _ x6];rfl
 have v4:w6.frozen? ⟨w.heap.size+2,4,none⟩=false:=frozen_of_row _ _ _ _ _ x6;have e5:w6.cell? ⟨w.heap.size+3,5,none⟩=some (.float .f64 (fq (G 5) (E+n))):=r6.cell (by omega);have u5:w6.cell? ⟨w.heap.size+2,5,none⟩=some (.float .f64 0):=by rw [cell_of_row _ _ _ _ _ _ x6];rfl
 have v5:w6.frozen? ⟨w.heap.size+2,5,none⟩=false:=frozen_of_row _ _ _ _ _ x6;have e6:w6.cell? ⟨w.heap.size+3,6,none⟩=some (.float .f64 (fq (G 6) (E+n))):=r6.cell (by omega);have u6:w6.cell? ⟨w.heap.size+2,6,none⟩=some (.float .f64 0):=by rw [cell_of_row _ _ _ _ _ _ x6];rfl
 have v6:w6.frozen? ⟨w.heap.size+2,6,none⟩=false:=frozen_of_row _ _ _ _ _ x6;have e7:w6.cell? ⟨w.heap.size+3,7,none⟩=some (.float .f64 (fq (G 7) (E+n))):=r6.cell (by omega);have u7:w6.cell? ⟨w.heap.size+2,7,none⟩=some (.float .f64 0):=by rw [cell_of_row _ _ _ _ _ _ x6];rfl
 have v7:w6.frozen? ⟨w.heap.size+2,7,none⟩=false:=frozen_of_row _ _ _ _ _ x6;have e8:w6.cell? ⟨w.heap.size+3,8,none⟩=some (.float .f64 (fq (G 8) (E+n))):=r6.cell (by omega);have u8:w6.cell? ⟨w.heap.size+2,8,none⟩=some (.float .f64 0):=by rw [cell_of_row _ _ _ _ _ _ x6];rfl
 have v8:w6.frozen? ⟨w.heap.size+2,8,none⟩=false:=frozen_of_row _ _ _ _ _ x6;have e9:w6.cell? ⟨w.heap.size+3,9,none⟩=some (.float .f64 (fq (G 9) (E+n))):=r6.cell (by omega);have u9:w6.cell? ⟨w.heap.size+2,9,none⟩=some (.float .f64 0):=by rw [cell_of_row _ _ _ _ _ _ x6];rfl
 have v9:w6.frozen? ⟨w.heap.size+2,9,none⟩=false:=frozen_of_row _ _ _ _ _ x6;have e10:w6.cell? ⟨w.heap.size+3,10,none⟩=some (.float .f64 (fq (G 10) (E+n))):=r6.cell (by omega);have u10:w6.cell? ⟨w.heap.size+2,10,none⟩=some (.float .f64 0):=by rw [cell_of_row _ _ _ _ _ _ x6];rfl
 have v10:w6.frozen? ⟨w.heap.size+2,10,none⟩=false:=frozen_of_row _ _ _ _ _ x6;have e11:w6.cell? ⟨w.heap.size+3,11,none⟩=some (.float .f64 (fq (G 11) (E+n))):=r6.cell (by omega);have u11:w6.cell? ⟨w.heap.size+2,11,none⟩=some (.float .f64 0):=by rw [cell_of_row _ _ _ _ _ _ x6];rfl
 have v11:w6.frozen? ⟨w.heap.size+2,11,none⟩=false:=frozen_of_row _ _ _ _ _ x6;have e12:w6.cell? ⟨w.heap.size+3,12,none⟩=some (.float .f64 (fq (G 12) (E+n))):=r6.cell (by omega);have u12:w6.cell? ⟨w.heap.size+2,12,none⟩=some (.float .f64 0):=by rw [cell_of_row _ _ _ _ _ _ x6];rfl
 have v12:w6.frozen? ⟨w.heap.size+2,12,none⟩=false:=frozen_of_row _ _ _ _ _ x6;have e13:w6.cell? ⟨w.heap.size+3,13,none⟩=some (.float .f64 (fq (G 13) (E+n))):=r6.cell (by omega);have u13:w6.cell? ⟨w.heap.size+2,13,none⟩=some (.float .f64 0):=by rw [cell_of_row _ _ _ _ _ _ x6];rfl
 have v13:w6.frozen? ⟨w.heap.size+2,13,none⟩=false:=frozen_of_row _ _ _ _ _ x6;have e14:w6.cell? ⟨w.heap.size+3,14,none⟩=some (.float .f64 (fq (G 14) (E+n))):=r6.cell (by omega);have u14:w6.cell? ⟨w.heap.size+2,14,none⟩=some (.float .f64 0):=by rw [cell_of_row _ _ _ _ _ _ x6];rfl
 have v14:w6.frozen? ⟨w.heap.size+2,14,none⟩=false:=frozen_of_row _ _ _ _ _ x6;have e15:w6.cell? ⟨w.heap.size+3,15,none⟩=some (.float .f64 (fq (G 15) (E+n))):=r6.cell (by omega);have u15:w6.cell? ⟨w.heap.size+2,15,none⟩=some (.float .f64 0):=by rw [cell_of_row _ _ _ _ _ _ x6];rfl
 have v15:w6.frozen? ⟨w.heap.size+2,15,none⟩=false:=frozen_of_row _ _ _ _ _ x6;clear I6 r6 hG9 d0 d1 d2 d3 d4 d5 d6 d7 d8 d9 d10 d11 d12 d13 d14 d15 q0 q1 q2 q3;go_wp2
 exact aHR (b:=w.heap.size+2) (f:=G) (E:=E+n) (aM4 x6) (by rfl) ⟨by rw [HG9.out],aF6 b6 (show w.heap.size≤w.heap.size+2 by omega)⟩
theorem aL1 {w:World}{base g t m:Nat}{f:Nat→Value}{xs:List Nat}(h:w.rowIs g t m f) (hb:base≤g) (hm:m≤1000) (hl:xs.length=m) (hx:∀i,i<m→f i=.float .f64 (xs.getD i 0)) :
  w.ownsRow base t 1 (.slice (some ⟨g,0,none⟩) m m) m (pW xs):=by
 obtain ⟨c,hc,hs,hi⟩:=h;refine ⟨by simp [pW,hl],.inr ⟨g,m,c,rfl,hb,hc,Nat.le_refl _,by unfold maxLen;omega,by omega,?_⟩⟩
 apply List.ext_getElem?
 intro i
 by_cases h:i<m
 ·rw [List.getElem?_take,if_pos (by omega),Array.getElem?_toList,hi i h,hx i h]
  have:i<xs.length:=by omega
  simp [pW,this]
 ·rw [List.getElem?_eq_none (by simp;omega),List.getElem?_eq_none (by simp [pW];omega)]
def otf (n:Nat) (ls gs:List (Int×Int)) (os:List Int) (f:Nat→Nat) (s j k:Nat):Nat:=fF (2^n) (obF n ls gs os k) f s j
def ovf (g:Nat→Nat) (E k:Nat):Value:=.float .f64 (fq (g k) E)
def OtInv (w:World) (g bx e0:Nat) (n:Nat) (la ga oa:Option Addr) (lc gc oc:Nat) (ls gs:List (Int×Int)) (os:List Int) (f:Nat→Nat) (E s j:Nat) (W:World):Prop :=
 W.rowIs g 106 os.length (ovf (otf n ls gs os f s j) (E+n))∧W.heap[e0]?=some (.cells #[.int .i64 n,.slice la ls.length lc,.slice ga gs.length gc,.slice oa os.length oc] 34 (0,0))∧w.heap.size≤g∧bx≠g∧g<e0∧Below w.heap.size w W∧W.heap[bx]?=some (.cells #[.slice (some ⟨g,0,none⟩) os.length os.length] 74 (0,0))
theorem OtInv.below {w:World}{g bx e0 n:Nat}{la ga oa:Option Addr}{lc gc oc:Nat}{ls gs:List (Int×Int)}{os:List Int}{f:Nat→Nat}{E s j:Nat}{W W':World}(h:OtInv w g bx e0 n la ga oa lc gc oc ls gs os f E s j W) (hb:Below W.heap.size W W'):OtInv w g bx e0 n la ga oa lc gc oc ls gs os f E s j W':=by
 obtain ⟨h1,h2,h3,h4,h5,h6,h7⟩:=h
 exact ⟨h1.of_block (hb.block g h1.lt),(hb.block e0 (Array.getElem?_eq_some_iff.1 h2).1).trans h2,h3,h4,h5,h6.trans (hb.mono h6.size),(hb.block _ (Array.getElem?_eq_some_iff.1 h7).1).trans h7⟩
theorem OtInv.told {w:World}{g bx e0 n:Nat}{la ga oa:Option Addr}{lc gc oc:Nat}{ls gs:List (Int×Int)}{os:List Int}{f:Nat→Nat}{E s j o:Nat}{W W':World}(h:OtInv w g bx e0 n la ga oa lc gc oc ls gs os f E s j W) (ho:o=dZ os (vals n ls.length gs s j) os.length)
  (hr:W'.rowIs g 106 os.length (onF (otf n ls gs os f s j) o (f s) (E+n) os.length)) (hk:Keeps (fun q=>q=g) W W'):OtInv w g bx e0 n la ga oa lc gc oc ls gs os f E s (j+1) W':=by
 obtain ⟨h1,h2,h3,h4,h5,h6,h7⟩:=h;refine ⟨hr.congr (fun k hk=>?_),(hk.block e0 (Array.getElem?_eq_some_iff.1 h2).1 (show e0≠g by omega)).trans h2,h3,h4,h5,h6.trans (hk.below h6.size (fun q hq=>by rw [hq];exact h3)),(hk.block bx (Array.getElem?_eq_some_iff.1 h7).1 h4).trans h7⟩;unfold onF ovf otf;rw [uO,if_pos hk,ho]
 rfl
theorem aF7 (n E:Nat) (la ga oa:Option Addr) (lc gc oc:Nat) (ls gs:List (Int×Int)) (os:List Int) (f:Nat→Nat) (w:World) (h1:n≤4) (h2:ls.length≤4) (h3:gs.length≤30) (h4:os.length≤4) (hL:PairsAt w la ls) (hG:PairsAt w ga gs) (hO:IntsAt w oa os)
  (hg:∀i,i<gs.length→dG (n+ls.length+(i:Nat)) (gs.getD i (0,0))=true) (hl:∀i,i<ls.length→inB (ls.getD i (0,0)).1 (2*(n+ls.length+gs.length)+1)=true) (ho:∀i,i<os.length→inB (os.getD i 0) (2*(n+ls.length+gs.length)+1)=true)
  (hE:E+n≤100) (hfl:∀s,s<16→f s<9007199254740992) (hpl:∀s j k,s<16→j≤2^n→otf n ls gs os f s j k<9007199254740992) :
  Calls Tryz.prog 84 #[.agg #[.int .i64 n,.slice la ls.length lc,.slice ga gs.length gc,.slice oa os.length oc],.agg (eM f E)] w fun e w'=>∃g,e=.returned (.slice (some ⟨g,0,none⟩) os.length os.length)∧w.heap.size≤g∧w'.rowIs g 106 os.length (ovf (fun k=>allG (2^n) (obF n ls gs os k) f) (E+n))∧Below w.heap.size w w':=by
 have hmf:∀(fn:Fn) (first cap:Array Value) (w:World),(Instr.makeFunc fn first cap).run Tryz.prog w=.ok (.func fn first cap) w:=fun _ _ _ _=>rfl
 have hmk:∀W:World,(Instr.makeSlice 74 (.int .i64 (os.length:Nat)) (.int .i64 (os.length:Nat))).run Tryz.prog W=.ok (.slice (some ⟨W.heap.size,0,none⟩) os.length os.length) (W.alloc (.cells (madeCells #[.float .f64 0] os.length) 106)):=fun W=>run_make_row' (P:=Tryz.prog) 74 106 (.float .f64 0) 8 Tryz.underlying74 Tryz.infoFloat rfl .i64 .i64 os.length (by omega) (by omega) W
 obtain ⟨W5,hW5⟩:∃W5,W5=(((w.alloc (.cells #[.int .i64 n,.slice la ls.length lc,.slice ga gs.length gc,.slice oa os.length oc] 34)).alloc (.cells (eM f E) 140)).alloc (.cells (madeCells #[.float .f64 0] os.length) 106)).alloc (.cells #[.slice (some ⟨w.heap.size+2,0,none⟩) os.length os.length] 74):=⟨_,rfl⟩
 have s5:W5.heap.size=w.heap.size+4:=by rw [hW5];simp
 have B5:Below w.heap.size w W5:=by rw [hW5];exact ((((Below.refl _ _).alloc (Nat.le_refl _) _).alloc (by simp) _).alloc (by simp;omega) _).alloc (by simp;omega) _
 have xC:W5.heap[w.heap.size]?=some (.cells #[.int .i64 n,.slice la ls.length lc,.slice ga gs.length gc,.slice oa os.length oc] 34 (0,0)):=by rw [hW5];exact aA (aA (aA (aB _ _ _ rfl)))
 have xN:W5.heap[w.heap.size+1]?=some (.cells (eM f E) 140 (0,0)):=by rw [hW5];exact aA (aA (aB _ _ _ (by simp)))
 have xB:W5.heap[w.heap.size+3]?=some (.cells #[.slice (some ⟨w.heap.size+2,0,none⟩) os.length os.length] 74 (0,0)):=by rw [hW5];exact aB _ _ _ (by simp)
 have r5:W5.rowIs (w.heap.size+2) 106 os.length (ovf (otf n ls gs os f 0 0) (E+n)):=by
  rw [hW5];have h:=World.rowIs_made ((w.alloc (.cells #[.int .i64 n,.slice la ls.length lc,.slice ga gs.length gc,.slice oa os.length oc] 34)).alloc (.cells (eM f E) 140)) (.float .f64 0) os.length 106;simp only [Deep.nblk_alloc] at h
  exact (h.alloc _).congr (fun k _=>by unfold ovf otf fF;simp only [sumN,Nat.add_zero];rw [aB7])
 obtain ⟨q0,q1,q2,q3⟩:=aK xC;obtain ⟨d0,d1,d2,d3,d4,d5,d6,d7,d8,d9,d10,d11,d12,d13,d14,d15⟩:=oE xN
 go_enter Tryz.func84,Tryz.ntmps84
 go_upto_region 2 with fail
 try simp only [Nat.add_assoc,Nat.reduceAdd]
 rw [←hW5];clear hW5
 go_wp2_with fail
 refine (pV n E la ga oa lc gc oc ls gs os f (2^n) (nxF n ls gs) (fun s j=>dZ os (vals n ls.length gs s j) os.length) (.pointer (some ⟨w.heap.size+3,0,none⟩)) (OtInv w (w.heap.size+2) (w.heap.size+3) W5.heap.size n la ga oa lc gc oc ls gs os f E) W5 h1 rfl hE hfl
  (fun W s j hs hj I=>(qS n s j la ga oa lc gc oc ls gs os W h1 h2 h3 h4 hs (by have:=eY h1;omega) (hL.below I.2.2.2.2.2.1) (hG.below I.2.2.2.2.2.1) (hO.below I.2.2.2.2.2.1) hg hl ho).mono fun e w' h=>⟨h.1,I.below h.2⟩)
  (fun W s j hs hj hp I=>(aGB _ os.length (w.heap.size+3) (w.heap.size+2) (f s) (E+n) _ (otf n ls gs os f s j) W (kR _ h4) h4 (by rw [cell_of_row _ _ _ _ _ _ I.2.2.2.2.2.2];rfl) (by omega) (I.1.congr (fun k _=>by unfold ovf onF;rw [if_neg (Nat.not_lt_zero _),Nat.add_zero])) (fun k _=>hpl s j k hs (by omega)) (hfl s hs)).mono fun e w' h=>⟨h.1,I.told rfl h.2.1 h.2.2⟩)
  (fun W s hs I=>⟨I.1.congr (fun t _=>by unfold ovf otf;rw [uM]),I.2⟩) (fun W s hs h0 I=>⟨I.1.congr (fun t _=>by unfold ovf otf;rw [uN _ _ _ _ h0]),I.2⟩) (fun W s j I=>I.2.1)
  ⟨(r5.alloc _).alloc _,aA (aB _ _ _ rfl),by omega,by omega,by omega,(B5.alloc B5.size _).alloc (by simp;omega) _,aA (aA xB)⟩).mono ?_
 rintro e w6 ⟨rfl,I6⟩;have r6:=hidK (I6.1.congr (g:=ovf (fun k=>allG (2^n) (obF n ls gs os k) f) (E+n)) (fun t _=>by unfold ovf otf;rw [zZ]));have b6:=I6.2.2.2.2.2.1;have x6:w6.cell? ⟨w.heap.size+3,0,none⟩=some (.slice (some ⟨w.heap.size+2,0,none⟩) os.length os.length):=by rw [cell_of_row _ _ _ _ _ _ I6.2.2.2.2.2.2];rfl
 clear I6 d0 d1 d2 d3 d4 d5 d6 d7 d8 d9 d10 d11 d12 d13 d14 d15 q0 q1 q2 q3;go_wp2
 go_ret
 exact ⟨w.heap.size+2,rfl,by omega,r6.out,b6⟩
theorem aL8 {w:World}{b E:Nat}{f:Nat→Nat}(h:w.rowIs b 140 16 (fvf f E)):w.heap[b]?=some (.cells (eM f E) 140 (0,0)):=by
 obtain ⟨c,hc,hs,hi⟩:=h;have e:c=eM f E:=by
  apply Array.ext_getElem?
  intro i
  by_cases h:i<16
  ·rw [hi i h,qV f E i h]
   rfl
  ·rw [Array.getElem?_eq_none (by omega),Array.getElem?_eq_none (show 16≤i by omega)]
 rw [hc,e]
theorem aLT:fq 1 0=4607182418800017408:=by kernel_rfl
theorem aFB {w:World}{b S:Nat}{g:Nat→Nat}(h:w.rowIs b 140 16 (fvf (fun _=>0) 0)) (hg:∀t,g t=if t=S then 1 else 0):(w.setCell ⟨b,S,none⟩ (.float .f64 4607182418800017408)).heap[b]?=some (.cells (eM g 0) 140 (0,0)):=by
 refine aL8 ((h.set S _).congr (fun t _=>?_));unfold fvf;rw [hg t]
 by_cases e:t=S
 ·rw [if_pos e,if_pos e,aLT]
 ·rw [if_neg e,if_neg e]
theorem chOf (n m steps:Nat) (la ga oa:Option Addr) (lc gc oc:Nat) (ls gs:List (Int×Int)) (os:List Int) (w:World) (hst:steps=m+1) (h10:m≤9) (h1:n≤4) (h2:ls.length≤4) (h3:gs.length≤30) (h4:os.length≤4) (hL:PairsAt w la ls) (hG:PairsAt w ga gs) (hO:IntsAt w oa os)
  (hg:∀i,i<gs.length→dG (n+ls.length+(i:Nat)) (gs.getD i (0,0))=true) (hl:∀i,i<ls.length→inB (ls.getD i (0,0)).1 (2*(n+ls.length+gs.length)+1)=true) (ho:∀i,i<os.length→inB (os.getD i 0) (2*(n+ls.length+gs.length)+1)=true)
  (hinit:∀i,i<ls.length→inB (ls.getD i (0,0)).2 1=true) :
  Calls Tryz.prog 59 #[.agg #[.int .i64 n,.slice la ls.length lc,.slice ga gs.length gc,.slice oa os.length oc],.int .i64 steps] w fun e w'=>∃g,e=.returned (.slice (some ⟨g,0,none⟩) os.length os.length)∧w.heap.size≤g∧w'.rowIs g 106 os.length (ovf (chN n ls gs os m) (n*steps))∧Below w.heap.size w w':=by
 obtain ⟨W2,hW2⟩:∃W2,W2=(w.alloc (.cells #[.int .i64 n,.slice la ls.length lc,.slice ga gs.length gc,.slice oa os.length oc] 34)).alloc (.cells #[.float .f64 0,.float .f64 0,.float .f64 0,.float .f64 0,.float .f64 0,.float .f64 0,.float .f64 0,.float .f64 0,.float .f64 0,.float .f64 0,.float .f64 0,.float .f64 0,.float .f64 0,.float .f64 0,.float .f64 0,.float .f64 0] 140):=⟨_,rfl⟩
 have s2:W2.heap.size=w.heap.size+2:=by rw [hW2];simp
 have B2:Below w.heap.size w W2:=by rw [hW2];exact ((Below.refl _ _).alloc (Nat.le_refl _) _).alloc (by simp) _
 have xC:W2.heap[w.heap.size]?=some (.cells #[.int .i64 n,.slice la ls.length lc,.slice ga gs.length gc,.slice oa os.length oc] 34 (0,0)):=by rw [hW2];exact aA (aB _ _ _ rfl)
 have r2:W2.rowIs (w.heap.size+1) 140 16 (fvf (fun _=>0) 0):=by
  rw [hW2];have h:=aKA (w.alloc (.cells #[.int .i64 n,.slice la ls.length lc,.slice ga gs.length gc,.slice oa os.length oc] 34)) 0
  simpa using h
 obtain ⟨q0,q1,q2,q3⟩:=aK xC;have hw1:IntKind.i64.wrap ((steps:Int) - 1)=(m:Int):=by rw [cZ];omega
 have hsf:=@fD Tryz.prog;have hst16:=gK (ls:=ls) h2;have HINIT:=hidK hinit;have HST:=hidK hst;clear hst
 go_enter Tryz.func59,Tryz.ntmps59
 go_upto_region 2 with fail
 rw [←hW2];clear hW2
 go_wp2_with fail
 refine (nN _ la lc _ _ ls W2 h2 (hL.below B2) HINIT.out).mono ?_;rintro e w3 ⟨rfl,b3⟩;have x3:=(b3.block w.heap.size (by omega)).trans xC;have r3:=r2.of_block (b3.block (w.heap.size+1) (by omega));have B3:Below w.heap.size w w3:=B2.trans (b3.mono B2.size);obtain ⟨S,hS⟩:∃S,S=cK ls ls.length:=⟨_,rfl⟩
 rw [←hS] at hst16 ⊢;have c3:w3.cell? ⟨w.heap.size+1,S,none⟩=some (.float .f64 0):=by
  have h:=r3.cell hst16;unfold fvf at h;rw [aB7] at h
  exact h
 have g3:=r3.frozen S;have R0:=hidK (aFB (S:=S) (g:=chW n ls gs 0) r3 (fun t=>by rw [aCL,hS]));have C0:=hidK ((Deep.blk_setCell_other w3 ⟨w.heap.size+1,S,none⟩ (.float .f64 4607182418800017408) w.heap.size (show w.heap.size≠w.heap.size+1 by omega)).trans x3);have E0:=hidK (B3.setCell (p:=⟨w.heap.size+1,S,none⟩) (show w.heap.size≤w.heap.size+1 by omega) (.float .f64 4607182418800017408));have hSI:(S:Int)<16:=by omega
 have hS0:(0:Int)≤(S:Int):=by omega
 clear q0 q1 q2 q3 r2 r3 xC x3 hS b3 B3
 go_wp2_with fail
 go_loopw [11] (fun i wr=>∃k:Nat,k≤m∧i=.int .i64 k∧wr.heap[w.heap.size+1]?=some (.cells (eM (chW n ls gs k) (n*k)) 140 (0,0))∧wr.heap[w.heap.size]?=some (.cells #[.int .i64 n,.slice la ls.length lc,.slice ga gs.length gc,.slice oa os.length oc] 34 (0,0))∧Below w.heap.size w wr) (fun i _=>m - (intOf i).toNat)
 case atStart=>exact ⟨0,Nat.zero_le _,rfl,R0.out,C0.out,E0.out⟩
 case round =>
  clear R0 C0 E0 c3 g3;obtain ⟨k,hk,rfl,bN,bC,bel⟩:=hrel;have zB:w.heap.size+1<wr.heap.size:=(Array.getElem?_eq_some_iff.1 bN).1;obtain ⟨f,hf⟩:∃f,f=chW n ls gs k:=⟨_,rfl⟩
  obtain ⟨E,hE⟩:∃E,E=n*k:=⟨_,rfl⟩
  rw [←hf,←hE] at bN;have hE9:E+n≤100:=by
   have h:=Nat.mul_le_mul h1 (show k+1≤10 by omega);rw [Nat.mul_succ,←hE] at h
   omega
  have hfl:∀s,s<16→f s<9007199254740992:=fun s hs=>by
   have h:=aF8 (n:=n) (gs:=gs) h1 h2 (k:=k) (t:=s) (by omega) hs;rw [hf];omega
  have HF:=hidK hf;have HE:=hidK hE;have HFL:=hidK hfl;clear hf hE hfl;obtain ⟨q0,q1,q2,q3⟩:=aK bC;obtain ⟨d0,d1,d2,d3,d4,d5,d6,d7,d8,d9,d10,d11,d12,d13,d14,d15⟩:=oE bN
  by_cases hk2:k<m
  ·have hkI:(k:Int)<(m:Int):=by omega
   have call:=aHS n E la ga oa lc gc oc ls gs os f wr h1 h2 h3 h4 (hL.below bel) (hG.below bel) (hO.below bel) hg hl ho hE9 HFL.out (fun s j t hs hj=>by
    have h:=uQ (gs:=gs) h1 h2 (k:=k) (by omega) hs hj t;rw [←HF.out] at h
    omega)
   obtain ⟨G,hG9⟩:∃G,G=mE (nxF n ls gs) (2^n) f:=⟨_,rfl⟩
   rw [←hG9] at call;have HG9:=hidK hG9;clear hG9
   go_wp2_with fail
   refine call.mono ?_;rintro e w5 ⟨rfl,b5⟩;have y5:=(b5.block (w.heap.size+1) zB).trans bN;have x5:=(b5.block w.heap.size (by omega)).trans bC;have b9:Below w.heap.size w w5:=bel.trans (b5.mono bel.size);clear d0 d1 d2 d3 d4 d5 d6 d7 d8 d9 d10 d11 d12 d13 d14 d15 q0 q1 q2 q3 call bN bC;have u0:w5.cell? ⟨w.heap.size+1,0,none⟩=some (.float .f64 (fq (f 0) E)):=(by rw [cell_of_row _ _ _ _ _ _ y5];rfl)
   have v0:w5.frozen? ⟨w.heap.size+1,0,none⟩=false:=frozen_of_row _ _ _ _ _ y5;have u1:w5.cell? ⟨w.heap.size+1,1,none⟩=some (.float .f64 (fq (f 1) E)):=(by rw [cell_of_row _ _ _ _ _ _ y5];rfl)
   have v1:w5.frozen? ⟨w.heap.size+1,1,none⟩=false:=frozen_of_row _ _ _ _ _ y5;have u2:w5.cell? ⟨w.heap.size+1,2,none⟩=some (.float .f64 (fq (f 2) E)):=(by rw [cell_of_row _ _ _ _ _ _ y5];rfl)
   have v2:w5.frozen? ⟨w.heap.size+1,2,none⟩=false:=frozen_of_row _ _ _ _ _ y5;have u3:w5.cell? ⟨w.heap.size+1,3,none⟩=some (.float .f64 (fq (f 3) E)):=(by rw [cell_of_row _ _ _ _ _ _ y5];rfl)
   have v3:w5.frozen? ⟨w.heap.size+1,3,none⟩=false:=frozen_of_row _ _ _ _ _ y5;have u4:w5.cell? ⟨w.heap.size+1,4,none⟩=some (.float .f64 (fq (f 4) E)):=(by rw [cell_of_row _ _ _ _ _ _ y5];rfl)
   have v4:w5.frozen? ⟨w.heap.size+1,4,none⟩=false:=frozen_of_row _ _ _ _ _ y5;have u5:w5.cell? ⟨w.heap.size+1,5,none⟩=some (.float .f64 (fq (f 5) E)):=(by rw [cell_of_row _ _ _ _ _ _ y5];rfl)
   have v5:w5.frozen? ⟨w.heap.size+1,5,none⟩=false:=frozen_of_row _ _ _ _ _ y5;have u6:w5.cell? ⟨w.heap.size+1,6,none⟩=some (.float .f64 (fq (f 6) E)):=(by rw [cell_of_row _ _ _ _ _ _ y5];rfl)
   have v6:w5.frozen? ⟨w.heap.size+1,6,none⟩=false:=frozen_of_row _ _ _ _ _ y5;have u7:w5.cell? ⟨w.heap.size+1,7,none⟩=some (.float .f64 (fq (f 7) E)):=(by rw [cell_of_row _ _ _ _ _ _ y5];rfl)
   have v7:w5.frozen? ⟨w.heap.size+1,7,none⟩=false:=frozen_of_row _ _ _ _ _ y5;have u8:w5.cell? ⟨w.heap.size+1,8,none⟩=some (.float .f64 (fq (f 8) E)):=(by rw [cell_of_row _ _ _ _ _ _ y5];rfl)
   have v8:w5.frozen? ⟨w.heap.size+1,8,none⟩=false:=frozen_of_row _ _ _ _ _ y5;have u9:w5.cell? ⟨w.heap.size+1,9,none⟩=some (.float .f64 (fq (f 9) E)):=(by rw [cell_of_row _ _ _ _ _ _ y5];rfl)
   have v9:w5.frozen? ⟨w.heap.size+1,9,none⟩=false:=frozen_of_row _ _ _ _ _ y5;have u10:w5.cell? ⟨w.heap.size+1,10,none⟩=some (.float .f64 (fq (f 10) E)):=(by rw [cell_of_row _ _ _ _ _ _ y5];rfl)
   have v10:w5.frozen? ⟨w.heap.size+1,10,none⟩=false:=frozen_of_row _ _ _ _ _ y5;have u11:w5.cell? ⟨w.heap.size+1,11,none⟩=some (.float .f64 (fq (f 11) E)):=(by rw [cell_of_row _ _ _ _ _ _ y5];rfl)
   have v11:w5.frozen? ⟨w.heap.size+1,11,none⟩=false:=frozen_of_row _ _ _ _ _ y5;have u12:w5.cell? ⟨w.heap.size+1,12,none⟩=some (.float .f64 (fq (f 12) E)):=(by rw [cell_of_row _ _ _ _ _ _ y5];rfl)
   have v12:w5.frozen? ⟨w.heap.size+1,12,none⟩=false:=frozen_of_row _ _ _ _ _ y5;have u13:w5.cell? ⟨w.heap.size+1,13,none⟩=some (.float .f64 (fq (f 13) E)):=(by rw [cell_of_row _ _ _ _ _ _ y5];rfl)
   have v13:w5.frozen? ⟨w.heap.size+1,13,none⟩=false:=frozen_of_row _ _ _ _ _ y5;have u14:w5.cell? ⟨w.heap.size+1,14,none⟩=some (.float .f64 (fq (f 14) E)):=(by rw [cell_of_row _ _ _ _ _ _ y5];rfl)
   have v14:w5.frozen? ⟨w.heap.size+1,14,none⟩=false:=frozen_of_row _ _ _ _ _ y5;have u15:w5.cell? ⟨w.heap.size+1,15,none⟩=some (.float .f64 (fq (f 15) E)):=(by rw [cell_of_row _ _ _ _ _ _ y5];rfl)
   have v15:w5.frozen? ⟨w.heap.size+1,15,none⟩=false:=frozen_of_row _ _ _ _ _ y5;have X9:Hid (((((((((((((((((w5.setCell ⟨w.heap.size+1,0,none⟩ (.float .f64 (fq (G 0) (E+n)))).setCell ⟨w.heap.size+1,1,none⟩ (.float .f64 (fq (G 1) (E+n)))).setCell ⟨w.heap.size+1,2,none⟩ (.float .f64 (fq (G 2) (E+n)))).setCell ⟨w.heap.size+1,3,none⟩ (.float .f64 (fq (G 3) (E+n)))).setCell ⟨w.heap.size+1,4,none⟩ (.float .f64 (fq (G 4) (E+n)))).setCell ⟨w.heap.size+1,5,none⟩ (.float .f64 (fq (G 5) (E+n)))).setCell ⟨w.heap.size+1,6,none⟩ (.float .f64 (fq (G 6) (E+n)))).setCell ⟨w.heap.size+1,7,none⟩ (.float .f64 (fq (G 7) (E+n)))).setCell ⟨w.heap.size+1,8,none⟩ (.float .f64 (fq (G 8) (E+n)))).setCell ⟨w.heap.size+1,9,none⟩ (.float .f64 (fq (G 9) (E+n)))).setCell ⟨w.heap.size+1,10,none⟩ (.float .f64 (fq (G 10) (E+n)))).setCell ⟨w.heap.size+1,11,none⟩ (.float .f64 (fq (G 11) (E+n)))).setCell ⟨w.heap.size+1,12,none⟩ (.float .f64 (fq (G 12) (E+n)))).setCell ⟨w.heap.size+1,13,none⟩ (.float .f64 (fq (G 13) (E+n)))).setCell ⟨w.heap.size+1,14,none⟩ (.float .f64 (fq (G 14) (E+n)))).setCell ⟨w.heap.size+1,15,none⟩ (.float .f64 (fq (G 15) (E+n)))).heap[w.heap.size+1]?=some (.cells (eM (chW n ls gs (k+1)) (n*(k+1))) 140 (0,0))):=by
    refine hidK (show _=_ from ?_);rw [show n*(k+1)=E+n by rw [Nat.mul_succ,HE.out],show chW n ls gs (k+1)=G by rw [HG9.out,HF.out];rfl]
    exact aM4 y5
   simp only [eM];go_wp2
   go_roundw
   case rel=>exact ⟨k+1,by omega,by go_num,X9.out,aL0 x5 (show w.heap.size≠w.heap.size+1 by omega),aF6 b9 (show w.heap.size≤w.heap.size+1 by omega)⟩
   case measure=>simp [intOf];omega
  ·have hkI:¬((k:Int)<(m:Int)):=by omega
   have HK:=hidK (show k=m by omega);have call:=aF7 n E la ga oa lc gc oc ls gs os f wr h1 h2 h3 h4 (hL.below bel) (hG.below bel) (hO.below bel) hg hl ho hE9 HFL.out (fun s j i hs hj=>by
    have h:=oM (gs:=gs) (g:=obF n ls gs os i) (fun s j=>aG6 i s j) h1 h2 (k:=k) (by omega) hs hj;rw [←HF.out] at h;unfold otf
    omega)
   go_wp2_with fail
   refine call.mono ?_;rintro e w5 ⟨g,rfl,hgB,r5,b5⟩;clear call d0 d1 d2 d3 d4 d5 d6 d7 d8 d9 d10 d11 d12 d13 d14 d15 q0 q1 q2 q3;have R5:=hidK (r5.congr (g:=ovf (chN n ls gs os m) (n*steps)) (fun i _=>by
    unfold ovf chN;rw [HST.out,Nat.mul_succ,←HK.out,←HE.out,←HF.out]))
   clear r5;go_wp2
   go_ret
   exact ⟨g,rfl,by have:=bel.size;omega,R5.out,bel.trans (b5.mono bel.size)⟩
end Go.Proofs.YtgpaajdfkekjiaaGreatDoor
