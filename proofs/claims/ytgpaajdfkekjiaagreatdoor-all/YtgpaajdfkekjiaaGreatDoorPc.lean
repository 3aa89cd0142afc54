/-
  A part of the proof of the statement All: texts of ours, made small by program (blanks, names).
-/
import Derived.Test.YtgpaajdfkekjiaaGreatDoorPb
import Derived.Deep.OwnRows
import Derived.Test.YtgpaajdfkekjiaaGreatDoorPa
namespace Go.Proofs.YtgpaajdfkekjiaaGreatDoor
set_option maxHeartbeats 8000000
set_option maxRecDepth 100000
open Go.RowKit
def told (n:Nat) (ls gs:List (Int×Int)) (os ins:List Int) (k:Nat):List Nat:=(List.range ins.length).map fun i=>if i<k then wS n ls gs os ins i else 0
def outs (n:Nat) (ls gs:List (Int×Int)) (os ins:List Int):List Nat:=(List.range ins.length).map (wS n ls gs os ins)
theorem aJG (n:Nat) (ls gs:List (Int×Int)) (os ins:List Int):told n ls gs os ins ins.length=outs n ls gs os ins:=by
 unfold told outs
 apply List.map_congr_left
 intro i hi;rw [if_pos (List.mem_range.1 hi)]
theorem aH5 (n:Nat) (ls gs:List (Int×Int)) (os ins:List Int):told n ls gs os ins 0=List.replicate ins.length 0:=by
 unfold told
 apply List.ext_getElem<;>simp
theorem aH4 (n:Nat) (ls gs:List (Int×Int)) (os ins:List Int) (k:Nat):aP (told n ls gs os ins (k+1))=(aP (told n ls gs os ins k)).set k (.int .i64 ((wS n ls gs os ins k:Nat):Int)):=by
 unfold told aP
 apply List.ext_getElem
 ·simp
 ·intro i h1 h2
  simp only [List.getElem_map,List.getElem_range,List.getElem_set]
  by_cases h:k=i
  ·subst h;simp
  ·rw [if_neg h]
   have:i<k+1↔i<k:=by omega
   simp only [this]
theorem vF (n:Nat) (ls gs:List (Int×Int)) (ins:List Int) (k:Nat) (h:ls.length≤4):fE n ls gs ins k<16:=by
 have hp:(2:Nat)^ls.length≤2^4:=Nat.pow_le_pow_right (by omega) h
 cases k with
 | zero=>have:=vD ls ls.length;simp only [fE];omega
 | succ k=>have:=zN ls (vals n ls.length gs (fE n ls gs ins k) (ins.getD k 0).toNat) ls.length;simp only [fE];omega
theorem zD {n:Nat}{ins:List Int}{k:Nat}(h1:n≤4) (hi:dU n ins=true) (hk:k<ins.length):∃X:Nat,ins.getD k 0=X∧X<16:=by
 have h:=(of_decide_eq_true hi).2 k hk;have hb:=dS h;obtain ⟨X,hX⟩:=Int.eq_ofNat_of_zero_le hb.1;refine ⟨X,hX,?_⟩;have h5:n=0∨n=1∨n=2∨n=3∨n=4:=by omega
 have h6:((2:Int)^n)≤16:=by rcases h5 with h | h | h | h | h<;>subst h<;>decide
 omega
theorem aFU (base N:Nat) (w:World) (h2:N≤1000) (hb:base≤w.heap.size) :
  (w.alloc (.cells (madeCells #[.int .i64 0] N) 3)).ownsRow base 3 1 (.slice (some ⟨w.heap.size,0,none⟩) N N) N (aP (List.replicate N 0)):=by
 refine ⟨by simp [aP],.inr ⟨w.heap.size,N,_,rfl,hb,heap_alloc_new w _,Nat.le_refl _,by unfold maxLen;omega,by rw [size_madeCells];omega,?_⟩⟩;rw [toList_madeCells_one]
 simp [aP]
theorem aH2 {w:World}{base n:Nat}{ls gs:List (Int×Int)}{os ins:List Int}{G k j:Nat}(h:w.ownsRow base 3 1 (.slice (some ⟨G,0,none⟩) ins.length ins.length) ins.length (aP (told n ls gs os ins j))) (hk:k<ins.length) :
  ∃u,w.cell? ⟨G,k,none⟩=some u:=by
 rw [h.cellAt k (by omega)];have hl:(aP (told n ls gs os ins j)).length=ins.length:=by simp [aP,told]
 exact ⟨_,List.getElem?_eq_getElem (by omega)⟩
theorem aM3 (n:Nat) (la ga oa ia:Option Addr) (lc gc oc ic:Nat) (ls gs:List (Int×Int)) (os ins:List Int) (w:World) (hm:ins.length≤maxLen)
  (hL:PairsAt w la ls) (hG:PairsAt w ga gs) (hO:IntsAt w oa os) (hI:IntsAt w ia ins) (hr:aG n ls gs os=true) (hi:dU n ins=true) :
  Calls Tryz.prog 24 #[.agg #[.int .i64 n,.slice la ls.length lc,.slice ga gs.length gc,.slice oa os.length oc],.slice ia ins.length ic] w fun e w' =>
   ∃g,e=.returned (.tuple #[.slice (some ⟨g,0,none⟩) ins.length ins.length,.int .i64 0])∧w'.ownsRow w.heap.size 3 1 (.slice (some ⟨g,0,none⟩) ins.length ins.length) ins.length (aP (outs n ls gs os ins))∧Below w.heap.size w w':=by
 have bel0:Below w.heap.size w (w.alloc (.cells #[.int .i64 n,.slice la ls.length lc,.slice ga gs.length gc,.slice oa os.length oc] 34)):=(Below.refl _ _).alloc (Nat.le_refl _) _;have hL0:=hL.below bel0;have hG0:=hG.below bel0;have hO0:=hO.below bel0;have hI0:=hI.below bel0;obtain ⟨⟨_,hn4,hl4,ho4,hg30⟩,hokl,hokg,hoko⟩:=cD hr;have hn4:n≤4:=by omega
 have h50:ins.length≤50:=(of_decide_eq_true hi).1;obtain ⟨i0,hi0,hz0,hz1,hz2⟩:=info_parts Tryz.infoInt;have hmk:=fun w=>run_make_row (P:=Tryz.prog) 32 3 i0 (.int .i64 0) Tryz.underlying32 hi0 hz0 hz1 rfl .i64 .i64 ins.length (by rw [hz2];omega) (by omega) w
 have hinit:∀i,i<ls.length→inB (ls.getD i (0,0)).2 1=true:=fun i h=>by have:=hokl i h;simp only [cJ,Bool.and_eq_true] at this;exact this.2
 have hnext:∀i,i<ls.length→inB (ls.getD i (0,0)).1 (2*(n+ls.length+gs.length)+1)=true:=fun i h=>by have:=hokl i h;simp only [cJ,Bool.and_eq_true] at this;exact this.1
 go_enter Tryz.func24,Tryz.ntmps24
 go_wp2_with (first | (go_at_call 37;refine (cI _ hL0 hG0 hO0 hr).mono ?_;rintro e w1 ⟨rfl,b1⟩;have c1:=(bZ b1).1;have y1:w.heap.size<w1.heap.size:=Nat.lt_of_lt_of_le (by simp) b1.size) | (go_at_call 49;refine (lN _ hn4 hm (hI0.below b1) hi).mono ?_;rintro e w2 ⟨rfl,b2⟩;have c2:=(bZ b2).1;have y2:w.heap.size<w2.heap.size:=Nat.lt_of_lt_of_le y1 b2.size;have hL2:=(hL0.below b1).below b2;have bn2:Below w2.heap.size w2 (w2.alloc (.cells (madeCells #[.int .i64 0] ins.length) 3)):=(Below.refl _ _).alloc (Nat.le_refl _) _) | (go_at_call 50;refine (nN _ la lc _ _ ls _ hl4 (hL2.below bn2) hinit).mono ?_;rintro e w3 ⟨rfl,b3⟩))
 have qq:∀j,w3.cell? ⟨w.heap.size,j,none⟩=(w.alloc (.cells #[.int .i64 n,.slice la ls.length lc,.slice ga gs.length gc,.slice oa os.length oc] 34)).cell? ⟨w.heap.size,j,none⟩:=fun j=>by
  rw [(bZ b3).1 _ _ (by simp;omega),World.cell?_alloc_past _ _ _ y2,c2 _ _ y1,c1 _ _ (by simp)]
 have bel3:Below w.heap.size w w3:=(((bel0.trans (b1.mono (by simp))).trans (b2.mono (by omega))).trans (bn2.mono (by omega))).trans (b3.mono (by simp;omega));have z3:w.heap.size<w3.heap.size:=Nat.lt_of_lt_of_le y2 (Nat.le_trans (by simp) b3.size);have own3:w3.ownsRow (w.heap.size+1) 3 1 (.slice (some ⟨w2.heap.size,0,none⟩) ins.length ins.length) ins.length (aP (told n ls gs os ins 0)):=by
  rw [aH5];exact zU (aFU (w.heap.size+1) ins.length w2 (by omega) (by omega)) b3
 obtain ⟨G,hGG⟩:∃G,G=w2.heap.size:=⟨_,rfl⟩
 have q0:w3.cell? ⟨w.heap.size,0,none⟩=some (.int .i64 n):=by rw [qq];simp
 have q1:w3.cell? ⟨w.heap.size,1,none⟩=some (.slice la ls.length lc):=by rw [qq];simp
 have q2:w3.cell? ⟨w.heap.size,2,none⟩=some (.slice ga gs.length gc):=by rw [qq];simp
 have q3:w3.cell? ⟨w.heap.size,3,none⟩=some (.slice oa os.length oc):=by rw [qq];simp
 clear qq c1 c2 b1 b2 b3 bn2 hL2 bel0 hL0 hG0 hO0 hI0 hmk;rw [←hGG] at own3;rw [←hGG];clear hGG
 go_loopw [7,8,9,24] (fun st _ _ i wr=>∃k:Nat,k≤ins.length∧i=.int .i64 k∧st=.int .i64 (fE n ls gs ins k:Nat)∧
   wr.ownsRow (w.heap.size+1) 3 1 (.slice (some ⟨G,0,none⟩) ins.length ins.length) ins.length (aP (told n ls gs os ins k))∧
   wr.cell? ⟨w.heap.size,0,none⟩=some (.int .i64 n)∧wr.cell? ⟨w.heap.size,1,none⟩=some (.slice la ls.length lc)∧wr.cell? ⟨w.heap.size,2,none⟩=some (.slice ga gs.length gc)∧wr.cell? ⟨w.heap.size,3,none⟩=some (.slice oa os.length oc)∧
   w.heap.size<wr.heap.size∧Below w.heap.size w wr)
  (fun _ _ _ i _=>ins.length - (intOf i).toNat)
 case atStart=>exact ⟨0,Nat.zero_le _,rfl,rfl,own3,q0,q1,q2,q3,z3,bel3⟩
 case round =>
  clear own3 q0 q1 q2 q3 z3 bel3;obtain ⟨k,hk,rfl,rfl,hown,q0,q1,q2,q3,hz,hbel⟩:=hrel
  by_cases hk2:k<ins.length
  ·obtain ⟨b,off,rfl,hlt,hc⟩:=hI.get (by omega)
   obtain ⟨X,hX,hX16⟩:=zD hn4 hi hk2;have hcy:wr.cell? ⟨b,off+k,none⟩=some (.int .i64 (X:Int)):=(by rw [←hX];exact (hbel.cell (p:=⟨b,_,none⟩) hlt).trans (hc k hk2))
   obtain ⟨S,hS⟩:∃S,S=fE n ls gs ins k:=⟨_,rfl⟩
   have hS16:S<16:=(by rw [hS];exact vF n ls gs ins k hl4)
   have HN:Hid (dB ls (vals n ls.length gs S X) ls.length=fE n ls gs ins (k+1)):=by
    show _=dB ls (vals n ls.length gs (fE n ls gs ins k) (ins.getD k 0).toNat) ls.length
    rw [hS,hX];rfl
   have HO:Hid (dZ os (vals n ls.length gs S X) os.length=wS n ls gs os ins k):=by
    unfold Hid wS;rw [hS,hX];rfl
   rw [←hS];have hLr:=hL.below hbel;have hGr:=hG.below hbel;have hOr:=hO.below hbel;clear hS hX hc
   go_wp2_with (go_at_call 51;refine (qS n S X la ga oa lc gc oc ls gs os _ hn4 hl4 hg30 ho4 hS16 hX16 hLr hGr hOr hokg hnext hoko).mono ?_;rintro e w4 ⟨rfl,b4⟩;have hown4:=zU hown b4;have hf4:=hown4.frozenAt k;obtain ⟨u4,hc4⟩:=aH2 hown4 hk2)
   have p0:=((bZ b4).1 _ 0 hz).trans q0;have p1:=((bZ b4).1 _ 1 hz).trans q1;have p2:=((bZ b4).1 _ 2 hz).trans q2;have p3:=((bZ b4).1 _ 3 hz).trans q3;have z4:w.heap.size<w4.heap.size:=Nat.lt_of_lt_of_le hz b4.size;have bel4:Below w.heap.size w w4:=hbel.trans (b4.mono (by omega));have hG1:=(hown4.lt G rfl).1;obtain ⟨own5,grow5⟩:=hown4.stored k (.int .i64 (dZ os (vals n ls.length gs S X) os.length:Nat));rw [HO.out,←aH4,←HO.out] at own5
   go_roundw
   case rel=>exact ⟨k+1,by omega,by go_num,congrArg (fun x:Nat=>Value.int .i64 (x:Int)) HN.out,own5,by rw [grow5.cell_far ⟨w.heap.size,0,none⟩ z4 (by simp;omega)];exact p0,by rw [grow5.cell_far ⟨w.heap.size,1,none⟩ z4 (by simp;omega)];exact p1,by rw [grow5.cell_far ⟨w.heap.size,2,none⟩ z4 (by simp;omega)];exact p2,by rw [grow5.cell_far ⟨w.heap.size,3,none⟩ z4 (by simp;omega)];exact p3,Nat.lt_of_lt_of_le z4 grow5.size,bel4.grown grow5 (by omega) (fun k hk=>by simp at hk;omega)⟩
   case measure=>simp [intOf];omega
  ·obtain rfl:k=ins.length:=by omega
   go_wp2
   go_ret2
   exact ⟨G,rfl,by rw [←aJG];exact hown.lower (by omega),hbel⟩
theorem lP {P:Program}(w:World) (dT sT ty elem:TypeId) (size g dLen dCap:Nat) (a:Option Addr) (sLen sCap:Nat) (cur:List Value) (t:TypeId) (cs:List Value)
  (hu:P.underlying dT=some (.slice elem)) (hs:(P.info? elem).map (·.size)=some size)
  (hg:w.heap[g]?=some (.cells cur.toArray t (0,0))) (hle:sLen≤dLen) (hn:cs.length=sLen*size)
  (hsrc:0<sLen→∃ad,a=some ad∧∀j v,cs[j]?=some v→w.cell? (ad.add j)=some v) (hfit:cs.length≤cur.length) (h1:∀v∈cs,v.oneCell'=true) :
  ∃w',(Builtin.copy_ #[dT,sT] ty #[.slice (some ⟨g,0,none⟩) dLen dCap,.slice a sLen sCap]).run P w=.ok (.int .i64 (sLen:Nat)) w' ∧
   w'.heap[g]?=some (.cells (splice cur 0 cs).toArray t (0,0))∧∀B w0,Below B w0 w→B≤g→Below B w0 w':=by
 have hmin:Nat.min sLen dLen=sLen:=Nat.min_eq_left hle
 cases hq:P.info? elem with
 | none=>simp [hq] at hs
 | some i =>
  have hi:i.size=size:=by simpa [hq] using hs
  by_cases h0:sLen=0
  ·subst h0
   have hcs:cs=[]:=List.eq_nil_of_length_eq_zero (by omega);subst hcs;have hl:∀(x:Addr),(loadCells x 0).run P w=.ok #[] w:=fun x=>by simpa using run_loadCells_list (P:=P) w x [] (by simp)
   refine ⟨w,?_,by simpa [splice] using hg,fun B w0 h _=>h⟩
   cases a<;>simp [Builtin.copy_,run_underlying hu,Builtin.lenOf,Builtin.firstCells,sizeOf,typeInfo,hq,hmin,storeCells,hl,goInt]
  ·obtain ⟨ad,rfl,hc⟩:=hsrc (by omega)
   have hl:=run_loadCells_list (P:=P) w ad cs hc;have hst:=run_storeCells_at P g 0 t cs 0 cur.toArray w hg (by simpa using hfit) h1;refine ⟨w.setRow g (splice cur 0 cs).toArray,?_,setRow_heap w g _ _ t _ hg,fun B w0 h hB=>below_setRow h hB _⟩;rw [hn] at hl;simp only [Nat.zero_add,List.take_zero,List.nil_append] at hst
   simp [Builtin.copy_,run_underlying hu,Builtin.lenOf,Builtin.firstCells,sizeOf,typeInfo,hq,hi,hmin,hl,hst,goInt,splice]
def lJ (xs:List Int):List Value:=xs.map fun x=>.int .i64 x
theorem aAN {xs:List Int}{i:Nat}(h:i<xs.length):(lJ xs)[i]?=some (.int .i64 (xs.getD i 0)):=by simp [lJ,h]
theorem aGY {w:World}{b off:Nat}{xs:List Int}(hc:∀i,i<xs.length→w.cell? ⟨b,off+i,none⟩=some (.int .i64 (xs.getD i 0))) :
  ∀j v,(lJ xs)[j]?=some v→w.cell? ((⟨b,off,none⟩:Addr).add j)=some v:=by
 intro j v hv;have hadd:(⟨b,off,none⟩:Addr).add j=⟨b,off+j,none⟩:=by unfold Addr.add;split<;>simp_all
 have hj:j<xs.length:=by
  rcases Nat.lt_or_ge j xs.length with h | h
  ·exact h
  ·rw [List.getElem?_eq_none (by simpa [lJ] using h)] at hv;cases hv
 rw [aAN hj] at hv;rw [hadd,hc j hj];exact hv
def mW (xs:List Int) (k i:Nat):Value:=.int .i64 (if i<xs.length then xs.getD i 0 else if i<k then -5 else 0)
theorem aDP {w:World}{g:Nat}{t:TypeId}{xs:List Int}(h:w.heap[g]?=some (.cells (splice (List.replicate (xs.length+8) (.int .i64 0)) 0 (lJ xs)).toArray t (0,0))):w.rowIs g t (xs.length+8) (mW xs xs.length):=by
 have hl:(splice (List.replicate (xs.length+8) (Value.int .i64 0)) 0 (lJ xs)).length=xs.length+8:=by rw [length_splice _ _ _ (by simp [lJ])];simp
 have:=nI (f:=mW xs xs.length) h (fun i hi=>?_)
 ·rw [hl] at this;exact this
 ·rw [hl] at hi
  unfold mW splice
  by_cases hx:i<xs.length
  ·rw [if_pos hx,List.take_zero,List.nil_append,List.getElem?_append_left (by simpa [lJ] using hx),aAN hx]
  ·rw [if_neg hx,if_neg hx,List.take_zero,List.nil_append,List.getElem?_append_right (by simp [lJ];omega)]
   have hv:(lJ xs).length=xs.length:=(by simp [lJ])
   rw [List.drop_replicate,List.getElem?_replicate,if_pos (by rw [hv];omega)]
theorem aB9 {xs:List Int}{k i:Nat}(hk:xs.length≤k):(if i=k then (Value.int .i64 (-5)) else mW xs k i)=mW xs (k+1) i:=by
 unfold mW
 by_cases h:i=k
 ·subst h;rw [if_pos rfl,if_neg (by omega),if_pos (by omega)]
 ·rw [if_neg h]
  have:i<k+1↔i<k:=by omega
  simp only [this]
theorem cL (a:Option Addr) (c:Nat) (xs:List Int) (w:World) (hm:xs.length*8≤140737488351232) (hI:IntsAt w a xs) :
  Calls Tryz.prog 19 #[.slice a xs.length c] w fun e w'=>∃g,e=.returned (.slice (some ⟨g,0,none⟩) xs.length (xs.length+8))∧w.heap.size≤g∧w'.rowIs g 3 (xs.length+8) (hInt xs)∧Below w.heap.size w w':=by
 obtain ⟨i0,hi0,hz0,hz1,hz2⟩:=info_parts Tryz.infoInt;have hmk:=fun w=>run_make_row (P:=Tryz.prog) 32 3 i0 (.int .i64 0) Tryz.underlying32 hi0 hz0 hz1 rfl .i64 .i64 (xs.length+8) (by rw [hz2];omega) (by omega) w
 have ec:((xs.length+8:Nat):Int)=(xs.length:Int)+8:=by omega
 rw [ec] at hmk;clear ec;simp only [pM] at hmk;obtain ⟨o,ho⟩:∃o,o=Obj.cells (List.replicate (xs.length+8) (Value.int .i64 0)).toArray 3 (0,0):=⟨_,rfl⟩
 have hmk2:∀w:World,(Instr.makeSlice 32 (.int .i64 ((xs.length:Int)+8)) (.int .i64 ((xs.length:Int)+8))).run Tryz.prog w=.ok (.slice (some ⟨w.heap.size,0,none⟩) (xs.length+8) (xs.length+8)) (w.alloc o):=by intro w;rw [ho];exact hmk w
 have hg:(w.alloc o).heap[w.heap.size]?=some (.cells (List.replicate (xs.length+8) (Value.int .i64 0)).toArray 3 (0,0)):=by rw [←ho];exact heap_alloc_new w o
 have hbel:Below w.heap.size w (w.alloc o):=(Below.refl _ _).alloc (Nat.le_refl _) _;have hsrc:0<xs.length→∃ad,a=some ad∧∀j v,(lJ xs)[j]?=some v→(w.alloc o).cell? (ad.add j)=some v:=by
  intro h0
  rcases hI with rfl | ⟨b,off,rfl,hlt,hc⟩
  ·simp at h0
  ·exact ⟨_,rfl,aGY (fun i hi=>(hbel.cell (p:=⟨b,_,none⟩) hlt).trans (hc i hi))⟩
 have hsz:(Tryz.prog.info? 3).map (·.size)=some 1:=by rw [hi0];simp [hz1]
 obtain ⟨w1,hcp,hg1,hb1⟩:=lP (P:=Tryz.prog) (w.alloc o) 32 32 3 3 1 w.heap.size (xs.length+8) (xs.length+8) a xs.length c _ 3 (lJ xs) Tryz.underlying32 hsz hg (by omega) (by simp [lJ]) hsrc (by simp [lJ]) (by simp [lJ];intros;rfl);have hrow:=aDP hg1;have bel1:=hb1 _ _ hbel (Nat.le_refl _);clear hmk ho hI hsz hsrc hg hbel hg1 hb1
 go_enter Tryz.func19,Tryz.ntmps19
 go_wp2
 go_loopw [5] (fun i wr=>∃k:Nat,xs.length≤k∧k≤xs.length+8∧i=.int .i64 k∧wr.rowIs w.heap.size 3 (xs.length+8) (mW xs k)∧Below w.heap.size w wr) (fun i _=>xs.length+8 - (intOf i).toNat)
 case atStart=>exact ⟨xs.length,Nat.le_refl _,by omega,rfl,hrow,bel1⟩
 case round =>
  clear hrow bel1 hcp;obtain ⟨k,hk0,hk,rfl,hrow,hbel⟩:=hrel
  by_cases hk2:k<xs.length+8
  ·have c1:=hrow.cell hk2
   have f1:=hrow.frozen k;have r2:=hrow.set k (.int .i64 (-5));have hk3:(k:Int)<(xs.length:Int)+8:=(by omega)
   obtain ⟨u,hu⟩:∃u,u=mW xs k k:=⟨_,rfl⟩
   rw [←hu] at c1;clear hu;go_wp2
   go_roundw
   case rel=>exact ⟨k+1,by omega,by omega,by go_num,r2.congr (fun i hi=>aB9 hk0),hbel.setCell (Nat.le_refl _) _⟩
   case measure=>simp [intOf];omega
  ·obtain rfl:k=xs.length+8:=by omega
   go_wp2
   go_ret
   exact ⟨w.heap.size,rfl,Nat.le_refl _,hrow.congr (fun i hi=>by unfold mW hInt;rw [if_pos hi]),hbel⟩
def kK (xs:List Int) (k i:Nat):Value:=if i<k then .int .i64 1 else hInt xs i
theorem mV {xs:List Int}{k i:Nat}:(if i=k then (Value.int .i64 1) else kK xs k i)=kK xs (k+1) i:=by
 unfold kK
 by_cases h:i=k
 ·subst h;rw [if_pos rfl,if_pos (by omega)]
 ·rw [if_neg h]
  have:i<k+1↔i<k:=by omega
  simp only [this]
theorem bM (a:Option Addr) (c g:Nat) (xs:List Int) (w:World) (hm:xs.length*8≤140737488351232) (hI:IntsIn g w a xs) (hR:w.rowIs g 3 (xs.length+8) (hInt xs)) :
  Calls Tryz.prog 36 #[.slice (some ⟨g,0,none⟩) xs.length (xs.length+8),.slice a xs.length c] w fun e w'=>e=.returned (.bool true)∧Span g (g+1) w w':=by
 go_enter Tryz.func36,Tryz.ntmps36
 go_wp2
 go_loopw [7,8,9] (fun ok i _ wr=>∃k:Nat,k≤xs.length+8∧i=.int .i64 k∧ok=.bool true∧wr.rowIs g 3 (xs.length+8) (kK xs k)∧Span g (g+1) w wr) (fun _ i _ _=>xs.length+8 - (intOf i).toNat)
 case atStart=>exact ⟨0,by omega,rfl,rfl,hR,Span.refl _ _ _⟩
 case round =>
  clear hR;obtain ⟨k,hk,rfl,rfl,hrow,hsp⟩:=hrel
  by_cases hk2:k<xs.length+8
  ·have c1:=hrow.cell hk2
   have f1:=hrow.frozen k;have r2:=hrow.set k (.int .i64 1);have hk3:(k:Int)<(xs.length:Int)+8:=(by omega)
   have hIr:=hI.span hsp (Nat.le_refl _);have h0:kK xs k k=.int .i64 (if k<xs.length then xs.getD k 0 else -5):=(by unfold kK hInt;rw [if_neg (by omega)])
   rw [h0] at c1;clear h0
   by_cases hx:k<xs.length
   ·rw [if_pos hx] at c1
    obtain ⟨b,off,rfl,hbg,hlt,hc⟩:=hIr.get (by omega);have hcx:=hc k hx;obtain ⟨x,hX⟩:∃x,x=xs.getD k 0:=⟨_,rfl⟩
    rw [←hX] at c1 hcx;clear hX hc hIr;go_wp2
    go_roundw
    case rel=>exact ⟨k+1,by omega,by go_num,rfl,r2.congr (fun i hi=>mV),hsp.setCell (Nat.le_refl _) (by simp) _⟩
    case measure=>simp [intOf];omega
   ·rw [if_neg hx] at c1
    clear hIr;go_wp2
    go_roundw
    case rel=>exact ⟨k+1,by omega,by go_num,rfl,r2.congr (fun i hi=>mV),hsp.setCell (Nat.le_refl _) (by simp) _⟩
    case measure=>simp [intOf];omega
  ·go_wp2
   go_ret
   exact ⟨rfl,hsp⟩
end Go.Proofs.YtgpaajdfkekjiaaGreatDoor
