/-
  A part of the proof of the statement All: texts of ours, made small by program (blanks, names).
-/
import Derived.Test.YtgpaajdfkekjiaaGreatDoorPm
import Derived.Deep.Cut
namespace Go.Proofs.YtgpaajdfkekjiaaGreatDoor
set_option maxHeartbeats 8000000
set_option maxRecDepth 100000
open Go.RowKit
theorem aQ {w w':World}{B:Nat}{cs:Array Value}(h:∀j,w.cell? ⟨B,j,none⟩=cs[j]?) (hB:B<w.heap.size) (hb:Below w.heap.size w w'):∀j,w'.cell? ⟨B,j,none⟩=cs[j]?:=fun j=>(hb.cell (p:=⟨B,j,none⟩) hB).trans (h j)
theorem aJ {S:Nat→Prop}{w w':World}{B:Nat}{cs:Array Value}(h:∀j,w.cell? ⟨B,j,none⟩=cs[j]?) (hB:B<w.heap.size) (K:Keeps S w w') (hS:¬S B):∀j,w'.cell? ⟨B,j,none⟩=cs[j]?:=fun j=>(K.cell (p:=⟨B,j,none⟩) hB hS).trans (h j)
theorem PairsAt.lt {w:World}{a:Option Addr}{ps:List (Int×Int)}(h:PairsAt w a ps){b o:Nat}(ha:a=some ⟨b,o,none⟩) (hne:ps≠[]):b<w.heap.size:=by
 rcases h with h | ⟨b',off,ha',hlt,_⟩
 ·exact absurd h hne
 ·rw [ha] at ha';simp only [Option.some.injEq,Addr.mk.injEq,and_true] at ha';omega
theorem IntsAt.lt {w:World}{a:Option Addr}{xs:List Int}(h:IntsAt w a xs){b o:Nat}(ha:a=some ⟨b,o,none⟩) (hne:xs≠[]):b<w.heap.size:=by
 rcases h with h | ⟨b',off,ha',hlt,_⟩
 ·exact absurd h hne
 ·rw [ha] at ha';simp only [Option.some.injEq,Addr.mk.injEq,and_true] at ha';omega
theorem IntsAt.alloc_any {w:World}{a:Option Addr}{xs:List Int}(h:IntsAt w a xs) (o:Obj):IntsAt (w.alloc o) a xs:=h.below ((Below.refl _ _).alloc (Nat.le_refl _) _)
theorem aY {w w':World}{o:Obj}(h:Below (w.alloc o).heap.size (w.alloc o) w'):Below w.heap.size w w':=((Below.refl _ _).alloc (Nat.le_refl _) o).trans (h.mono (by simp))
theorem bL {w w':World}{cs:Array Value}{t:TypeId}(h:Below (w.alloc (.cells cs t)).heap.size (w.alloc (.cells cs t)) w'):∀i,w'.cell? ⟨w.heap.size,i,none⟩=cs[i]?:=fun i =>
 (h.cell (p:=⟨w.heap.size,i,none⟩) (by simp)).trans (cell_of_row _ _ _ _ _ _ (heap_alloc_new _ _))
theorem Tryz.infoKl:(Tryz.prog.info? 54).map (fun i=>(i.zero,i.size,i.bytes))=some (some (.agg #[.int .i64 0,.int .i64 0]),2,16):=by kernel_rfl
theorem Tryz.infoKg:(Tryz.prog.info? 56).map (fun i=>(i.zero,i.size,i.bytes))=some (some (.agg #[.int .i64 0,.int .i64 0]),2,16):=by kernel_rfl
theorem Tryz.infoKls:(Tryz.prog.info? 30).map (fun i=>(i.zero,i.size,i.bytes))=some (some (.slice none 0 0),1,24):=by kernel_rfl
theorem Tryz.infoKgs:(Tryz.prog.info? 31).map (fun i=>(i.zero,i.size,i.bytes))=some (some (.slice none 0 0),1,24):=by kernel_rfl
theorem rY {j:Nat}{M:Int}(hM:-1 - (j:Int)=M) (n:Nat):bF (mkP j) (n*2)++ [.int .i64 M,.int .i64 0]=bF (mkP j) ((n+1)*2)∧bF (mkP j) (n*2)++ [.int .i64 M,.int .i64 0,.int .i64 M,.int .i64 0]=bF (mkP j) ((n+2)*2)∧
  bF (mkP j) (n*2)++ [.int .i64 M,.int .i64 0,.int .i64 M,.int .i64 0,.int .i64 M,.int .i64 0]=bF (mkP j) ((n+3)*2):=by
 subst hM
 exact ⟨by rw [←aBI];rfl,by rw [←aBI];rfl,by rw [←aBI];rfl⟩
theorem aN {w w':World}{base e size:Nat}{v:Value}{n:Nat}{xs:List Value}(h:w.ownsRow base e size v n xs) (hb:Below w.heap.size w w'):w'.ownsRow base e size v n xs:=iK h (fun q hq=>hb.block q (h.lt q hq).2)
theorem zW {F:Nat→Value}{f:Nat→Value}{k:Nat}{M Z:Value}(hF:∀i,i<k*2→F i=f i) (h0:f (k*2)=M) (h1:f (k*2+1)=Z):∀i,i<(k+1)*2→(if i=k*2+1 then Z else if i=k*2 then M else F i)=f i:=fun i hi=>by
 by_cases h:i=k*2+1
 ·rw [if_pos h,h,h1]
 ·rw [if_neg h]
  by_cases h':i=k*2
  ·rw [if_pos h',h',h0]
  ·rw [if_neg h'];exact hF i (by omega)
theorem uG {w:World}{g i j:Nat}{x y:Value}{o:Option Nat}(h:o=some g):Keeps (fun k=>o=some k) w ((w.setCell ⟨g,i,none⟩ x).setCell ⟨g,j,none⟩ y):=by
 refine ⟨rfl,rfl,rfl,by rw [Deep.nblk_setCell,Deep.nblk_setCell];exact Nat.le_refl _,fun k _ hk=>?_⟩;have hne:k≠g:=fun e=>hk (by rw [e];exact h)
 rw [Deep.blk_setCell_other _ _ _ _ hne,Deep.blk_setCell_other _ _ _ _ hne]
def aHH (R:Nat→Nat) (w:World) (P N:Nat) (B:Nat→Prop) (w':World):Prop :=
 ∃R' v' es',Book2 R' w' P v' es' (N+1)∧Keeps (fun k=>R k<6∨B k) w w'∧∀k,R' k<6→R k<6∨B k∨w.heap.size≤k
theorem aCU {A A' B C:Nat→Prop}{a b c:World}(h:Keeps (fun k=>A k∨B k) a b) (k:Keeps (fun k=>A' k∨C k) b c) (hn:∀k,A' k→A k∨B k∨a.heap.size≤k):Keeps (fun k=>A k∨B k∨C k) a c :=
 ⟨k.os.trans h.os,k.tape.trans h.tape,k.output.trans h.output,Nat.le_trans h.size k.size,fun i hi ho=>(k.block i (Nat.lt_of_lt_of_le hi h.size) (fun e=>by
  rcases e with e | e
  ·rcases hn i e with e | e | e
   ·exact ho (.inl e)
   ·exact ho (.inr (.inl e))
   ·omega
  ·exact ho (.inr (.inr e)))).trans (h.block i hi (fun e=>by rcases e with e | e;exact ho (.inl e);exact ho (.inr (.inl e))))⟩
theorem aG3 {A A' A2 B C:Nat→Prop}{m n:Nat}(h1:∀k,A' k→A k∨B k∨m≤k) (h2:∀k,A2 k→A' k∨C k∨n≤k) (hmn:m≤n):∀k,A2 k→A k∨(B k∨C k)∨m≤k:=fun k hk=>by
 rcases h2 k hk with h | h | h
 ·rcases h1 k h with h | h | h
  ·exact .inl h
  ·exact .inr (.inl (.inl h))
  ·exact .inr (.inr h)
 ·exact .inr (.inl (.inr h))
 ·exact .inr (.inr (by omega))
theorem jP (R:Nat→Nat) (P N:Nat) (v:Nat→Value) (es:Nat→List Entry) (n:Int) (la ga oa:Option Addr) (nl lc ng gc no oc b1 b2 b3:Nat) (xl xg xo:List Value) (w:World) (hB:Book2 R w P v es N) (hN:N≤700000000000) (hnl:nl≤900) (hng:ng≤900) (hno:no≤900)
  (ol:w.ownsRow b1 54 2 (.slice la nl lc) nl xl) (og:w.ownsRow b2 56 2 (.slice ga ng gc) ng xg) (oo:w.ownsRow b3 3 1 (.slice oa no oc) no xo)
  (hl:∀b,(Value.slice la nl lc).ownBlock=some b→6≤R b) (hg:∀b,(Value.slice ga ng gc).ownBlock=some b→6≤R b) (ho:∀b,(Value.slice oa no oc).ownBlock=some b→6≤R b)
  (hlo:∀b,(Value.slice la nl lc).ownBlock=some b→(Value.slice oa no oc).ownBlock≠some b) (hgo:∀b,(Value.slice ga ng gc).ownBlock=some b→(Value.slice oa no oc).ownBlock≠some b) (hgl:∀b,(Value.slice ga ng gc).ownBlock=some b→(Value.slice la nl lc).ownBlock≠some b) :
  Calls Tryz.prog 22 #[.pointer (some ⟨P,0,none⟩),.agg #[.int .i64 n,.slice la nl lc,.slice ga ng gc,.slice oa no oc]] w fun e w'=>e=.returned (.tuple #[])∧aHH R w P N (fun k=>(Value.slice oa no oc).ownBlock=some k∨(Value.slice la nl lc).ownBlock=some k∨(Value.slice ga ng gc).ownBlock=some k) w':=by
 obtain ⟨W1,hW1⟩:∃W1,W1=w.alloc (.cells #[.int .i64 n,.slice la nl lc,.slice ga ng gc,.slice oa no oc] 34):=⟨_,rfl⟩
 have bW1:Below w.heap.size w W1:=by rw [hW1];exact (Below.refl _ _).alloc (Nat.le_refl _) _
 have bx1:W1.heap[w.heap.size]?=some (.cells #[.int .i64 n,.slice la nl lc,.slice ga ng gc,.slice oa no oc] 34 (0,0)):=by rw [hW1];exact heap_alloc_new _ _
 have sW1:W1.heap.size=w.heap.size+1:=by rw [hW1];simp
 have hki:=mZ R P N v es oa no oc b3 xo W1 (hB.below bW1) hN hno (aN oo bW1) ho;have ltl:∀b,(Value.slice la nl lc).ownBlock=some b→b<w.heap.size:=fun b e=>(ol.lt b e).2
 have ltg:∀b,(Value.slice ga ng gc).ownBlock=some b→b<w.heap.size:=fun b e=>(og.lt b e).2
 have lto:∀b,(Value.slice oa no oc).ownBlock=some b→b<w.heap.size:=fun b e=>(oo.lt b e).2
 rw [hW1] at hki
 go_enter Tryz.func22,Tryz.ntmps22
 go_wp2_with fail
 refine hki.mono ?_;rw [←hW1];rintro e wA ⟨rfl,RA,vA,eswA,hBwA,KA,nA,lA⟩;have LA:=hidK lA;have HB0:=hidK hB.len;clear lA;clear hki hW1;have yA:wA.heap[w.heap.size]?=some (.cells #[.int .i64 n,.slice la nl lc,.slice ga ng gc,.slice oa no oc] 34 (0,0)):=(KA.block _ (by omega) (fun h=>by rcases h with h | h;have:=hB.hR _ h;omega;have:=lto _ h;omega)).trans bx1;have KwA:Keeps (fun k=>R k<6∨(Value.slice oa no oc).ownBlock=some k) w wA:=(Keeps.of_below bW1).trans KA;have nwA:∀k,RA k<6→R k<6∨(Value.slice oa no oc).ownBlock=some k∨w.heap.size≤k:=fun k hk=>by
  rcases nA k hk with h | h | h
  ·exact .inl h
  ·exact .inr (.inl h)
  ·exact .inr (.inr (by omega))
 have olwA:wA.ownsRow b1 54 2 (.slice la nl lc) nl xl:=iK ol (fun q hq=>KwA.block q (ltl q hq) (fun h=>by rcases h with h | h;have:=hl q hq;omega;exact hlo q hq h));have ogwA:wA.ownsRow b2 56 2 (.slice ga ng gc) ng xg:=iK og (fun q hq=>KwA.block q (ltg q hq) (fun h=>by rcases h with h | h;have:=hg q hq;omega;exact hgo q hq h));have hab2:∀b,(Value.slice la nl lc).ownBlock=some b→6≤RA b:=fun b e=>by
  by_cases h:RA b<6
  ·rcases nwA b h with h | h | h
   ·have:=hl b e;omega
   ·exact absurd h (hlo b e)
   ·have:=ltl b e;omega
  ·omega
 have habg:∀b,(Value.slice ga ng gc).ownBlock=some b→6≤RA b:=fun b e=>by
  by_cases h:RA b<6
  ·rcases nwA b h with h | h | h
   ·have:=hg b e;omega
   ·exact absurd h (hgo b e)
   ·have:=ltg b e;omega
  ·omega
 have RwA:=hB.hR;have zA:=KwA.size;have tA:w.heap.size<wA.heap.size:=by have:=KA.size;omega
 have d1:wA.cell? ⟨w.heap.size,1,none⟩=some (.slice la nl lc):=by rw [cell_of_row _ _ _ _ _ _ yA];rfl
 have YA:=hidK yA;have HNB:=hidK (show ¬RA w.heap.size<6 from fun h=>by rcases nA _ h with h | h | h;have:=hB.hR _ h;omega;have:=lto _ h;omega;omega);clear yA bx1 KA;obtain ⟨i2,hi2,hz02,hz12,hz22⟩:=info_parts Tryz.infoKl;obtain ⟨y2,hy2,hy02,hy12,hy22⟩:=info_parts Tryz.infoKls;obtain ⟨j,hj,hjN⟩:=hBwA.len 2 (by omega);obtain ⟨ha,hc,hv⟩:=(hBwA.slot 2 (by omega)).form;rw [hj] at hv;have c0:=(hBwA.slot 2 (by omega)).cell;rw [hv] at c0;obtain ⟨M,hM⟩:∃M:Int,-1 - (j:Int)=M:=⟨_,rfl⟩
 have hM0:M≤-1:=by omega
 have hM1:-800000000000≤M:=by omega
 have hmk0:∀i,mkP j (i*2)=.int .i64 M:=fun i=>by rw [qM,hM]
 have hmk1:∀i,mkP j (i*2+1)=.int .i64 0:=fun i=>wP j i
 have HE:=hidK (rY hM);have HMK0:=hidK hmk0;have HMK1:=hidK hmk1;have HB:=hidK hBwA;have HJ:=hidK hj;have HV:=hidK hv;have HAB:=hidK hab2;clear hmk0 hmk1 hj hv;go_wp2;obtain ⟨WB,hWB⟩:∃WB,WB=wA.alloc (.cells #[.int .i64 M,.int .i64 0] 54):=⟨_,rfl⟩
 rw [←hWB];have bWB:Below wA.heap.size wA WB:=by rw [hWB];exact (Below.refl _ _).alloc (Nat.le_refl _) _
 have bxW:WB.heap[wA.heap.size]?=some (.cells #[.int .i64 M,.int .i64 0] 54 (0,0)):=by rw [hWB];exact heap_alloc_new _ _
 have sWB:WB.heap.size=wA.heap.size+1:=by rw [hWB];simp
 have oWB:=aN olwA bWB;have vb:∀b,(Value.slice la nl lc).ownBlock=some b→b<wA.heap.size:=fun b e=>(olwA.lt b e).2
 have HM0:=hidK (show WB.cell? ⟨wA.heap.size,0,none⟩=some (.int .i64 M) by rw [cell_of_row _ _ _ _ _ _ bxW];rfl);have HM1:=hidK (show WB.cell? ⟨wA.heap.size,1,none⟩=some (.int .i64 0) by rw [cell_of_row _ _ _ _ _ _ bxW];rfl);have HMS:=hidK (show wA.heap.size<WB.heap.size∧¬(Value.slice la nl lc).ownBlock=some wA.heap.size from ⟨by omega,fun e=>by have:=vb _ e;omega⟩);have HU:=hidK (MarkUp.start (f:=mkP j) oWB);have HBW:=hidK (HB.out.below bWB);clear hWB
 go_loopw [6] (fun i wr=>∃k:Nat,k≤nl∧i=.int .i64 k∧MarkUp 54 2 (mkP j) wr (.slice la nl lc) nl k∧Keeps (fun k=>(Value.slice la nl lc).ownBlock=some k) WB wr) (fun i _=>nl - (intOf i).toNat)
 case atStart=>exact ⟨0,Nat.zero_le _,rfl,HU.out,Keeps.refl _ _⟩
 case round =>
  obtain ⟨k,hk,rfl,hup,K⟩:=hrel;have q0:=(K.cell (p:=⟨wA.heap.size,0,none⟩) HMS.out.1 HMS.out.2).trans HM0.out;have p0:=(K.cell (p:=⟨wA.heap.size,1,none⟩) HMS.out.1 HMS.out.2).trans HM1.out
  by_cases hk2:k<nl
  ·rcases hup with ⟨_,h0⟩ | ⟨g,cp,F,hv',hr,hnc,hcm,hF⟩
   ·omega
   ·simp only [Value.slice.injEq,true_and] at hv'
    obtain ⟨rfl,rfl⟩:=hv';have c1:=hr.cell (i:=k*2) (by omega);have f1:=hr.frozen (k*2);have c2:=hr.cell (i:=k*2+1) (by omega);have f2:=hr.frozen (k*2+1);obtain ⟨u,hu⟩:∃u,u=F (k*2):=⟨_,rfl⟩
    obtain ⟨u',hu'⟩:∃u,u=F (k*2+1):=⟨_,rfl⟩
    rw [←hu] at c1;rw [←hu'] at c2;have hk3:(k:Int)<(nl:Int):=(by omega)
    clear hu hu';go_wp2
    go_roundw
    case rel=>exact ⟨k+1,by omega,by go_num,.inr ⟨g,lc,_,rfl,(hr.set (k*2) (.int .i64 M)).set (k*2+1) (.int .i64 0),hnc,hcm,zW hF (HMK0.out k) (HMK1.out k)⟩,K.trans (uG (show (Value.slice (some ⟨g,0,none⟩) nl lc).ownBlock=some g from rfl))⟩
    case measure=>simp [intOf];omega
  ·obtain rfl:k=nl:=by omega
   have A0:=AppSt.start hup.marked K (fun b e=>by have:=vb b e;omega) (by omega);obtain ⟨e1,e2,e3⟩:=HE.out k;clear hup c0
   go_upto_region 12 with (first
    | (at_builtin;refine aO _ rfl (.tmp 40) (.tmp 42) 30 rfl 54 i2 (.agg #[.int .i64 0,.int .i64 0]) 2 16 Tryz.underlying30 hi2 hz02 hz12 hz22 rfl (by omega) (mkP j) (.slice la k lc) k k rfl (A0.alloc _) ⟨wr.heap.size,0,none⟩ 1 1 [.int .i64 M,.int .i64 0] rfl rfl (World.news_of_block (heap_alloc_new wr _)) (by simp [Value.oneCell']) e1 (by omega) (by omega) (by unfold maxLen;omega) (by omega) ?_;intro g1 cap1 w1 r1 hr1 hs1 m1 grow1 nm1;have A1:=A0.next (cap':=cap1) grow1 m1 hr1 nm1 (by omega);have q1:=(A1.k.cell (p:=⟨wA.heap.size,0,none⟩) HMS.out.1 HMS.out.2).trans HM0.out;have p1:=(A1.k.cell (p:=⟨wA.heap.size,1,none⟩) HMS.out.1 HMS.out.2).trans HM1.out)
    | (at_builtin;refine aO _ rfl (.tmp 44) (.tmp 47) 30 rfl 54 i2 (.agg #[.int .i64 0,.int .i64 0]) 2 16 Tryz.underlying30 hi2 hz02 hz12 hz22 rfl (by omega) (mkP j) (.slice la k lc) k r1 rfl (A1.alloc _) ⟨w1.heap.size,0,none⟩ 2 2 [.int .i64 M,.int .i64 0,.int .i64 M,.int .i64 0] rfl rfl (World.news_of_block (heap_alloc_new w1 _)) (by simp [Value.oneCell']) e2 (by omega) (by omega) (by unfold maxLen;omega) (by omega) ?_;intro g2 cap2 w2 r2 hr2 hs2 m2 grow2 nm2;have A2:=A1.next (cap':=cap2) grow2 m2 hr2 nm2 (by omega);have q2:=(A2.k.cell (p:=⟨wA.heap.size,0,none⟩) HMS.out.1 HMS.out.2).trans HM0.out;have p2:=(A2.k.cell (p:=⟨wA.heap.size,1,none⟩) HMS.out.1 HMS.out.2).trans HM1.out)
    | (at_builtin;refine aO _ rfl (.tmp 49) (.tmp 53) 30 rfl 54 i2 (.agg #[.int .i64 0,.int .i64 0]) 2 16 Tryz.underlying30 hi2 hz02 hz12 hz22 rfl (by omega) (mkP j) (.slice la k lc) k r2 rfl (A2.alloc _) ⟨w2.heap.size,0,none⟩ 3 3 [.int .i64 M,.int .i64 0,.int .i64 M,.int .i64 0,.int .i64 M,.int .i64 0] rfl rfl (World.news_of_block (heap_alloc_new w2 _)) (by simp [Value.oneCell']) e3 (by omega) (by omega) (by unfold maxLen;omega) (by omega) ?_;intro g3 cap3 w3 r3 hr3 hs3 m3 grow3 nm3;have A3:=A2.next (cap':=cap3) grow3 m3 hr3 nm3 (by omega);have q3:=(A3.k.cell (p:=⟨wA.heap.size,0,none⟩) HMS.out.1 HMS.out.2).trans HM0.out;have p3:=(A3.k.cell (p:=⟨wA.heap.size,1,none⟩) HMS.out.1 HMS.out.2).trans HM1.out;have hB3:=A3.book HBW.out HAB.out;have cP3:=(hB3.slot 2 (by omega)).cell;have ownH:=(hB3.slot 2 (by omega)).own;rw [HJ.out] at ownH;rw [HV.out] at cP3 ownH)
    | (at_builtin;refine wpList_append_lies _ rfl (.tmp 59) (.tmp 64) 26 rfl 0 30 y2 (.slice none 0 0) 1 24 Tryz.underlying26 hy2 hy02 hy12 hy22 rfl (by omega) (.slice ha (4*j) hc) (4*j) ((eswA 2).map Entry.val) rfl (ownH.alloc _) ⟨w3.heap.size,0,none⟩ 4 4 [.slice la k lc,.slice (some ⟨g1,0,none⟩) (k+1) cap1,.slice (some ⟨g2,0,none⟩) (k+2) cap2,.slice (some ⟨g3,0,none⟩) (k+3) cap3] rfl rfl (World.news_of_block (heap_alloc_new w3 _)) (by simp [Value.oneCell']) (by omega) (by unfold maxLen;omega) (by omega) (by simp) _ rfl ?_;intro g4 cap4 w4 own4 grow4 hat hlt4;rw [←HV.out] at grow4;obtain ⟨cP4,fP4⟩:=hB3.at4 (by omega) grow4;rw [HV.out] at cP4;have KR:=kP HBW.out (by omega) HJ.out A3 rfl HAB.out own4 grow4 (by rw [HV.out];rcases hat with h | h;exact .inl h;exact .inr (by rw [h])))
    | fail)
   obtain ⟨wC,hWC⟩:∃wC,wC=w4.setCell ⟨P,2,none⟩ (.slice (some ⟨g4,0,none⟩) (4*j+4) cap4):=⟨_,rfl⟩
   rw [←hWC] at KR;rw [←hWC];obtain ⟨RC,vC,eswC,hBwC,KC0,nC0,lC⟩:=KR;have LC:=hidK lC;clear lC;obtain ⟨nl,rfl⟩:∃nl,nl=k:=⟨_,rfl⟩
   have KC:Keeps (fun k=>RA k<6∨(Value.slice la nl lc).ownBlock=some k) wA wC:=(Keeps.of_below bWB).trans KC0;have nwC:∀k,RC k<6→RA k<6∨(Value.slice la nl lc).ownBlock=some k∨wA.heap.size≤k:=fun k hk=>by
    rcases nC0 k hk with h | h | h
    ·exact .inl h
    ·exact .inr (.inl h)
    ·exact .inr (.inr (by omega))
   have hbx:¬(RA w.heap.size<6∨(Value.slice la nl lc).ownBlock=some w.heap.size):=fun h=>by
    rcases h with h | h
    ·exact HNB.out h
    ·have:=ltl _ h;omega
   have yC:=(KC.block _ tA hbx).trans YA.out;have d2:wC.cell? ⟨w.heap.size,2,none⟩=some (.slice ga ng gc):=(by rw [cell_of_row _ _ _ _ _ _ yC];rfl)
   have ogwC:wC.ownsRow b2 56 2 (.slice ga ng gc) ng xg:=iK ogwA (fun q hq=>KC.block q (ogwA.lt q hq).2 (fun h=>by rcases h with h | h;have:=habg q hq;omega;exact hgl q hq h));have hab3:∀b,(Value.slice ga ng gc).ownBlock=some b→6≤RC b:=fun b e=>by
    by_cases h:RC b<6
    ·rcases nwC b h with h | h | h
     ·have:=habg b e;omega
     ·exact absurd h (hgl b e)
     ·have:=ltg b e;omega
    ·omega
   have KwC:=hidK (aCU KwA KC nwA);have NwC:=hidK (aG3 nwA nwC zA);have zC:=KC.size;clear nC0 KC0 HB HBW HJ HV HAB HU HM0 HM1 HMS HMK0 HMK1 HE hWC hM hM0 hM1 bxW oWB sWB bWB vb K q0 p0 A0 A1 A2 A3 own4 grow4 hat hlt4 cP4 fP4 cP3 ownH hB3 grow1 grow2 grow3 m1 m2 m3 nm1 nm2 nm3 e1 e2 e3 hr1 hr2 hr3 hs1 hs2 hs3 q1 q2 q3 p1 p2 p3;obtain ⟨i3,hi3,hz03,hz13,hz23⟩:=info_parts Tryz.infoKg;obtain ⟨y3,hy3,hy03,hy13,hy23⟩:=info_parts Tryz.infoKgs;obtain ⟨j,hj,hjN⟩:=hBwC.len 3 (by omega);obtain ⟨ha,hc,hv⟩:=(hBwC.slot 3 (by omega)).form;rw [hj] at hv;have c0:=(hBwC.slot 3 (by omega)).cell;rw [hv] at c0;obtain ⟨M,hM⟩:∃M:Int,-1 - (j:Int)=M:=⟨_,rfl⟩
   have hM0:M≤-1:=(by omega)
   have hM1:-800000000000≤M:=(by omega)
   have hmk0:∀i,mkP j (i*2)=.int .i64 M:=fun i=>by rw [qM,hM]
   have hmk1:∀i,mkP j (i*2+1)=.int .i64 0:=fun i=>wP j i
   have HE:=hidK (rY hM);have HMK0:=hidK hmk0;have HMK1:=hidK hmk1;have HB:=hidK hBwC;have HJ:=hidK hj;have HV:=hidK hv;have HAB:=hidK hab3;clear hmk0 hmk1 hj hv;go_wp2;obtain ⟨WB,hWB⟩:∃WB,WB=wC.alloc (.cells #[.int .i64 M,.int .i64 0] 56):=⟨_,rfl⟩
   rw [←hWB];have bWB:Below wC.heap.size wC WB:=(by rw [hWB];exact (Below.refl _ _).alloc (Nat.le_refl _) _)
   have bxW:WB.heap[wC.heap.size]?=some (.cells #[.int .i64 M,.int .i64 0] 56 (0,0)):=(by rw [hWB];exact heap_alloc_new _ _)
   have sWB:WB.heap.size=wC.heap.size+1:=(by rw [hWB];simp)
   have oWB:=aN ogwC bWB;have vb:∀b,(Value.slice ga ng gc).ownBlock=some b→b<wC.heap.size:=fun b e=>(ogwC.lt b e).2
   have HM0:=hidK (show WB.cell? ⟨wC.heap.size,0,none⟩=some (.int .i64 M) by rw [cell_of_row _ _ _ _ _ _ bxW];rfl);have HM1:=hidK (show WB.cell? ⟨wC.heap.size,1,none⟩=some (.int .i64 0) by rw [cell_of_row _ _ _ _ _ _ bxW];rfl);have HMS:=hidK (show wC.heap.size<WB.heap.size∧¬(Value.slice ga ng gc).ownBlock=some wC.heap.size from ⟨by omega,fun e=>by have:=vb _ e;omega⟩);have HU:=hidK (MarkUp.start (f:=mkP j) oWB);have HBW:=hidK (HB.out.below bWB);clear hWB
   go_loopw [12] (fun i wr=>∃k:Nat,k≤ng∧i=.int .i64 k∧MarkUp 56 2 (mkP j) wr (.slice ga ng gc) ng k∧Keeps (fun k=>(Value.slice ga ng gc).ownBlock=some k) WB wr) (fun i _=>ng - (intOf i).toNat)
   case atStart=>exact ⟨0,Nat.zero_le _,rfl,HU.out,Keeps.refl _ _⟩
   case round =>
    obtain ⟨k,hk,rfl,hup,K⟩:=hrel;have q0:=(K.cell (p:=⟨wC.heap.size,0,none⟩) HMS.out.1 HMS.out.2).trans HM0.out;have p0:=(K.cell (p:=⟨wC.heap.size,1,none⟩) HMS.out.1 HMS.out.2).trans HM1.out
    by_cases hk2:k<ng
    ·rcases hup with ⟨_,h0⟩ | ⟨g,cp,F,hv',hr,hnc,hcm,hF⟩
     ·omega
     ·simp only [Value.slice.injEq,true_and] at hv'
      obtain ⟨rfl,rfl⟩:=hv';have c1:=hr.cell (i:=k*2) (by omega);have f1:=hr.frozen (k*2);have c2:=hr.cell (i:=k*2+1) (by omega);have f2:=hr.frozen (k*2+1);obtain ⟨u,hu⟩:∃u,u=F (k*2):=⟨_,rfl⟩
      obtain ⟨u',hu'⟩:∃u,u=F (k*2+1):=⟨_,rfl⟩
      rw [←hu] at c1;rw [←hu'] at c2;have hk3:(k:Int)<(ng:Int):=(by omega)
      clear hu hu';go_wp2
      go_roundw
      case rel=>exact ⟨k+1,by omega,by go_num,.inr ⟨g,gc,_,rfl,(hr.set (k*2) (.int .i64 M)).set (k*2+1) (.int .i64 0),hnc,hcm,zW hF (HMK0.out k) (HMK1.out k)⟩,K.trans (uG (show (Value.slice (some ⟨g,0,none⟩) ng gc).ownBlock=some g from rfl))⟩
      case measure=>simp [intOf];omega
    ·obtain rfl:k=ng:=by omega
     have A0:=AppSt.start hup.marked K (fun b e=>by have:=vb b e;omega) (by omega);obtain ⟨e1,e2,e3⟩:=HE.out k;clear hup c0
     go_wp2_with (first
      | (at_builtin;refine aO _ rfl (.tmp 88) (.tmp 90) 31 rfl 56 i3 (.agg #[.int .i64 0,.int .i64 0]) 2 16 Tryz.underlying31 hi3 hz03 hz13 hz23 rfl (by omega) (mkP j) (.slice ga k gc) k k rfl (A0.alloc _) ⟨wr.heap.size,0,none⟩ 1 1 [.int .i64 M,.int .i64 0] rfl rfl (World.news_of_block (heap_alloc_new wr _)) (by simp [Value.oneCell']) e1 (by omega) (by omega) (by unfold maxLen;omega) (by omega) ?_;intro g1 cap1 w1 r1 hr1 hs1 m1 grow1 nm1;have A1:=A0.next (cap':=cap1) grow1 m1 hr1 nm1 (by omega);have q1:=(A1.k.cell (p:=⟨wC.heap.size,0,none⟩) HMS.out.1 HMS.out.2).trans HM0.out;have p1:=(A1.k.cell (p:=⟨wC.heap.size,1,none⟩) HMS.out.1 HMS.out.2).trans HM1.out)
      | (at_builtin;refine aO _ rfl (.tmp 92) (.tmp 95) 31 rfl 56 i3 (.agg #[.int .i64 0,.int .i64 0]) 2 16 Tryz.underlying31 hi3 hz03 hz13 hz23 rfl (by omega) (mkP j) (.slice ga k gc) k r1 rfl (A1.alloc _) ⟨w1.heap.size,0,none⟩ 2 2 [.int .i64 M,.int .i64 0,.int .i64 M,.int .i64 0] rfl rfl (World.news_of_block (heap_alloc_new w1 _)) (by simp [Value.oneCell']) e2 (by omega) (by omega) (by unfold maxLen;omega) (by omega) ?_;intro g2 cap2 w2 r2 hr2 hs2 m2 grow2 nm2;have A2:=A1.next (cap':=cap2) grow2 m2 hr2 nm2 (by omega);have q2:=(A2.k.cell (p:=⟨wC.heap.size,0,none⟩) HMS.out.1 HMS.out.2).trans HM0.out;have p2:=(A2.k.cell (p:=⟨wC.heap.size,1,none⟩) HMS.out.1 HMS.out.2).trans HM1.out)
      | (at_builtin;refine aO _ rfl (.tmp 97) (.tmp 101) 31 rfl 56 i3 (.agg #[.int .i64 0,.int .i64 0]) 2 16 Tryz.underlying31 hi3 hz03 hz13 hz23 rfl (by omega) (mkP j) (.slice ga k gc) k r2 rfl (A2.alloc _) ⟨w2.heap.size,0,none⟩ 3 3 [.int .i64 M,.int .i64 0,.int .i64 M,.int .i64 0,.int .i64 M,.int .i64 0] rfl rfl (World.news_of_block (heap_alloc_new w2 _)) (by simp [Value.oneCell']) e3 (by omega) (by omega) (by unfold maxLen;omega) (by omega) ?_;intro g3 cap3 w3 r3 hr3 hs3 m3 grow3 nm3;have A3:=A2.next (cap':=cap3) grow3 m3 hr3 nm3 (by omega);have q3:=(A3.k.cell (p:=⟨wC.heap.size,0,none⟩) HMS.out.1 HMS.out.2).trans HM0.out;have p3:=(A3.k.cell (p:=⟨wC.heap.size,1,none⟩) HMS.out.1 HMS.out.2).trans HM1.out;have hB3:=A3.book HBW.out HAB.out;have cP3:=(hB3.slot 3 (by omega)).cell;have ownH:=(hB3.slot 3 (by omega)).own;rw [HJ.out] at ownH;rw [HV.out] at cP3 ownH)
      | (at_builtin;refine wpList_append_lies _ rfl (.tmp 107) (.tmp 112) 27 rfl 0 31 y3 (.slice none 0 0) 1 24 Tryz.underlying27 hy3 hy03 hy13 hy23 rfl (by omega) (.slice ha (4*j) hc) (4*j) ((eswC 3).map Entry.val) rfl (ownH.alloc _) ⟨w3.heap.size,0,none⟩ 4 4 [.slice ga k gc,.slice (some ⟨g1,0,none⟩) (k+1) cap1,.slice (some ⟨g2,0,none⟩) (k+2) cap2,.slice (some ⟨g3,0,none⟩) (k+3) cap3] rfl rfl (World.news_of_block (heap_alloc_new w3 _)) (by simp [Value.oneCell']) (by omega) (by unfold maxLen;omega) (by omega) (by simp) _ rfl ?_;intro g4 cap4 w4 own4 grow4 hat hlt4;rw [←HV.out] at grow4;obtain ⟨cP4,fP4⟩:=hB3.at4 (by omega) grow4;rw [HV.out] at cP4;have KR:=kP HBW.out (by omega) HJ.out A3 rfl HAB.out own4 grow4 (by rw [HV.out];rcases hat with h | h;exact .inl h;exact .inr (by rw [h])))
      | fail)
     go_end0
     obtain ⟨RE,vE,esE,hBE,KE0,nE0,lE⟩:=KR;have hBT:=hBE.tight (M:=N+1) (fun c hc=>by
      rw [lE c,LC.out c,LA.out c];obtain ⟨j,h1,h2⟩:=HB0.out c hc
      split<;>split<;>split<;>omega)
     obtain ⟨ng,rfl⟩:∃ng,ng=k:=⟨_,rfl⟩
     have KE:Keeps (fun k=>RC k<6∨(Value.slice ga ng gc).ownBlock=some k) wC _:=(Keeps.of_below bWB).trans KE0;have nwE:∀k,RE k<6→RC k<6∨(Value.slice ga ng gc).ownBlock=some k∨wC.heap.size≤k:=fun k hk=>by
      rcases nE0 k hk with h | h | h
      ·exact .inl h
      ·exact .inr (.inl h)
      ·exact .inr (.inr (by omega))
     refine ⟨rfl,RE,vE,esE,hBT,(aCU (A:=fun k=>R k<6) (B:=fun k=>(Value.slice oa no oc).ownBlock=some k∨(Value.slice la nl lc).ownBlock=some k) KwC.out KE NwC.out).mono (fun k _ h=>?_),fun k hk=>?_⟩
     ·rcases h with h | (h | h) | h
      ·exact .inl h
      ·exact .inr (.inl h)
      ·exact .inr (.inr (.inl h))
      ·exact .inr (.inr (.inr h))
     ·rcases aG3 (A:=fun k=>R k<6) (B:=fun k=>(Value.slice oa no oc).ownBlock=some k∨(Value.slice la nl lc).ownBlock=some k) (C:=fun k=>(Value.slice ga ng gc).ownBlock=some k) NwC.out nwE KwC.out.size k hk with h | ((h | h) | h) | h
      ·exact .inl h
      ·exact .inr (.inl (.inl h))
      ·exact .inr (.inl (.inr (.inl h)))
      ·exact .inr (.inl (.inr (.inr h)))
      ·exact .inr (.inr h)
def jH (R:Nat→Nat) (w:World) (P N:Nat) (w':World):Prop :=
 ∃R' v' es',Book2 R' w' P v' es' (N+1)∧Keeps (fun k=>R k<6) w w'∧∀k,R' k<6→R k<6∨w.heap.size≤k
theorem sD {w:World}{base n cap:Nat}{a:Option Addr}{u:List Nat}(h:w.ownsRow base 3 1 (.slice a n cap) n (aP u)) (hn:n=u.length):IntsAt w a (ints u):=by
 rcases h.2 with ⟨h1,h2⟩ | ⟨g,cp,cur,hv,_⟩
 ·have:u=[]:=List.eq_nil_of_length_eq_zero (by omega)
  subst this
  exact .inl rfl
 ·simp only [Value.slice.injEq,true_and] at hv
  obtain ⟨rfl,rfl⟩:=hv
  exact aD3 h
theorem iI {R:Nat→Nat}{A:Nat→Prop}{w w6 w7:World}(hb:Below w.heap.size w w6) (K:Keeps (fun k=>R k<6∨A k) w6 w7) (hA:∀k,A k→w.heap.size≤k):Keeps (fun k=>R k<6) w w7 :=
 ⟨K.os.trans hb.os,K.tape.trans hb.tape,K.output.trans hb.output,Nat.le_trans hb.size K.size,fun k hk ho=>(K.block k (by have:=hb.size;omega) (fun h=>by
  rcases h with h | h
  ·exact ho h
  ·have:=hA k h;omega)).trans (hb.block k hk)⟩
theorem aV {S:Nat→Prop}{w a b:World}{lo hi:Nat}(h1:Keeps S w a) (h2:Keeps (fun k=>lo≤k∧k<hi) a b) (h3:w.heap.size≤lo):Keeps S w b :=
 ⟨h2.os.trans h1.os,h2.tape.trans h1.tape,h2.output.trans h1.output,Nat.le_trans h1.size h2.size,fun k hk ho=>(h2.block k (by have:=h1.size;omega) (by omega)).trans (h1.block k hk ho)⟩
theorem PairsAt.allocK {w:World}{a:Option Addr}{xs:List (Int×Int)}(h:PairsAt w a xs) (o:Obj):PairsAt (w.alloc o) a xs:=h.below ((Below.refl _ _).alloc (Nat.le_refl _) _)
theorem Book2.span {R:Nat→Nat}{w w':World}{P N lo hi:Nat}{v:Nat→Value}{es:Nat→List Entry}(h:Book2 R w P v es N) (K:Keeps (fun k=>lo≤k∧k<hi) w w') (hR:∀k,R k<6→¬(lo≤k∧k<hi)):Book2 R w' P v es N:=h.keeps K.size (fun k hk h6=>K.block k hk (hR k h6))
def FltsAt (w:World) (a:Option Addr) (xs:List Nat):Prop:=xs=[]∨∃b off,a=some ⟨b,off,none⟩∧b<w.heap.size∧∀i,i<xs.length→w.cell? ⟨b,off+i,none⟩=some (.float .f64 (xs.getD i 0))
theorem FltsAt.below {w w':World}{a:Option Addr}{xs:List Nat}(h:FltsAt w a xs) (hb:Below w.heap.size w w'):FltsAt w' a xs:=by
 rcases h with h | ⟨b,off,ha,hlt,hc⟩
 ·exact .inl h
 ·exact .inr ⟨b,off,ha,Nat.lt_of_lt_of_le hlt hb.size,fun i hi=>(hb.cell (p:=⟨b,off+i,none⟩) hlt).trans (hc i hi)⟩
theorem FltsAt.get {w:World}{a:Option Addr}{xs:List Nat}(h:FltsAt w a xs) (h0:0<xs.length):∃b off,a=some ⟨b,off,none⟩∧b<w.heap.size∧∀i,i<xs.length→w.cell? ⟨b,off+i,none⟩=some (.float .f64 (xs.getD i 0)):=by
 rcases h with h | h
 ·rw [h] at h0;simp at h0
 ·exact h
theorem zV {w:World}{base e c:Nat}{a:Option Addr}{xs:List Nat}(h:w.ownsRow base e 1 (.slice a xs.length c) xs.length (pW xs)):FltsAt w a xs:=by
 rcases h.2 with ⟨h1,h0⟩ | ⟨g,cap,cur,hv,_⟩
 ·obtain rfl:xs=[]:=List.length_eq_zero_iff.1 h0
  exact .inl rfl
 ·simp only [Value.slice.injEq,true_and] at hv
  obtain ⟨rfl,rfl⟩:=hv;refine .inr ⟨g,0,rfl,(h.lt g rfl).2,fun i hi=>?_⟩;rw [Nat.zero_add,h.cellAt i (by omega)]
  simp [pW,hi]
theorem xE (aa ba:Option Addr) (ac bc:Nat) (xs:List Nat) (w:World) (hx:xs.length≤1000) (hs:∀i,i<xs.length→FloatKind.f64.format.order (xs.getD i 0) (xs.getD i 0)=some .eq) (hX:FltsAt w aa xs) (hY:FltsAt w ba xs) :
  Calls Tryz.prog 31 #[.slice aa xs.length ac,.slice ba xs.length bc] w fun e w'=>e=.returned (.bool true)∧Below w.heap.size w w':=by
 go_enter Tryz.func31,Tryz.ntmps31
 go_wp2
 go_loopw [5] (fun i wr=>∃k:Nat,k≤xs.length∧i=.int .i64 k∧Below w.heap.size w wr) (fun i _=>xs.length - (intOf i).toNat)
 case atStart=>exact ⟨0,Nat.zero_le _,rfl,Below.refl _ _⟩
 case round =>
  obtain ⟨k,hk,rfl,bel⟩:=hrel
  by_cases hk2:k<xs.length
  ·obtain ⟨b,off,rfl,hlt,hc⟩:=hX.get (by omega)
   obtain ⟨b',off',rfl,hlt',hc'⟩:=hY.get (by omega);have d0:=(bel.cell (p:=⟨b,off+k,none⟩) hlt).trans (hc k hk2);have d1:=(bel.cell (p:=⟨b',off'+k,none⟩) hlt').trans (hc' k hk2);have he:=hs k hk2;obtain ⟨x,hx9⟩:∃x,x=xs.getD k 0:=⟨_,rfl⟩
   rw [←hx9] at d0 d1 he;have kI:(k:Int)<(xs.length:Int):=(by omega)
   have k0:(0:Int)≤(k:Int):=(by omega)
   clear hx9 hc hc';go_wp2
   go_quiet (fail)
   go_wp2
   go_roundw
   case rel=>exact ⟨k+1,by omega,by go_num,below_drewN bel _⟩
   case measure=>simp [intOf];omega
  ·have hkN:¬((k:Int)<(xs.length:Int)):=by omega
   go_wp2
   go_ret
   exact ⟨rfl,bel⟩
end Go.Proofs.YtgpaajdfkekjiaaGreatDoor
