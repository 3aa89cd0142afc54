/-
  A part of the proof of the statement All: texts of ours, made small by program (blanks, names).
-/
import Derived.Test.YtgpaajdfkekjiaaGreatDoorPg
import Derived.Test.YtgpaajdfkekjiaaGreatDoorPu
import Derived.Test.YtgpaajdfkekjiaaGreatDoorPw
namespace Go.Proofs.YtgpaajdfkekjiaaGreatDoor
set_option maxHeartbeats 8000000
set_option maxRecDepth 100000
open Go.RowKit
theorem aB6:∀(ps:List (Int×Int)) (i:Nat),i<ps.length→(flat ps)[i*2]?=some (.int .i64 (ps.getD i (0,0)).1)∧(flat ps)[i*2+1]?=some (.int .i64 (ps.getD i (0,0)).2)
 | [],i,h=>by simp at h
 | p :: ps,0,_=>⟨rfl,rfl⟩
 | p :: ps,i+1,hi=>by
  have:=aB6 ps i (by simpa using hi);have e1:(i+1)*2=i*2+2:=by omega
  have e2:flat (p :: ps)=[.int .i64 p.1,.int .i64 p.2]++ flat ps:=rfl;rw [e1,e2,List.getElem?_append_right (by simp),List.getElem?_append_right (by simp)]
  simpa using this
theorem iM {w:World}{base e n:Nat}{v:Value}{ps:List (Int×Int)}(h:w.ownsRow base e 2 v n (flat ps)) (hn:n=ps.length):∃a c,v=.slice a ps.length c∧PairsAt w a ps:=by
 have h2:=h
 rcases h.2 with ⟨rfl,h0⟩ | ⟨g,cap,cur,rfl,_⟩
 ·obtain rfl:ps=[]:=List.length_eq_zero_iff.1 (by omega)
  exact ⟨none,0,rfl,.inl rfl⟩
 ·refine ⟨_,_,by rw [hn],.inr ⟨g,0,rfl,(h.lt g rfl).2,fun i hi=>?_⟩⟩
  have l2:i*2<(flat ps).length:=by rw [gY];omega
  have l3:i*2+1<(flat ps).length:=by rw [gY];omega
  rw [Nat.zero_add,h.cellAt (i*2) (by rw [gY] at l2;omega),h.cellAt (i*2+1) (by rw [gY] at l3;omega)]
  exact aB6 ps i hi
theorem wE {w:World}{base e n:Nat}{v:Value}{xs:List Int}(h:w.ownsRow base e 1 v n (ivs xs)) (hn:n=xs.length):∃a c,v=.slice a xs.length c∧IntsAt w a xs:=by
 rcases h.2 with ⟨rfl,h0⟩ | ⟨g,cap,cur,rfl,_⟩
 ·obtain rfl:xs=[]:=List.length_eq_zero_iff.1 (by omega)
  exact ⟨none,0,rfl,.inl rfl⟩
 ·refine ⟨_,_,by rw [hn],.inr ⟨g,0,rfl,(h.lt g rfl).2,fun i hi=>?_⟩⟩
  rw [Nat.zero_add,h.cellAt i (by omega)]
  simp [ivs,hi]
section
variable {n:Nat}{ls gs:List (Int×Int)}{os:List Int}
theorem aD5:(nmL (slN1 n ls gs) ls ls.length).map (fun p=>p.1.toNat)++ (nmO (slN1 n ls gs) os os.length).map (fun s=>s.toNat)=sP n ls gs os:=by
 rw [aBK,aBL,List.map_map,List.map_map]
 rfl
theorem aK5:nmL (slN2 n ls gs os) (nmL (slN1 n ls gs) ls ls.length) (nmL (slN1 n ls gs) ls ls.length).length=slL n ls gs os:=by
 rw [aBK,aBK,List.map_map]
 rfl
theorem aK6:nmO (slN2 n ls gs os) (nmO (slN1 n ls gs) os os.length) (nmO (slN1 n ls gs) os os.length).length=slO n ls gs os:=by
 rw [aBL,aBL,List.map_map]
 rfl
theorem aG4 {l:List Nat}{i k:Nat}(hi:i<k):(nmL l ls k).getD i (0,0)=((putS l (ls.getD i (0,0)).1.toNat:Int),(ls.getD i (0,0)).2):=by simp [nmL,hi]
theorem aG5 {l:List Nat}{i k:Nat}(hi:i<k):(nmO l os k).getD i 0=(putS l (os.getD i 0).toNat:Int):=by simp [nmO,hi]
end
theorem aIR {tmps:Array Value}{Q:Ending→World→Prop}{w:World}{b:Nat}{v0 v1 v2 v3:Value}(h:w.heap[b]?=some (.cells #[v0,v1,v2,v3] 34 (0,0)))
  (h6:tmps[2]?.getD undef=.pointer (some ⟨b,0,none⟩)) (hQ:Q (.returned (.agg #[v0,v1,v2,v3])) w) :
  bodyPost Tryz.prog Tryz.f55 Q Exit.ret ⟨tmps,[]⟩ w:=by
 obtain ⟨c0,c1,c2,c3⟩:=aK h
 exact bodyPost_ret (by simp [results,Tryz.results55,go_sem,h6,c0,c1,c2,c3]) rfl hQ
theorem aD9 {tmps:Array Value}{Q:Ending→World→Prop}{w:World}{b:Nat}{v0 v1 v2 v3 y:Value}(h:w.heap[b]?=some (.cells #[v0,v1,v2,v3] 34 (0,0)))
  (h4:tmps[2]?.getD undef=.pointer (some ⟨b,0,none⟩)) (h5:tmps[3]?.getD undef=y) (hQ:Q (.returned (.tuple #[.agg #[v0,v1,v2,v3],y])) w) :
  bodyPost Tryz.prog Tryz.f27 Q Exit.ret ⟨tmps,[]⟩ w:=by
 obtain ⟨c0,c1,c2,c3⟩:=aK h
 exact bodyPost_ret (by simp [results,Tryz.results27,go_sem,h4,h5,c0,c1,c2,c3]) rfl hQ
theorem aM6 (n:Nat) (la ga oa:Option Addr) (lc gc oc:Nat) (ls gs:List (Int×Int)) (os:List Int) (w:World) (hr:RightN n ls gs os) (hL:PairsAt w la ls) (hG:PairsAt w ga gs) (hO:IntsAt w oa os) :
  Calls Tryz.prog 55 #[.agg #[.int .i64 n,.slice la ls.length lc,.slice ga gs.length gc,.slice oa os.length oc]] w (aHI w n (slL n ls gs os) (slG n ls gs os) (slO n ls gs os)):=by
 obtain ⟨W2,hW2⟩:∃W2,W2=(w.alloc (.cells #[.int .i64 n,.slice la ls.length lc,.slice ga gs.length gc,.slice oa os.length oc] 34)).alloc (.cells #[.int .i64 0,.slice none 0 0,.slice none 0 0,.slice none 0 0] 34):=⟨_,rfl⟩
 have s2:W2.heap.size=w.heap.size+2:=by rw [hW2];simp
 have B2:Below w.heap.size w W2:=by rw [hW2];exact ((Below.refl _ _).alloc (Nat.le_refl _) _).alloc (by simp) _
 have bC2:W2.heap[w.heap.size]?=some (.cells #[.int .i64 n,.slice la ls.length lc,.slice ga gs.length gc,.slice oa os.length oc] 34 (0,0)):=by rw [hW2];exact aA (aB _ _ _ rfl)
 have bA2:W2.heap[w.heap.size+1]?=some (.cells #[.int .i64 0,.slice none 0 0,.slice none 0 0,.slice none 0 0] 34 (0,0)):=by rw [hW2];exact aB _ _ _ (by simp)
 obtain ⟨q0,q1,q2,q3⟩:W2.cell? ⟨w.heap.size,0,none⟩=some (.int .i64 n)∧W2.cell? ⟨w.heap.size,1,none⟩=some (.slice la ls.length lc)∧W2.cell? ⟨w.heap.size,2,none⟩=some (.slice ga gs.length gc)∧W2.cell? ⟨w.heap.size,3,none⟩=some (.slice oa os.length oc):=by
  refine ⟨?_,?_,?_,?_⟩<;> (rw [cell_of_row _ _ _ _ _ _ bC2];rfl)
 have call1:=aJU n la ga oa lc gc oc ls gs os W2 hr (hL.below B2) (hG.below B2) (hO.below B2);obtain ⟨L1,hL1⟩:∃x,x=nmL (slN1 n ls gs) ls ls.length:=⟨_,rfl⟩
 obtain ⟨O1,hO1⟩:∃x,x=nmO (slN1 n ls gs) os os.length:=⟨_,rfl⟩
 obtain ⟨kp,hkp⟩:∃x,x=fJ n ls gs:=⟨_,rfl⟩
 obtain ⟨F,hF⟩:∃F,F=n+ls.length+1:=⟨_,rfl⟩
 have lL1:L1.length=ls.length:=by rw [hL1,jA]
 have lO1:O1.length=os.length:=by rw [hO1,jB]
 have hok:mI F kp:=by rw [hkp,hF];exact hr.keptOk
 have kle:kp.length≤gs.length:=by rw [hkp];exact sN
 have fL:∀i,i<L1.length→0≤(L1.getD i (0,0)).1∧(L1.getD i (0,0)).1.toNat / 2<F+kp.length:=fun i hi=>by
  rw [lL1] at hi;have:=wU hr (hr.lat i hi).2.1;rw [hL1,aG4 hi,hF,hkp];dsimp only;rw [Int.toNat_natCast]
  exact ⟨Int.natCast_nonneg _,this⟩
 have fO:∀i,i<O1.length→0≤O1.getD i 0∧(O1.getD i 0).toNat / 2<F+kp.length:=fun i hi=>by
  rw [lO1] at hi;have:=wU hr (hr.out i hi).2;rw [hO1,aG5 hi,hF,hkp,Int.toNat_natCast]
  exact ⟨Int.natCast_nonneg _,this⟩
 have call2:∀W la' ga' oa' lc' gc' oc',PairsAt W la' L1→PairsAt W ga' (z2 kp)→IntsAt W oa' O1→Calls Tryz.prog 81 #[.agg #[.int .i64 n,.slice la' L1.length lc',.slice ga' (z2 kp).length gc',.slice oa' O1.length oc']] W (aHI W n (slL n ls gs os) (slG n ls gs os) (slO n ls gs os)):=fun W la' ga' oa' lc' gc' oc' pL pG pO=>by
  have h:=aJV n F la' ga' oa' lc' gc' oc' L1 (z2 kp) O1 kp W hr.n4 (by rw [lL1];exact hr.l4) (by rw [fZ];have:=hr.g30;omega) (by rw [lO1];exact hr.o4) (by rw [lL1];exact hF) rfl hok fL fO pL pG pO;have e1:L1.map (fun p=>p.1.toNat)++ O1.map (fun s=>s.toNat)=sP n ls gs os:=by rw [hL1,hO1];exact aD5
  have e2:(sl2 F (need F (sP n ls gs os) kp kp.length) kp kp.length).1=slN2 n ls gs os:=by rw [hF,hkp];rfl
  have e3:(sl2 F (need F (sP n ls gs os) kp kp.length) kp kp.length).2=uZ n ls gs os:=by rw [hF,hkp];rfl
  rw [e1,e2,e3,hL1,hO1,aK5,aK6] at h;rw [hL1,hO1]
  exact h
 rw [←hL1,←hO1,←hkp] at call1;clear hL1 hO1 hkp hF lL1 lO1 hok kle fL fO;obtain ⟨SL,hSL⟩:∃x,x=slL n ls gs os:=⟨_,rfl⟩
 obtain ⟨SG,hSG⟩:∃x,x=slG n ls gs os:=⟨_,rfl⟩
 obtain ⟨SO,hSO⟩:∃x,x=slO n ls gs os:=⟨_,rfl⟩
 rw [←hSL,←hSG,←hSO] at call2;rw [←hSL,←hSG,←hSO];clear hSL hSG hSO hr
 go_enter Tryz.func55,Tryz.ntmps55
 go_upto_region 1 with fail
 rw [←hW2];clear hW2
 go_wp2_with fail
 refine call1.mono ?_;rintro e W3 ⟨lv,gv,ov,rfl,oL,oG,oO,d1,d2,d3,b3⟩;have bA3:=(b3.block (w.heap.size+1) (by omega)).trans bA2;obtain ⟨la',lc',rfl,pL⟩:=iM oL rfl;obtain ⟨ga',gc',rfl,pG⟩:=iM oG rfl;obtain ⟨oa',oc',rfl,pO⟩:=wE oO rfl;have hc2:=call2 W3 la' ga' oa' lc' gc' oc' pL pG pO;have s3:=b3.size;clear call1 call2 q0 q1 q2 q3 bC2 bA2 oL oG oO d1 d2 d3 pL pG pO
 go_wp2_with fail
 refine hc2.mono ?_;rintro e w1 ⟨lv,gv,ov,rfl,oL,oG,oO,d1,d2,d3,b1⟩;have bA1:=(b1.block (w.heap.size+1) (by omega)).trans bA3;obtain ⟨u0,u1,u2,u3⟩:=aK bA1;have v0:w1.frozen? ⟨w.heap.size+1,0,none⟩=false:=frozen_of_row _ _ _ _ _ bA1;have v1:w1.frozen? ⟨w.heap.size+1,1,none⟩=false:=frozen_of_row _ _ _ _ _ bA1;have v2:w1.frozen? ⟨w.heap.size+1,2,none⟩=false:=frozen_of_row _ _ _ _ _ bA1;have v3:w1.frozen? ⟨w.heap.size+1,3,none⟩=false:=frozen_of_row _ _ _ _ _ bA1;obtain ⟨la2,ln2,lc2,rfl⟩:=bQ oL;obtain ⟨ga2,gn2,gc2,rfl⟩:=bQ oG;obtain ⟨oa2,on2,oc2,rfl⟩:=bQ oO;have bel1:Below w.heap.size w w1:=(B2.trans (b3.mono B2.size)).trans (b1.mono (Nat.le_trans B2.size s3));clear hc2;go_wp2;refine aIR (b:=w.heap.size+1) (aS bA1 _ _ _ _) (by rfl) ?_
 exact ⟨_,_,_,rfl,bG (b:=w.heap.size+1) oL (by omega) (by omega) _ _ _ _,bG (b:=w.heap.size+1) oG (by omega) (by omega) _ _ _ _,bG (b:=w.heap.size+1) oO (by omega) (by omega) _ _ _ _,d1,d2,d3,aH bel1 (by omega) _ _ _ _⟩
def aAV (w:World) (N:Nat) (ls gs:List (Int×Int)) (os:List Int) (e:Ending) (w':World):Prop :=
 ∃lv gv ov,e=.returned (.tuple #[.agg #[.int .i64 N,lv,gv,ov],.int .i64 0])∧w'.ownsRow w.heap.size 54 2 lv ls.length (flat ls)∧w'.ownsRow w.heap.size 56 2 gv gs.length (flat gs)∧w'.ownsRow w.heap.size 3 1 ov os.length (ivs os)∧
  (∀q,lv.ownBlock=some q→gv.ownBlock≠some q)∧(∀q,lv.ownBlock=some q→ov.ownBlock≠some q)∧(∀q,gv.ownBlock=some q→ov.ownBlock≠some q)∧Below w.heap.size w w'
theorem aLH (n:Nat) (la ga oa:Option Addr) (lc gc oc:Nat) (ls gs:List (Int×Int)) (os:List Int) (w:World) (hr:aG n ls gs os=true) (hL:PairsAt w la ls) (hG:PairsAt w ga gs) (hO:IntsAt w oa os) :
  Calls Tryz.prog 27 #[.agg #[.int .i64 n,.slice la ls.length lc,.slice ga gs.length gc,.slice oa os.length oc]] w (aAV w n (slL n ls gs os) (slG n ls gs os) (slO n ls gs os)):=by
 obtain ⟨W2,hW2⟩:∃W2,W2=(w.alloc (.cells #[.int .i64 n,.slice la ls.length lc,.slice ga gs.length gc,.slice oa os.length oc] 34)).alloc (.cells #[.int .i64 0,.slice none 0 0,.slice none 0 0,.slice none 0 0] 34):=⟨_,rfl⟩
 have s2:W2.heap.size=w.heap.size+2:=by rw [hW2];simp
 have B2:Below w.heap.size w W2:=by rw [hW2];exact ((Below.refl _ _).alloc (Nat.le_refl _) _).alloc (by simp) _
 have bC2:W2.heap[w.heap.size]?=some (.cells #[.int .i64 n,.slice la ls.length lc,.slice ga gs.length gc,.slice oa os.length oc] 34 (0,0)):=by rw [hW2];exact aA (aB _ _ _ rfl)
 have bA2:W2.heap[w.heap.size+1]?=some (.cells #[.int .i64 0,.slice none 0 0,.slice none 0 0,.slice none 0 0] 34 (0,0)):=by rw [hW2];exact aB _ _ _ (by simp)
 obtain ⟨q0,q1,q2,q3⟩:W2.cell? ⟨w.heap.size,0,none⟩=some (.int .i64 n)∧W2.cell? ⟨w.heap.size,1,none⟩=some (.slice la ls.length lc)∧W2.cell? ⟨w.heap.size,2,none⟩=some (.slice ga gs.length gc)∧W2.cell? ⟨w.heap.size,3,none⟩=some (.slice oa os.length oc):=by
  refine ⟨?_,?_,?_,?_⟩<;> (rw [cell_of_row _ _ _ _ _ _ bC2];rfl)
 go_enter Tryz.func27,Tryz.ntmps27
 go_upto_region 1 with fail
 rw [←hW2];clear hW2
 go_wp2_with fail
 refine (cI W2 (hL.below B2) (hG.below B2) (hO.below B2) hr).mono ?_;rintro e W3 ⟨rfl,b3⟩;have B3:Below w.heap.size w W3:=B2.trans (b3.mono B2.size);have bC3:=(b3.block w.heap.size (by omega)).trans bC2;have bA3:=(b3.block (w.heap.size+1) (by omega)).trans bA2;have s3:=b3.size;clear q0 q1 q2 q3 bC2 bA2;obtain ⟨q0,q1,q2,q3⟩:W3.cell? ⟨w.heap.size,0,none⟩=some (.int .i64 n)∧W3.cell? ⟨w.heap.size,1,none⟩=some (.slice la ls.length lc)∧W3.cell? ⟨w.heap.size,2,none⟩=some (.slice ga gs.length gc)∧W3.cell? ⟨w.heap.size,3,none⟩=some (.slice oa os.length oc):=by
  refine ⟨?_,?_,?_,?_⟩<;> (rw [cell_of_row _ _ _ _ _ _ bC3];rfl)
 have call:=aM6 n la ga oa lc gc oc ls gs os W3 (rightN_iff.1 hr) (hL.below B3) (hG.below B3) (hO.below B3);obtain ⟨SL,hSL⟩:∃x,x=slL n ls gs os:=⟨_,rfl⟩
 obtain ⟨SG,hSG⟩:∃x,x=slG n ls gs os:=⟨_,rfl⟩
 obtain ⟨SO,hSO⟩:∃x,x=slO n ls gs os:=⟨_,rfl⟩
 rw [←hSL,←hSG,←hSO] at call;have HSL:=aE hSL;have HSG:=aE hSG;have HSO:=aE hSO;clear hSL hSG hSO hr
 go_wp2_with fail
 refine call.mono ?_;rintro e w1 ⟨lv,gv,ov,rfl,oL,oG,oO,d1,d2,d3,b1⟩;have bA1:=(b1.block (w.heap.size+1) (by omega)).trans bA3;obtain ⟨u0,u1,u2,u3⟩:=aK bA1;have v0:w1.frozen? ⟨w.heap.size+1,0,none⟩=false:=frozen_of_row _ _ _ _ _ bA1;have v1:w1.frozen? ⟨w.heap.size+1,1,none⟩=false:=frozen_of_row _ _ _ _ _ bA1;have v2:w1.frozen? ⟨w.heap.size+1,2,none⟩=false:=frozen_of_row _ _ _ _ _ bA1;have v3:w1.frozen? ⟨w.heap.size+1,3,none⟩=false:=frozen_of_row _ _ _ _ _ bA1;obtain ⟨la2,ln2,lc2,rfl⟩:=bQ oL;obtain ⟨ga2,gn2,gc2,rfl⟩:=bQ oG;obtain ⟨oa2,on2,oc2,rfl⟩:=bQ oO;have bel1:Below w.heap.size w w1:=B3.trans (b1.mono B3.size);clear call q0 q1 q2 q3;go_wp2;refine aD9 (b:=w.heap.size+1) (aS bA1 _ _ _ _) (by rfl) (by rfl) ?_;rw [←HSL.out,←HSG.out,←HSO.out]
 exact ⟨_,_,_,rfl,bG (b:=w.heap.size+1) oL (by omega) (by omega) _ _ _ _,bG (b:=w.heap.size+1) oG (by omega) (by omega) _ _ _ _,bG (b:=w.heap.size+1) oO (by omega) (by omega) _ _ _ _,d1,d2,d3,aH bel1 (by omega) _ _ _ _⟩
end Go.Proofs.YtgpaajdfkekjiaaGreatDoor
