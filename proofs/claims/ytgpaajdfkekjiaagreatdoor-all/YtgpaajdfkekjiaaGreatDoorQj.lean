/-
  A part of the proof of the statement All: texts of ours, made small by program (blanks, names).
-/
import Derived.Test.YtgpaajdfkekjiaaGreatDoorPg
import Derived.Test.YtgpaajdfkekjiaaGreatDoorQg
import Derived.Test.YtgpaajdfkekjiaaGreatDoorPf
import Derived.Test.YtgpaajdfkekjiaaGreatDoorQi
namespace Go.Proofs.YtgpaajdfkekjiaaGreatDoor
set_option maxHeartbeats 8000000
set_option maxRecDepth 100000
open Go.RowKit
theorem iQ {tmps:Array Value}{Q:Ending→World→Prop}{w:World}{b:Nat}{v0 v1 v2 v3 y:Value}(h:w.heap[b]?=some (.cells #[v0,v1,v2,v3] 82 (0,0)))
  (h4:tmps[4]?.getD undef=.pointer (some ⟨b,0,none⟩)) (h5:tmps[5]?.getD undef=y) (hQ:Q (.returned (.tuple #[.agg #[v0,v1,v2,v3],y])) w) :
  bodyPost Tryz.prog Tryz.f34 Q Exit.ret ⟨tmps,[]⟩ w:=by
 obtain ⟨c0,c1,c2,c3⟩:=aK h
 exact bodyPost_ret (by simp [results,Tryz.results34,go_sem,h4,h5,c0,c1,c2,c3]) rfl hQ
theorem aL5 (n m:Int) (la ga:List (Int×Int)) (oa:List Int) (lb gb:List (Int×Int)) (ob:List Int) (la1 ga1 oa1 lb1 gb1 ob1:Option Addr) (lc1 gc1 oc1 ld1 gd1 od1:Nat) (w:World)
  (ra:aG n la ga oa=false) (rb:aG m lb gb ob=false)
  (fLa:∀i,i<la.length→Fits (la.getD i (0,0)).1) (fGa:∀i,i<ga.length→Fits (ga.getD i (0,0)).1∧Fits (ga.getD i (0,0)).2) (fOa:∀i,i<oa.length→Fits (oa.getD i 0))
  (fLb:∀i,i<lb.length→Fits (lb.getD i (0,0)).1) (fGb:∀i,i<gb.length→Fits (gb.getD i (0,0)).1∧Fits (gb.getD i (0,0)).2) (fOb:∀i,i<ob.length→Fits (ob.getD i 0))
  (pLa:PairsAt w la1 la) (pGa:PairsAt w ga1 ga) (pOa:IntsAt w oa1 oa) (pLb:PairsAt w lb1 lb) (pGb:PairsAt w gb1 gb) (pOb:IntsAt w ob1 ob) :
  Calls Tryz.prog 34 #[.agg #[.int .i64 n,.slice la1 la.length lc1,.slice ga1 ga.length gc1,.slice oa1 oa.length oc1],.agg #[.int .i64 m,.slice lb1 lb.length ld1,.slice gb1 gb.length gd1,.slice ob1 ob.length od1]] w fun e w' =>
   e=.returned (.tuple #[.agg #[.bool false,.int .i64 0,.slice none 0 0,.int .i64 0],.int .i64 2])∧Below w.heap.size w w':=by
 have rgA:∀W,Below w.heap.size w W→Calls Tryz.prog 46 #[.agg #[.int .i64 n,.slice la1 la.length lc1,.slice ga1 ga.length gc1,.slice oa1 oa.length oc1]] W fun e w'=>e=.returned (.bool false)∧Below W.heap.size W w':=fun W hW=>by
  have h:=bH n la1 ga1 oa1 lc1 gc1 oc1 la ga oa W (pLa.below hW) (pGa.below hW) (pOa.below hW) fLa fGa fOa;rw [ra] at h
  exact h
 have rgB:∀W,Below w.heap.size w W→Calls Tryz.prog 46 #[.agg #[.int .i64 m,.slice lb1 lb.length ld1,.slice gb1 gb.length gd1,.slice ob1 ob.length od1]] W fun e w'=>e=.returned (.bool false)∧Below W.heap.size W w':=fun W hW=>by
  have h:=bH m lb1 gb1 ob1 ld1 gd1 od1 lb gb ob W (pLb.below hW) (pGb.below hW) (pOb.below hW) fLb fGb fOb;rw [rb] at h
  exact h
 have RGA:=aI rgA;have RGB:=aI rgB;clear rgA rgB ra rb fLa fGa fOa fLb fGb fOb pLa pGa pOa pLb pGb pOb;obtain ⟨W3,hW3⟩:∃W3,W3=((w.alloc (.cells #[.int .i64 n,.slice la1 la.length lc1,.slice ga1 ga.length gc1,.slice oa1 oa.length oc1] 34)).alloc (.cells #[.int .i64 m,.slice lb1 lb.length ld1,.slice gb1 gb.length gd1,.slice ob1 ob.length od1] 34)).alloc (.cells #[.bool false,.int .i64 0,.slice none 0 0,.int .i64 0] 82):=⟨_,rfl⟩
 have s3:W3.heap.size=w.heap.size+3:=by rw [hW3];simp
 have B3:Below w.heap.size w W3:=by rw [hW3];exact (((Below.refl _ _).alloc (Nat.le_refl _) _).alloc (by simp) _).alloc (by simp;omega) _
 have xA:W3.heap[w.heap.size]?=some (.cells #[.int .i64 n,.slice la1 la.length lc1,.slice ga1 ga.length gc1,.slice oa1 oa.length oc1] 34 (0,0)):=by rw [hW3];exact aA (aA (aB _ _ _ rfl))
 have xB:W3.heap[w.heap.size+1]?=some (.cells #[.int .i64 m,.slice lb1 lb.length ld1,.slice gb1 gb.length gd1,.slice ob1 ob.length od1] 34 (0,0)):=by rw [hW3];exact aA (aB _ _ _ (by simp))
 have xR:W3.heap[w.heap.size+1+1]?=some (.cells #[.bool false,.int .i64 0,.slice none 0 0,.int .i64 0] 82 (0,0)):=by rw [hW3];exact aB _ _ _ (by simp)
 obtain ⟨A0,A1,A2,A3,D0,D1,D2,D3⟩:=row8 xA xB
 go_enter Tryz.func34,Tryz.ntmps34
 go_upto_region 1 with fail
 rw [←hW3];clear hW3
 go_wp2_with fail
 refine (RGA.out W3 B3).mono ?_;rintro r w4 ⟨rfl,b4⟩;have B4:Below w.heap.size w w4:=B3.trans (b4.mono B3.size);have yA:=(b4.block w.heap.size (by omega)).trans xA;have yB:=(b4.block (w.heap.size+1) (by omega)).trans xB;have yR:=(b4.block (w.heap.size+1+1) (by omega)).trans xR;have s4:=b4.size;clear A0 A1 A2 A3 D0 D1 D2 D3 xA xB xR;obtain ⟨A0,A1,A2,A3,D0,D1,D2,D3⟩:=row8 yA yB
 go_wp2_with fail
 refine (RGB.out w4 B4).mono ?_;rintro r w5 ⟨rfl,b5⟩;have B5:Below w.heap.size w w5:=B4.trans (b5.mono B4.size);have zA:=(b5.block w.heap.size (by omega)).trans yA;have zB:=(b5.block (w.heap.size+1) (by omega)).trans yB;have zR:=(b5.block (w.heap.size+1+1) (by omega)).trans yR;have s5:=b5.size;clear A0 A1 A2 A3 D0 D1 D2 D3 yA yB yR b4 b5;obtain ⟨A0,A1,A2,A3,D0,D1,D2,D3⟩:=row8 zA zB;obtain ⟨F0,F1,F2,F3⟩:=aK zR;have G0:w5.frozen? ⟨w.heap.size+1+1,0,none⟩=false:=frozen_of_row _ _ _ _ _ zR;have G1:w5.frozen? ⟨w.heap.size+1+1,1,none⟩=false:=frozen_of_row _ _ _ _ _ zR;have G2:w5.frozen? ⟨w.heap.size+1+1,2,none⟩=false:=frozen_of_row _ _ _ _ _ zR;have G3:w5.frozen? ⟨w.heap.size+1+1,3,none⟩=false:=frozen_of_row _ _ _ _ _ zR;go_wp2;refine iQ (b:=w.heap.size+1+1) (dD zR _ _ _ _) (by rfl) (by rfl) ?_
 exact ⟨rfl,aH B5 (by omega) _ _ _ _⟩
theorem aL6 (n m:Int) (la ga:List (Int×Int)) (oa:List Int) (lb gb:List (Int×Int)) (ob:List Int) (la1 ga1 oa1 lb1 gb1 ob1:Option Addr) (lc1 gc1 oc1 ld1 gd1 od1:Nat) (w:World)
  (ra:aG n la ga oa=false) (rb:aG m lb gb ob=true)
  (fLa:∀i,i<la.length→Fits (la.getD i (0,0)).1) (fGa:∀i,i<ga.length→Fits (ga.getD i (0,0)).1∧Fits (ga.getD i (0,0)).2) (fOa:∀i,i<oa.length→Fits (oa.getD i 0))
  (fLb:∀i,i<lb.length→Fits (lb.getD i (0,0)).1) (fGb:∀i,i<gb.length→Fits (gb.getD i (0,0)).1∧Fits (gb.getD i (0,0)).2) (fOb:∀i,i<ob.length→Fits (ob.getD i 0))
  (pLa:PairsAt w la1 la) (pGa:PairsAt w ga1 ga) (pOa:IntsAt w oa1 oa) (pLb:PairsAt w lb1 lb) (pGb:PairsAt w gb1 gb) (pOb:IntsAt w ob1 ob) :
  Calls Tryz.prog 34 #[.agg #[.int .i64 n,.slice la1 la.length lc1,.slice ga1 ga.length gc1,.slice oa1 oa.length oc1],.agg #[.int .i64 m,.slice lb1 lb.length ld1,.slice gb1 gb.length gd1,.slice ob1 ob.length od1]] w fun e w' =>
   e=.returned (.tuple #[.agg #[.bool false,.int .i64 0,.slice none 0 0,.int .i64 0],.int .i64 2])∧Below w.heap.size w w':=by
 have rgA:∀W,Below w.heap.size w W→Calls Tryz.prog 46 #[.agg #[.int .i64 n,.slice la1 la.length lc1,.slice ga1 ga.length gc1,.slice oa1 oa.length oc1]] W fun e w'=>e=.returned (.bool false)∧Below W.heap.size W w':=fun W hW=>by
  have h:=bH n la1 ga1 oa1 lc1 gc1 oc1 la ga oa W (pLa.below hW) (pGa.below hW) (pOa.below hW) fLa fGa fOa;rw [ra] at h
  exact h
 have rgB:∀W,Below w.heap.size w W→Calls Tryz.prog 46 #[.agg #[.int .i64 m,.slice lb1 lb.length ld1,.slice gb1 gb.length gd1,.slice ob1 ob.length od1]] W fun e w'=>e=.returned (.bool true)∧Below W.heap.size W w':=fun W hW=>by
  have h:=bH m lb1 gb1 ob1 ld1 gd1 od1 lb gb ob W (pLb.below hW) (pGb.below hW) (pOb.below hW) fLb fGb fOb;rw [rb] at h
  exact h
 have RGA:=aI rgA;have RGB:=aI rgB;clear rgA rgB ra rb fLa fGa fOa fLb fGb fOb pLa pGa pOa pLb pGb pOb;obtain ⟨W3,hW3⟩:∃W3,W3=((w.alloc (.cells #[.int .i64 n,.slice la1 la.length lc1,.slice ga1 ga.length gc1,.slice oa1 oa.length oc1] 34)).alloc (.cells #[.int .i64 m,.slice lb1 lb.length ld1,.slice gb1 gb.length gd1,.slice ob1 ob.length od1] 34)).alloc (.cells #[.bool false,.int .i64 0,.slice none 0 0,.int .i64 0] 82):=⟨_,rfl⟩
 have s3:W3.heap.size=w.heap.size+3:=by rw [hW3];simp
 have B3:Below w.heap.size w W3:=by rw [hW3];exact (((Below.refl _ _).alloc (Nat.le_refl _) _).alloc (by simp) _).alloc (by simp;omega) _
 have xA:W3.heap[w.heap.size]?=some (.cells #[.int .i64 n,.slice la1 la.length lc1,.slice ga1 ga.length gc1,.slice oa1 oa.length oc1] 34 (0,0)):=by rw [hW3];exact aA (aA (aB _ _ _ rfl))
 have xB:W3.heap[w.heap.size+1]?=some (.cells #[.int .i64 m,.slice lb1 lb.length ld1,.slice gb1 gb.length gd1,.slice ob1 ob.length od1] 34 (0,0)):=by rw [hW3];exact aA (aB _ _ _ (by simp))
 have xR:W3.heap[w.heap.size+1+1]?=some (.cells #[.bool false,.int .i64 0,.slice none 0 0,.int .i64 0] 82 (0,0)):=by rw [hW3];exact aB _ _ _ (by simp)
 obtain ⟨A0,A1,A2,A3,D0,D1,D2,D3⟩:=row8 xA xB
 go_enter Tryz.func34,Tryz.ntmps34
 go_upto_region 1 with fail
 rw [←hW3];clear hW3
 go_wp2_with fail
 refine (RGA.out W3 B3).mono ?_;rintro r w4 ⟨rfl,b4⟩;have B4:Below w.heap.size w w4:=B3.trans (b4.mono B3.size);have yA:=(b4.block w.heap.size (by omega)).trans xA;have yB:=(b4.block (w.heap.size+1) (by omega)).trans xB;have yR:=(b4.block (w.heap.size+1+1) (by omega)).trans xR;have s4:=b4.size;clear A0 A1 A2 A3 D0 D1 D2 D3 xA xB xR;obtain ⟨A0,A1,A2,A3,D0,D1,D2,D3⟩:=row8 yA yB
 go_wp2_with fail
 refine (RGB.out w4 B4).mono ?_;rintro r w5 ⟨rfl,b5⟩;have B5:Below w.heap.size w w5:=B4.trans (b5.mono B4.size);have zA:=(b5.block w.heap.size (by omega)).trans yA;have zB:=(b5.block (w.heap.size+1) (by omega)).trans yB;have zR:=(b5.block (w.heap.size+1+1) (by omega)).trans yR;have s5:=b5.size;clear A0 A1 A2 A3 D0 D1 D2 D3 yA yB yR b4 b5;obtain ⟨A0,A1,A2,A3,D0,D1,D2,D3⟩:=row8 zA zB;obtain ⟨F0,F1,F2,F3⟩:=aK zR;have G0:w5.frozen? ⟨w.heap.size+1+1,0,none⟩=false:=frozen_of_row _ _ _ _ _ zR;have G1:w5.frozen? ⟨w.heap.size+1+1,1,none⟩=false:=frozen_of_row _ _ _ _ _ zR;have G2:w5.frozen? ⟨w.heap.size+1+1,2,none⟩=false:=frozen_of_row _ _ _ _ _ zR;have G3:w5.frozen? ⟨w.heap.size+1+1,3,none⟩=false:=frozen_of_row _ _ _ _ _ zR;go_wp2;refine iQ (b:=w.heap.size+1+1) (dD zR _ _ _ _) (by rfl) (by rfl) ?_
 exact ⟨rfl,aH B5 (by omega) _ _ _ _⟩
theorem aL7 (n m:Int) (la ga:List (Int×Int)) (oa:List Int) (lb gb:List (Int×Int)) (ob:List Int) (la1 ga1 oa1 lb1 gb1 ob1:Option Addr) (lc1 gc1 oc1 ld1 gd1 od1:Nat) (w:World)
  (ra:aG n la ga oa=true) (rb:aG m lb gb ob=false)
  (fLa:∀i,i<la.length→Fits (la.getD i (0,0)).1) (fGa:∀i,i<ga.length→Fits (ga.getD i (0,0)).1∧Fits (ga.getD i (0,0)).2) (fOa:∀i,i<oa.length→Fits (oa.getD i 0))
  (fLb:∀i,i<lb.length→Fits (lb.getD i (0,0)).1) (fGb:∀i,i<gb.length→Fits (gb.getD i (0,0)).1∧Fits (gb.getD i (0,0)).2) (fOb:∀i,i<ob.length→Fits (ob.getD i 0))
  (pLa:PairsAt w la1 la) (pGa:PairsAt w ga1 ga) (pOa:IntsAt w oa1 oa) (pLb:PairsAt w lb1 lb) (pGb:PairsAt w gb1 gb) (pOb:IntsAt w ob1 ob) :
  Calls Tryz.prog 34 #[.agg #[.int .i64 n,.slice la1 la.length lc1,.slice ga1 ga.length gc1,.slice oa1 oa.length oc1],.agg #[.int .i64 m,.slice lb1 lb.length ld1,.slice gb1 gb.length gd1,.slice ob1 ob.length od1]] w fun e w' =>
   e=.returned (.tuple #[.agg #[.bool false,.int .i64 0,.slice none 0 0,.int .i64 0],.int .i64 2])∧Below w.heap.size w w':=by
 have rgA:∀W,Below w.heap.size w W→Calls Tryz.prog 46 #[.agg #[.int .i64 n,.slice la1 la.length lc1,.slice ga1 ga.length gc1,.slice oa1 oa.length oc1]] W fun e w'=>e=.returned (.bool true)∧Below W.heap.size W w':=fun W hW=>by
  have h:=bH n la1 ga1 oa1 lc1 gc1 oc1 la ga oa W (pLa.below hW) (pGa.below hW) (pOa.below hW) fLa fGa fOa;rw [ra] at h
  exact h
 have rgB:∀W,Below w.heap.size w W→Calls Tryz.prog 46 #[.agg #[.int .i64 m,.slice lb1 lb.length ld1,.slice gb1 gb.length gd1,.slice ob1 ob.length od1]] W fun e w'=>e=.returned (.bool false)∧Below W.heap.size W w':=fun W hW=>by
  have h:=bH m lb1 gb1 ob1 ld1 gd1 od1 lb gb ob W (pLb.below hW) (pGb.below hW) (pOb.below hW) fLb fGb fOb;rw [rb] at h
  exact h
 have RGA:=aI rgA;have RGB:=aI rgB;clear rgA rgB ra rb fLa fGa fOa fLb fGb fOb pLa pGa pOa pLb pGb pOb;obtain ⟨W3,hW3⟩:∃W3,W3=((w.alloc (.cells #[.int .i64 n,.slice la1 la.length lc1,.slice ga1 ga.length gc1,.slice oa1 oa.length oc1] 34)).alloc (.cells #[.int .i64 m,.slice lb1 lb.length ld1,.slice gb1 gb.length gd1,.slice ob1 ob.length od1] 34)).alloc (.cells #[.bool false,.int .i64 0,.slice none 0 0,.int .i64 0] 82):=⟨_,rfl⟩
 have s3:W3.heap.size=w.heap.size+3:=by rw [hW3];simp
 have B3:Below w.heap.size w W3:=by rw [hW3];exact (((Below.refl _ _).alloc (Nat.le_refl _) _).alloc (by simp) _).alloc (by simp;omega) _
 have xA:W3.heap[w.heap.size]?=some (.cells #[.int .i64 n,.slice la1 la.length lc1,.slice ga1 ga.length gc1,.slice oa1 oa.length oc1] 34 (0,0)):=by rw [hW3];exact aA (aA (aB _ _ _ rfl))
 have xB:W3.heap[w.heap.size+1]?=some (.cells #[.int .i64 m,.slice lb1 lb.length ld1,.slice gb1 gb.length gd1,.slice ob1 ob.length od1] 34 (0,0)):=by rw [hW3];exact aA (aB _ _ _ (by simp))
 have xR:W3.heap[w.heap.size+1+1]?=some (.cells #[.bool false,.int .i64 0,.slice none 0 0,.int .i64 0] 82 (0,0)):=by rw [hW3];exact aB _ _ _ (by simp)
 obtain ⟨A0,A1,A2,A3,D0,D1,D2,D3⟩:=row8 xA xB
 go_enter Tryz.func34,Tryz.ntmps34
 go_upto_region 1 with fail
 rw [←hW3];clear hW3
 go_wp2_with fail
 refine (RGA.out W3 B3).mono ?_;rintro r w4 ⟨rfl,b4⟩;have B4:Below w.heap.size w w4:=B3.trans (b4.mono B3.size);have yA:=(b4.block w.heap.size (by omega)).trans xA;have yB:=(b4.block (w.heap.size+1) (by omega)).trans xB;have yR:=(b4.block (w.heap.size+1+1) (by omega)).trans xR;have s4:=b4.size;clear A0 A1 A2 A3 D0 D1 D2 D3 xA xB xR;obtain ⟨A0,A1,A2,A3,D0,D1,D2,D3⟩:=row8 yA yB
 go_wp2_with fail
 refine (RGB.out w4 B4).mono ?_;rintro r w5 ⟨rfl,b5⟩;have B5:Below w.heap.size w w5:=B4.trans (b5.mono B4.size);have zA:=(b5.block w.heap.size (by omega)).trans yA;have zB:=(b5.block (w.heap.size+1) (by omega)).trans yB;have zR:=(b5.block (w.heap.size+1+1) (by omega)).trans yR;have s5:=b5.size;clear A0 A1 A2 A3 D0 D1 D2 D3 yA yB yR b4 b5;obtain ⟨A0,A1,A2,A3,D0,D1,D2,D3⟩:=row8 zA zB;obtain ⟨F0,F1,F2,F3⟩:=aK zR;have G0:w5.frozen? ⟨w.heap.size+1+1,0,none⟩=false:=frozen_of_row _ _ _ _ _ zR;have G1:w5.frozen? ⟨w.heap.size+1+1,1,none⟩=false:=frozen_of_row _ _ _ _ _ zR;have G2:w5.frozen? ⟨w.heap.size+1+1,2,none⟩=false:=frozen_of_row _ _ _ _ _ zR;have G3:w5.frozen? ⟨w.heap.size+1+1,3,none⟩=false:=frozen_of_row _ _ _ _ _ zR;go_wp2;refine iQ (b:=w.heap.size+1+1) (dD zR _ _ _ _) (by rfl) (by rfl) ?_
 exact ⟨rfl,aH B5 (by omega) _ _ _ _⟩
theorem aBS (n m:Int) (la ga:List (Int×Int)) (oa:List Int) (lb gb:List (Int×Int)) (ob:List Int) (la1 ga1 oa1 lb1 gb1 ob1:Option Addr) (lc1 gc1 oc1 ld1 gd1 od1:Nat) (w:World)
  (ra:aG n la ga oa=true) (rb:aG m lb gb ob=true) (hne:n≠m)
  (fLa:∀i,i<la.length→Fits (la.getD i (0,0)).1) (fGa:∀i,i<ga.length→Fits (ga.getD i (0,0)).1∧Fits (ga.getD i (0,0)).2) (fOa:∀i,i<oa.length→Fits (oa.getD i 0))
  (fLb:∀i,i<lb.length→Fits (lb.getD i (0,0)).1) (fGb:∀i,i<gb.length→Fits (gb.getD i (0,0)).1∧Fits (gb.getD i (0,0)).2) (fOb:∀i,i<ob.length→Fits (ob.getD i 0))
  (pLa:PairsAt w la1 la) (pGa:PairsAt w ga1 ga) (pOa:IntsAt w oa1 oa) (pLb:PairsAt w lb1 lb) (pGb:PairsAt w gb1 gb) (pOb:IntsAt w ob1 ob) :
  Calls Tryz.prog 34 #[.agg #[.int .i64 n,.slice la1 la.length lc1,.slice ga1 ga.length gc1,.slice oa1 oa.length oc1],.agg #[.int .i64 m,.slice lb1 lb.length ld1,.slice gb1 gb.length gd1,.slice ob1 ob.length od1]] w fun e w' =>
   e=.returned (.tuple #[.agg #[.bool false,.int .i64 0,.slice none 0 0,.int .i64 0],.int .i64 4])∧Below w.heap.size w w':=by
 have hnn:(n != m)=true:=by simp [hne]
 have rgA:∀W,Below w.heap.size w W→Calls Tryz.prog 46 #[.agg #[.int .i64 n,.slice la1 la.length lc1,.slice ga1 ga.length gc1,.slice oa1 oa.length oc1]] W fun e w'=>e=.returned (.bool true)∧Below W.heap.size W w':=fun W hW=>by
  have h:=bH n la1 ga1 oa1 lc1 gc1 oc1 la ga oa W (pLa.below hW) (pGa.below hW) (pOa.below hW) fLa fGa fOa;rw [ra] at h
  exact h
 have rgB:∀W,Below w.heap.size w W→Calls Tryz.prog 46 #[.agg #[.int .i64 m,.slice lb1 lb.length ld1,.slice gb1 gb.length gd1,.slice ob1 ob.length od1]] W fun e w'=>e=.returned (.bool true)∧Below W.heap.size W w':=fun W hW=>by
  have h:=bH m lb1 gb1 ob1 ld1 gd1 od1 lb gb ob W (pLb.below hW) (pGb.below hW) (pOb.below hW) fLb fGb fOb;rw [rb] at h
  exact h
 have RGA:=aI rgA;have RGB:=aI rgB;clear rgA rgB ra rb fLa fGa fOa fLb fGb fOb pLa pGa pOa pLb pGb pOb;obtain ⟨W3,hW3⟩:∃W3,W3=((w.alloc (.cells #[.int .i64 n,.slice la1 la.length lc1,.slice ga1 ga.length gc1,.slice oa1 oa.length oc1] 34)).alloc (.cells #[.int .i64 m,.slice lb1 lb.length ld1,.slice gb1 gb.length gd1,.slice ob1 ob.length od1] 34)).alloc (.cells #[.bool false,.int .i64 0,.slice none 0 0,.int .i64 0] 82):=⟨_,rfl⟩
 have s3:W3.heap.size=w.heap.size+3:=by rw [hW3];simp
 have B3:Below w.heap.size w W3:=by rw [hW3];exact (((Below.refl _ _).alloc (Nat.le_refl _) _).alloc (by simp) _).alloc (by simp;omega) _
 have xA:W3.heap[w.heap.size]?=some (.cells #[.int .i64 n,.slice la1 la.length lc1,.slice ga1 ga.length gc1,.slice oa1 oa.length oc1] 34 (0,0)):=by rw [hW3];exact aA (aA (aB _ _ _ rfl))
 have xB:W3.heap[w.heap.size+1]?=some (.cells #[.int .i64 m,.slice lb1 lb.length ld1,.slice gb1 gb.length gd1,.slice ob1 ob.length od1] 34 (0,0)):=by rw [hW3];exact aA (aB _ _ _ (by simp))
 have xR:W3.heap[w.heap.size+1+1]?=some (.cells #[.bool false,.int .i64 0,.slice none 0 0,.int .i64 0] 82 (0,0)):=by rw [hW3];exact aB _ _ _ (by simp)
 obtain ⟨A0,A1,A2,A3,D0,D1,D2,D3⟩:=row8 xA xB
 go_enter Tryz.func34,Tryz.ntmps34
 go_upto_region 1 with fail
 rw [←hW3];clear hW3
 go_wp2_with fail
 refine (RGA.out W3 B3).mono ?_;rintro r w4 ⟨rfl,b4⟩;have B4:Below w.heap.size w w4:=B3.trans (b4.mono B3.size);have yA:=(b4.block w.heap.size (by omega)).trans xA;have yB:=(b4.block (w.heap.size+1) (by omega)).trans xB;have yR:=(b4.block (w.heap.size+1+1) (by omega)).trans xR;have s4:=b4.size;clear A0 A1 A2 A3 D0 D1 D2 D3 xA xB xR;obtain ⟨A0,A1,A2,A3,D0,D1,D2,D3⟩:=row8 yA yB
 go_wp2_with fail
 refine (RGB.out w4 B4).mono ?_;rintro r w5 ⟨rfl,b5⟩;have B5:Below w.heap.size w w5:=B4.trans (b5.mono B4.size);have zA:=(b5.block w.heap.size (by omega)).trans yA;have zB:=(b5.block (w.heap.size+1) (by omega)).trans yB;have zR:=(b5.block (w.heap.size+1+1) (by omega)).trans yR;have s5:=b5.size;clear A0 A1 A2 A3 D0 D1 D2 D3 yA yB yR b4 b5;obtain ⟨A0,A1,A2,A3,D0,D1,D2,D3⟩:=row8 zA zB;obtain ⟨F0,F1,F2,F3⟩:=aK zR;have G0:w5.frozen? ⟨w.heap.size+1+1,0,none⟩=false:=frozen_of_row _ _ _ _ _ zR;have G1:w5.frozen? ⟨w.heap.size+1+1,1,none⟩=false:=frozen_of_row _ _ _ _ _ zR;have G2:w5.frozen? ⟨w.heap.size+1+1,2,none⟩=false:=frozen_of_row _ _ _ _ _ zR;have G3:w5.frozen? ⟨w.heap.size+1+1,3,none⟩=false:=frozen_of_row _ _ _ _ _ zR;go_wp2;refine iQ (b:=w.heap.size+1+1) (dD zR _ _ _ _) (by rfl) (by rfl) ?_
 exact ⟨rfl,aH B5 (by omega) _ _ _ _⟩
theorem aA1 (n m:Int) (la ga:List (Int×Int)) (oa:List Int) (lb gb:List (Int×Int)) (ob:List Int) (la1 ga1 oa1 lb1 gb1 ob1:Option Addr) (lc1 gc1 oc1 ld1 gd1 od1:Nat) (w:World)
  (ra:aG n la ga oa=true) (rb:aG m lb gb ob=true) (hnm:n=m) (hne:oa.length≠ob.length)
  (fLa:∀i,i<la.length→Fits (la.getD i (0,0)).1) (fGa:∀i,i<ga.length→Fits (ga.getD i (0,0)).1∧Fits (ga.getD i (0,0)).2) (fOa:∀i,i<oa.length→Fits (oa.getD i 0))
  (fLb:∀i,i<lb.length→Fits (lb.getD i (0,0)).1) (fGb:∀i,i<gb.length→Fits (gb.getD i (0,0)).1∧Fits (gb.getD i (0,0)).2) (fOb:∀i,i<ob.length→Fits (ob.getD i 0))
  (pLa:PairsAt w la1 la) (pGa:PairsAt w ga1 ga) (pOa:IntsAt w oa1 oa) (pLb:PairsAt w lb1 lb) (pGb:PairsAt w gb1 gb) (pOb:IntsAt w ob1 ob) :
  Calls Tryz.prog 34 #[.agg #[.int .i64 n,.slice la1 la.length lc1,.slice ga1 ga.length gc1,.slice oa1 oa.length oc1],.agg #[.int .i64 m,.slice lb1 lb.length ld1,.slice gb1 gb.length gd1,.slice ob1 ob.length od1]] w fun e w' =>
   e=.returned (.tuple #[.agg #[.bool false,.int .i64 0,.slice none 0 0,.int .i64 0],.int .i64 4])∧Below w.heap.size w w':=by
 have hnn:(n != m)=false:=by simp [hnm]
 have hoo:((oa.length:Int) != (ob.length:Int))=true:=by simp;omega
 clear hnm;have rgA:∀W,Below w.heap.size w W→Calls Tryz.prog 46 #[.agg #[.int .i64 n,.slice la1 la.length lc1,.slice ga1 ga.length gc1,.slice oa1 oa.length oc1]] W fun e w'=>e=.returned (.bool true)∧Below W.heap.size W w':=fun W hW=>by
  have h:=bH n la1 ga1 oa1 lc1 gc1 oc1 la ga oa W (pLa.below hW) (pGa.below hW) (pOa.below hW) fLa fGa fOa;rw [ra] at h
  exact h
 have rgB:∀W,Below w.heap.size w W→Calls Tryz.prog 46 #[.agg #[.int .i64 m,.slice lb1 lb.length ld1,.slice gb1 gb.length gd1,.slice ob1 ob.length od1]] W fun e w'=>e=.returned (.bool true)∧Below W.heap.size W w':=fun W hW=>by
  have h:=bH m lb1 gb1 ob1 ld1 gd1 od1 lb gb ob W (pLb.below hW) (pGb.below hW) (pOb.below hW) fLb fGb fOb;rw [rb] at h
  exact h
 have RGA:=aI rgA;have RGB:=aI rgB;clear rgA rgB ra rb fLa fGa fOa fLb fGb fOb pLa pGa pOa pLb pGb pOb;obtain ⟨W3,hW3⟩:∃W3,W3=((w.alloc (.cells #[.int .i64 n,.slice la1 la.length lc1,.slice ga1 ga.length gc1,.slice oa1 oa.length oc1] 34)).alloc (.cells #[.int .i64 m,.slice lb1 lb.length ld1,.slice gb1 gb.length gd1,.slice ob1 ob.length od1] 34)).alloc (.cells #[.bool false,.int .i64 0,.slice none 0 0,.int .i64 0] 82):=⟨_,rfl⟩
 have s3:W3.heap.size=w.heap.size+3:=by rw [hW3];simp
 have B3:Below w.heap.size w W3:=by rw [hW3];exact (((Below.refl _ _).alloc (Nat.le_refl _) _).alloc (by simp) _).alloc (by simp;omega) _
 have xA:W3.heap[w.heap.size]?=some (.cells #[.int .i64 n,.slice la1 la.length lc1,.slice ga1 ga.length gc1,.slice oa1 oa.length oc1] 34 (0,0)):=by rw [hW3];exact aA (aA (aB _ _ _ rfl))
 have xB:W3.heap[w.heap.size+1]?=some (.cells #[.int .i64 m,.slice lb1 lb.length ld1,.slice gb1 gb.length gd1,.slice ob1 ob.length od1] 34 (0,0)):=by rw [hW3];exact aA (aB _ _ _ (by simp))
 have xR:W3.heap[w.heap.size+1+1]?=some (.cells #[.bool false,.int .i64 0,.slice none 0 0,.int .i64 0] 82 (0,0)):=by rw [hW3];exact aB _ _ _ (by simp)
 obtain ⟨A0,A1,A2,A3,D0,D1,D2,D3⟩:=row8 xA xB
 go_enter Tryz.func34,Tryz.ntmps34
 go_upto_region 1 with fail
 rw [←hW3];clear hW3
 go_wp2_with fail
 refine (RGA.out W3 B3).mono ?_;rintro r w4 ⟨rfl,b4⟩;have B4:Below w.heap.size w w4:=B3.trans (b4.mono B3.size);have yA:=(b4.block w.heap.size (by omega)).trans xA;have yB:=(b4.block (w.heap.size+1) (by omega)).trans xB;have yR:=(b4.block (w.heap.size+1+1) (by omega)).trans xR;have s4:=b4.size;clear A0 A1 A2 A3 D0 D1 D2 D3 xA xB xR;obtain ⟨A0,A1,A2,A3,D0,D1,D2,D3⟩:=row8 yA yB
 go_wp2_with fail
 refine (RGB.out w4 B4).mono ?_;rintro r w5 ⟨rfl,b5⟩;have B5:Below w.heap.size w w5:=B4.trans (b5.mono B4.size);have zA:=(b5.block w.heap.size (by omega)).trans yA;have zB:=(b5.block (w.heap.size+1) (by omega)).trans yB;have zR:=(b5.block (w.heap.size+1+1) (by omega)).trans yR;have s5:=b5.size;clear A0 A1 A2 A3 D0 D1 D2 D3 yA yB yR b4 b5;obtain ⟨A0,A1,A2,A3,D0,D1,D2,D3⟩:=row8 zA zB;obtain ⟨F0,F1,F2,F3⟩:=aK zR;have G0:w5.frozen? ⟨w.heap.size+1+1,0,none⟩=false:=frozen_of_row _ _ _ _ _ zR;have G1:w5.frozen? ⟨w.heap.size+1+1,1,none⟩=false:=frozen_of_row _ _ _ _ _ zR;have G2:w5.frozen? ⟨w.heap.size+1+1,2,none⟩=false:=frozen_of_row _ _ _ _ _ zR;have G3:w5.frozen? ⟨w.heap.size+1+1,3,none⟩=false:=frozen_of_row _ _ _ _ _ zR;go_wp2;refine iQ (b:=w.heap.size+1+1) (dD zR _ _ _ _) (by rfl) (by rfl) ?_
 exact ⟨rfl,aH B5 (by omega) _ _ _ _⟩
theorem tS (n m:Int) (la ga:List (Int×Int)) (oa:List Int) (lb gb:List (Int×Int)) (ob:List Int) (la1 ga1 oa1 lb1 gb1 ob1:Option Addr) (lc1 gc1 oc1 ld1 gd1 od1:Nat) (w:World)
  (fLa:∀i,i<la.length→Fits (la.getD i (0,0)).1) (fGa:∀i,i<ga.length→Fits (ga.getD i (0,0)).1∧Fits (ga.getD i (0,0)).2) (fOa:∀i,i<oa.length→Fits (oa.getD i 0))
  (fLb:∀i,i<lb.length→Fits (lb.getD i (0,0)).1) (fGb:∀i,i<gb.length→Fits (gb.getD i (0,0)).1∧Fits (gb.getD i (0,0)).2) (fOb:∀i,i<ob.length→Fits (ob.getD i 0))
  (pLa:PairsAt w la1 la) (pGa:PairsAt w ga1 ga) (pOa:IntsAt w oa1 oa) (pLb:PairsAt w lb1 lb) (pGb:PairsAt w gb1 gb) (pOb:IntsAt w ob1 ob) :
  Calls Tryz.prog 34 #[.agg #[.int .i64 n,.slice la1 la.length lc1,.slice ga1 ga.length gc1,.slice oa1 oa.length oc1],.agg #[.int .i64 m,.slice lb1 lb.length ld1,.slice gb1 gb.length gd1,.slice ob1 ob.length od1]] w (tV (fQ n la ga oa m lb gb ob) w):=by
 cases ra:aG n la ga oa
 ·cases rb:aG m lb gb ob
  ·exact (aL5 n m la ga oa lb gb ob la1 ga1 oa1 lb1 gb1 ob1 lc1 gc1 oc1 ld1 gd1 od1 w ra rb fLa fGa fOa fLb fGb fOb pLa pGa pOa pLb pGb pOb).mono fun e w' h=>eB (fR (.inl ra)) h
  ·exact (aL6 n m la ga oa lb gb ob la1 ga1 oa1 lb1 gb1 ob1 lc1 gc1 oc1 ld1 gd1 od1 w ra rb fLa fGa fOa fLb fGb fOb pLa pGa pOa pLb pGb pOb).mono fun e w' h=>eB (fR (.inl ra)) h
 ·cases rb:aG m lb gb ob
  ·exact (aL7 n m la ga oa lb gb ob la1 ga1 oa1 lb1 gb1 ob1 lc1 gc1 oc1 ld1 gd1 od1 w ra rb fLa fGa fOa fLb fGb fOb pLa pGa pOa pLb pGb pOb).mono fun e w' h=>eB (fR (.inr rb)) h
  ·by_cases hnm:n=m
   ·by_cases hl:oa.length=ob.length
    ·subst hnm
     obtain ⟨k,rfl⟩:=Int.eq_ofNat_of_zero_le (aBZ ra).1
     exact (aGK k la ga oa lb gb ob la1 ga1 oa1 lb1 gb1 ob1 lc1 gc1 oc1 ld1 gd1 od1 w ra rb hl.symm pLa pGa pOa pLb pGb pOb).mono fun e w' h=>yH ra rb hl h
    ·exact (aA1 n m la ga oa lb gb ob la1 ga1 oa1 lb1 gb1 ob1 lc1 gc1 oc1 ld1 gd1 od1 w ra rb hnm hl fLa fGa fOa fLb fGb fOb pLa pGa pOa pLb pGb pOb).mono fun e w' h=>eB (gX ra rb (.inr hl)) h
   ·exact (aBS n m la ga oa lb gb ob la1 ga1 oa1 lb1 gb1 ob1 lc1 gc1 oc1 ld1 gd1 od1 w ra rb hnm fLa fGa fOa fLb fGb fOb pLa pGa pOa pLb pGb pOb).mono fun e w' h=>eB (gX ra rb (.inl hnm)) h
end Go.Proofs.YtgpaajdfkekjiaaGreatDoor
