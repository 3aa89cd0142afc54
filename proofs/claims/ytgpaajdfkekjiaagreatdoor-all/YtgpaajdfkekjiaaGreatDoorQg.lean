/-
  A part of the proof of the statement All: texts of ours, made small by program (blanks, names).
-/
import Derived.Test.YtgpaajdfkekjiaaGreatDoorPg
import Derived.Test.YtgpaajdfkekjiaaGreatDoorQf
import Derived.Test.YtgpaajdfkekjiaaGreatDoorPa
import Derived.Test.YtgpaajdfkekjiaaGreatDoorPi
import Derived.Test.YtgpaajdfkekjiaaGreatDoorPb
import Derived.BigQuiet
import Derived.Deep.DeepCutAuto
namespace Go.Proofs.YtgpaajdfkekjiaaGreatDoor
set_option maxHeartbeats 8000000
set_option maxRecDepth 100000
open Go.RowKit
theorem aB0 {w:World}{b:Nat}{tmps:Array Value}{v0 v1 v2 v3 y:Value}(h:w.heap[b]?=some (.cells #[v0,v1,v2,v3] 82 (0,0)))
  (h4:tmps[4]?.getD undef=.pointer (some ⟨b,0,none⟩)) (h5:tmps[5]?.getD undef=y) :
  (results Tryz.f33 tmps).run Tryz.prog w=.ok (.tuple #[.agg #[v0,v1,v2,v3],y]) w:=by
 obtain ⟨c0,c1,c2,c3⟩:=aK h
 simp [results,Tryz.results33,go_sem,h4,h5,c0,c1,c2,c3]
theorem jL {tmps:Array Value}{Q:Ending→World→Prop}{w:World}{b:Nat}{v0 v1 v2 v3 y:Value}(h:w.heap[b]?=some (.cells #[v0,v1,v2,v3] 82 (0,0)))
  (h4:tmps[4]?.getD undef=.pointer (some ⟨b,0,none⟩)) (h5:tmps[5]?.getD undef=y) (hQ:Q (.returned (.tuple #[.agg #[v0,v1,v2,v3],y])) w) :
  bodyPost Tryz.prog Tryz.f33 Q Exit.ret ⟨tmps,[]⟩ w:=bodyPost_ret (aB0 h h4 h5) rfl hQ
def aF1 (M:Duo) (w:World) (r:Ending) (w':World):Prop :=
 ∃(same:Bool) (reached:Nat) (trace:List Nat) (d:Nat) (ta:Option Addr) (tc:Nat),M.Says same reached trace d∧r=.returned (.tuple #[.agg #[.bool same,.int .i64 reached,.slice ta trace.length tc,.int .i64 ((if same then 0 else tzN d:Nat):Int)],.int .i64 0])∧
  w'.ownsRow w.heap.size 3 1 (.slice ta trace.length tc) trace.length (aP trace)∧trace.length≤256∧Below w.heap.size w w'
theorem aLQ (n:Nat) (la ga:List (Int×Int)) (oa:List Int) (lb gb:List (Int×Int)) (ob:List Int) (la1 ga1 oa1 lb1 gb1 ob1:Option Addr) (lc1 gc1 oc1 ld1 gd1 od1:Nat) (w:World)
  (ra:aG n la ga oa=true) (rb:aG n lb gb ob=true) (hab:ob.length=oa.length) (hdb:TabDB w)
  (pLa:PairsAt w la1 la) (pGa:PairsAt w ga1 ga) (pOa:IntsAt w oa1 oa) (pLb:PairsAt w lb1 lb) (pGb:PairsAt w gb1 gb) (pOb:IntsAt w ob1 ob) :
  Calls Tryz.prog 33 #[.agg #[.int .i64 n,.slice la1 la.length lc1,.slice ga1 ga.length gc1,.slice oa1 oa.length oc1],.agg #[.int .i64 n,.slice lb1 lb.length ld1,.slice gb1 gb.length gd1,.slice ob1 ob.length od1]] w (aF1 (duo n la ga oa lb gb ob) w):=by
 obtain ⟨W3,hW3⟩:∃W3,W3=((w.alloc (.cells #[.int .i64 n,.slice la1 la.length lc1,.slice ga1 ga.length gc1,.slice oa1 oa.length oc1] 34)).alloc (.cells #[.int .i64 n,.slice lb1 lb.length ld1,.slice gb1 gb.length gd1,.slice ob1 ob.length od1] 34)).alloc (.cells #[.bool false,.int .i64 0,.slice none 0 0,.int .i64 0] 82):=⟨_,rfl⟩
 have s3:W3.heap.size=w.heap.size+3:=by rw [hW3];simp
 have B3:Below w.heap.size w W3:=by rw [hW3];exact (((Below.refl _ _).alloc (Nat.le_refl _) _).alloc (by simp) _).alloc (by simp;omega) _
 have xA:W3.heap[w.heap.size]?=some (.cells #[.int .i64 n,.slice la1 la.length lc1,.slice ga1 ga.length gc1,.slice oa1 oa.length oc1] 34 (0,0)):=by rw [hW3];exact aA (aA (aB _ _ _ rfl))
 have xB:W3.heap[w.heap.size+1]?=some (.cells #[.int .i64 n,.slice lb1 lb.length ld1,.slice gb1 gb.length gd1,.slice ob1 ob.length od1] 34 (0,0)):=by rw [hW3];exact aA (aB _ _ _ (by simp))
 have xR:W3.heap[w.heap.size+1+1]?=some (.cells #[.bool false,.int .i64 0,.slice none 0 0,.int .i64 0] 82 (0,0)):=by rw [hW3];exact aB _ _ _ (by simp)
 obtain ⟨A0,A1,A2,A3,D0,D1,D2,D3⟩:=row8 xA xB;have HAB:=aI hab;have hne:((oa.length:Int) != (ob.length:Int))=false:=by rw [hab];simp
 have hnn:((n:Int) != (n:Int))=false:=by simp
 clear hab
 go_enter Tryz.func33,Tryz.ntmps33
 go_upto_region 1 with fail
 rw [←hW3];clear hW3
 go_wp2_with fail
 refine (cI W3 (pLa.below B3) (pGa.below B3) (pOa.below B3) ra).mono ?_;rintro r w4 ⟨rfl,b4⟩;have blk4:∀k,k<w.heap.size+3→w4.heap[k]?=W3.heap[k]?:=fun k hk=>b4.block k (by omega)
 have B4:Below w.heap.size w w4:=B3.trans (b4.mono B3.size);have yA:=(blk4 w.heap.size (by omega)).trans xA;have yB:=(blk4 (w.heap.size+1) (by omega)).trans xB;have yR:=(blk4 (w.heap.size+1+1) (by omega)).trans xR;have s4:=b4.size;clear A0 A1 A2 A3 D0 D1 D2 D3 xA xB xR blk4;obtain ⟨A0,A1,A2,A3,D0,D1,D2,D3⟩:=row8 yA yB
 go_wp2_with fail
 refine (cI w4 (pLb.below B4) (pGb.below B4) (pOb.below B4) rb).mono ?_;rintro r w5 ⟨rfl,b5⟩;have blk5:∀k,k<w.heap.size+3→w5.heap[k]?=w4.heap[k]?:=fun k hk=>b5.block k (by omega)
 have B5:Below w.heap.size w w5:=B4.trans (b5.mono B4.size);have zA:=(blk5 w.heap.size (by omega)).trans yA;have zB:=(blk5 (w.heap.size+1) (by omega)).trans yB;have zR:=(blk5 (w.heap.size+1+1) (by omega)).trans yR;have s5:=b5.size;clear A0 A1 A2 A3 D0 D1 D2 D3 yA yB yR blk5;obtain ⟨A0,A1,A2,A3,D0,D1,D2,D3⟩:=row8 zA zB;have hof:=aKY n la ga oa lb gb ob la1 ga1 oa1 lb1 gb1 ob1 lc1 gc1 oc1 ld1 gd1 od1 w5 (nQ ra) (nQ rb) HAB.out (hdb.below B5) (pLa.below B5) (pGa.below B5) (pOa.below B5) (pLb.below B5) (pGb.below B5) (pOb.below B5)
 go_wp2_with fail
 refine hof.mono ?_;rintro r w6 ⟨same,reached,trace,d,tv,hsays,rfl,htv,ht256,b6⟩;clear hof;have uR:=(b6.block (w.heap.size+1+1) (by omega)).trans zR;obtain ⟨F0,F1,F2,F3⟩:=aK uR;have G0:w6.frozen? ⟨w.heap.size+1+1,0,none⟩=false:=frozen_of_row _ _ _ _ _ uR;have G1:w6.frozen? ⟨w.heap.size+1+1,1,none⟩=false:=frozen_of_row _ _ _ _ _ uR;have G2:w6.frozen? ⟨w.heap.size+1+1,2,none⟩=false:=frozen_of_row _ _ _ _ _ uR;have G3:w6.frozen? ⟨w.heap.size+1+1,3,none⟩=false:=frozen_of_row _ _ _ _ _ uR;obtain ⟨tx,hx⟩:∃tx:Int,tx=((if same then 0 else tzN d:Nat):Int):=⟨_,rfl⟩
 rw [←hx];have HX:=aI hx;have HS:=aI hsays;have HT:=aI htv;have hform:∃ta tc,tv=.slice ta trace.length tc:=by
  rcases htv.2 with ⟨h1,h2⟩ | ⟨g,cap,cur,h1,_⟩
  ·exact ⟨none,0,by rw [h1,h2]⟩
  ·exact ⟨_,_,h1⟩
 clear hx hsays htv;obtain ⟨ta,tc,rfl⟩:=hform;go_wp2;refine jL (b:=w.heap.size+1+1) (dD uR _ _ _ _) (by rfl) (by rfl) ?_;refine ⟨same,reached,trace,d,ta,tc,HS.out,(by rw [←HX.out];rfl),?_,ht256,aH (B5.trans (b6.mono B5.size)) (by omega) _ _ _ _⟩;have hb:=B5.size
 exact bG HT.out (by omega) hb _ _ _ _
theorem aDN (n m:Int) (la ga:List (Int×Int)) (oa:List Int) (lb gb:List (Int×Int)) (ob:List Int) (la1 ga1 oa1 lb1 gb1 ob1:Option Addr) (lc1 gc1 oc1 ld1 gd1 od1:Nat) (w:World)
  (ra:aG n la ga oa=false)
  (pLa:PairsAt w la1 la) (pGa:PairsAt w ga1 ga) (pOa:IntsAt w oa1 oa) :
  Calls Tryz.prog 33 #[.agg #[.int .i64 n,.slice la1 la.length lc1,.slice ga1 ga.length gc1,.slice oa1 oa.length oc1],.agg #[.int .i64 m,.slice lb1 lb.length ld1,.slice gb1 gb.length gd1,.slice ob1 ob.length od1]] w fun e w' =>
   e=.returned (.tuple #[.agg #[.bool false,.int .i64 0,.slice none 0 0,.int .i64 0],.int .i64 2])∧Below w.heap.size w w':=by
 obtain ⟨W3,hW3⟩:∃W3,W3=((w.alloc (.cells #[.int .i64 n,.slice la1 la.length lc1,.slice ga1 ga.length gc1,.slice oa1 oa.length oc1] 34)).alloc (.cells #[.int .i64 m,.slice lb1 lb.length ld1,.slice gb1 gb.length gd1,.slice ob1 ob.length od1] 34)).alloc (.cells #[.bool false,.int .i64 0,.slice none 0 0,.int .i64 0] 82):=⟨_,rfl⟩
 have s3:W3.heap.size=w.heap.size+3:=by rw [hW3];simp
 have B3:Below w.heap.size w W3:=by rw [hW3];exact (((Below.refl _ _).alloc (Nat.le_refl _) _).alloc (by simp) _).alloc (by simp;omega) _
 have xA:W3.heap[w.heap.size]?=some (.cells #[.int .i64 n,.slice la1 la.length lc1,.slice ga1 ga.length gc1,.slice oa1 oa.length oc1] 34 (0,0)):=by rw [hW3];exact aA (aA (aB _ _ _ rfl))
 have xB:W3.heap[w.heap.size+1]?=some (.cells #[.int .i64 m,.slice lb1 lb.length ld1,.slice gb1 gb.length gd1,.slice ob1 ob.length od1] 34 (0,0)):=by rw [hW3];exact aA (aB _ _ _ (by simp))
 have xR:W3.heap[w.heap.size+1+1]?=some (.cells #[.bool false,.int .i64 0,.slice none 0 0,.int .i64 0] 82 (0,0)):=by rw [hW3];exact aB _ _ _ (by simp)
 obtain ⟨A0,A1,A2,A3,D0,D1,D2,D3⟩:=row8 xA xB
 go_enter Tryz.func33,Tryz.ntmps33
 go_upto_region 1 with fail
 rw [←hW3];clear hW3
 go_wp2_with fail
 refine (cI W3 (pLa.below B3) (pGa.below B3) (pOa.below B3) ra).mono ?_;rintro r w4 ⟨rfl,b4⟩;have blk4:∀k,k<w.heap.size+3→w4.heap[k]?=W3.heap[k]?:=fun k hk=>b4.block k (by omega)
 have B4:Below w.heap.size w w4:=B3.trans (b4.mono B3.size);have yA:=(blk4 w.heap.size (by omega)).trans xA;have yB:=(blk4 (w.heap.size+1) (by omega)).trans xB;have yR:=(blk4 (w.heap.size+1+1) (by omega)).trans xR;have s4:=b4.size;clear A0 A1 A2 A3 D0 D1 D2 D3 xA xB xR blk4;obtain ⟨A0,A1,A2,A3,D0,D1,D2,D3⟩:=row8 yA yB;obtain ⟨F0,F1,F2,F3⟩:=aK yR;have G0:w4.frozen? ⟨w.heap.size+1+1,0,none⟩=false:=frozen_of_row _ _ _ _ _ yR;have G1:w4.frozen? ⟨w.heap.size+1+1,1,none⟩=false:=frozen_of_row _ _ _ _ _ yR;have G2:w4.frozen? ⟨w.heap.size+1+1,2,none⟩=false:=frozen_of_row _ _ _ _ _ yR;have G3:w4.frozen? ⟨w.heap.size+1+1,3,none⟩=false:=frozen_of_row _ _ _ _ _ yR;go_wp2;refine jL (b:=w.heap.size+1+1) (dD yR _ _ _ _) (by rfl) (by rfl) ?_
 exact ⟨rfl,aH B4 (by omega) _ _ _ _⟩
theorem aDO (n m:Int) (la ga:List (Int×Int)) (oa:List Int) (lb gb:List (Int×Int)) (ob:List Int) (la1 ga1 oa1 lb1 gb1 ob1:Option Addr) (lc1 gc1 oc1 ld1 gd1 od1:Nat) (w:World)
  (ra:aG n la ga oa=true) (rb:aG m lb gb ob=false)
  (pLa:PairsAt w la1 la) (pGa:PairsAt w ga1 ga) (pOa:IntsAt w oa1 oa) (pLb:PairsAt w lb1 lb) (pGb:PairsAt w gb1 gb) (pOb:IntsAt w ob1 ob) :
  Calls Tryz.prog 33 #[.agg #[.int .i64 n,.slice la1 la.length lc1,.slice ga1 ga.length gc1,.slice oa1 oa.length oc1],.agg #[.int .i64 m,.slice lb1 lb.length ld1,.slice gb1 gb.length gd1,.slice ob1 ob.length od1]] w fun e w' =>
   e=.returned (.tuple #[.agg #[.bool false,.int .i64 0,.slice none 0 0,.int .i64 0],.int .i64 2])∧Below w.heap.size w w':=by
 obtain ⟨W3,hW3⟩:∃W3,W3=((w.alloc (.cells #[.int .i64 n,.slice la1 la.length lc1,.slice ga1 ga.length gc1,.slice oa1 oa.length oc1] 34)).alloc (.cells #[.int .i64 m,.slice lb1 lb.length ld1,.slice gb1 gb.length gd1,.slice ob1 ob.length od1] 34)).alloc (.cells #[.bool false,.int .i64 0,.slice none 0 0,.int .i64 0] 82):=⟨_,rfl⟩
 have s3:W3.heap.size=w.heap.size+3:=by rw [hW3];simp
 have B3:Below w.heap.size w W3:=by rw [hW3];exact (((Below.refl _ _).alloc (Nat.le_refl _) _).alloc (by simp) _).alloc (by simp;omega) _
 have xA:W3.heap[w.heap.size]?=some (.cells #[.int .i64 n,.slice la1 la.length lc1,.slice ga1 ga.length gc1,.slice oa1 oa.length oc1] 34 (0,0)):=by rw [hW3];exact aA (aA (aB _ _ _ rfl))
 have xB:W3.heap[w.heap.size+1]?=some (.cells #[.int .i64 m,.slice lb1 lb.length ld1,.slice gb1 gb.length gd1,.slice ob1 ob.length od1] 34 (0,0)):=by rw [hW3];exact aA (aB _ _ _ (by simp))
 have xR:W3.heap[w.heap.size+1+1]?=some (.cells #[.bool false,.int .i64 0,.slice none 0 0,.int .i64 0] 82 (0,0)):=by rw [hW3];exact aB _ _ _ (by simp)
 obtain ⟨A0,A1,A2,A3,D0,D1,D2,D3⟩:=row8 xA xB
 go_enter Tryz.func33,Tryz.ntmps33
 go_upto_region 1 with fail
 rw [←hW3];clear hW3
 go_wp2_with fail
 refine (cI W3 (pLa.below B3) (pGa.below B3) (pOa.below B3) ra).mono ?_;rintro r w4 ⟨rfl,b4⟩;have blk4:∀k,k<w.heap.size+3→w4.heap[k]?=W3.heap[k]?:=fun k hk=>b4.block k (by omega)
 have B4:Below w.heap.size w w4:=B3.trans (b4.mono B3.size);have yA:=(blk4 w.heap.size (by omega)).trans xA;have yB:=(blk4 (w.heap.size+1) (by omega)).trans xB;have yR:=(blk4 (w.heap.size+1+1) (by omega)).trans xR;have s4:=b4.size;clear A0 A1 A2 A3 D0 D1 D2 D3 xA xB xR blk4;obtain ⟨A0,A1,A2,A3,D0,D1,D2,D3⟩:=row8 yA yB
 go_wp2_with fail
 refine (cI w4 (pLb.below B4) (pGb.below B4) (pOb.below B4) rb).mono ?_;rintro r w5 ⟨rfl,b5⟩;have blk5:∀k,k<w.heap.size+3→w5.heap[k]?=w4.heap[k]?:=fun k hk=>b5.block k (by omega)
 have B5:Below w.heap.size w w5:=B4.trans (b5.mono B4.size);have zA:=(blk5 w.heap.size (by omega)).trans yA;have zB:=(blk5 (w.heap.size+1) (by omega)).trans yB;have zR:=(blk5 (w.heap.size+1+1) (by omega)).trans yR;clear A0 A1 A2 A3 D0 D1 D2 D3 yA yB yR blk5;obtain ⟨A0,A1,A2,A3,D0,D1,D2,D3⟩:=row8 zA zB;obtain ⟨F0,F1,F2,F3⟩:=aK zR;have G0:w5.frozen? ⟨w.heap.size+1+1,0,none⟩=false:=frozen_of_row _ _ _ _ _ zR;have G1:w5.frozen? ⟨w.heap.size+1+1,1,none⟩=false:=frozen_of_row _ _ _ _ _ zR;have G2:w5.frozen? ⟨w.heap.size+1+1,2,none⟩=false:=frozen_of_row _ _ _ _ _ zR;have G3:w5.frozen? ⟨w.heap.size+1+1,3,none⟩=false:=frozen_of_row _ _ _ _ _ zR;go_wp2;refine jL (b:=w.heap.size+1+1) (dD zR _ _ _ _) (by rfl) (by rfl) ?_
 exact ⟨rfl,aH B5 (by omega) _ _ _ _⟩
theorem aDM (n m:Int) (la ga:List (Int×Int)) (oa:List Int) (lb gb:List (Int×Int)) (ob:List Int) (la1 ga1 oa1 lb1 gb1 ob1:Option Addr) (lc1 gc1 oc1 ld1 gd1 od1:Nat) (w:World)
  (ra:aG n la ga oa=true) (rb:aG m lb gb ob=true) (hne:n≠m)
  (pLa:PairsAt w la1 la) (pGa:PairsAt w ga1 ga) (pOa:IntsAt w oa1 oa) (pLb:PairsAt w lb1 lb) (pGb:PairsAt w gb1 gb) (pOb:IntsAt w ob1 ob) :
  Calls Tryz.prog 33 #[.agg #[.int .i64 n,.slice la1 la.length lc1,.slice ga1 ga.length gc1,.slice oa1 oa.length oc1],.agg #[.int .i64 m,.slice lb1 lb.length ld1,.slice gb1 gb.length gd1,.slice ob1 ob.length od1]] w fun e w' =>
   e=.returned (.tuple #[.agg #[.bool false,.int .i64 0,.slice none 0 0,.int .i64 0],.int .i64 4])∧Below w.heap.size w w':=by
 have hnn:(n != m)=true:=by simp [hne]
 obtain ⟨W3,hW3⟩:∃W3,W3=((w.alloc (.cells #[.int .i64 n,.slice la1 la.length lc1,.slice ga1 ga.length gc1,.slice oa1 oa.length oc1] 34)).alloc (.cells #[.int .i64 m,.slice lb1 lb.length ld1,.slice gb1 gb.length gd1,.slice ob1 ob.length od1] 34)).alloc (.cells #[.bool false,.int .i64 0,.slice none 0 0,.int .i64 0] 82):=⟨_,rfl⟩
 have s3:W3.heap.size=w.heap.size+3:=by rw [hW3];simp
 have B3:Below w.heap.size w W3:=by rw [hW3];exact (((Below.refl _ _).alloc (Nat.le_refl _) _).alloc (by simp) _).alloc (by simp;omega) _
 have xA:W3.heap[w.heap.size]?=some (.cells #[.int .i64 n,.slice la1 la.length lc1,.slice ga1 ga.length gc1,.slice oa1 oa.length oc1] 34 (0,0)):=by rw [hW3];exact aA (aA (aB _ _ _ rfl))
 have xB:W3.heap[w.heap.size+1]?=some (.cells #[.int .i64 m,.slice lb1 lb.length ld1,.slice gb1 gb.length gd1,.slice ob1 ob.length od1] 34 (0,0)):=by rw [hW3];exact aA (aB _ _ _ (by simp))
 have xR:W3.heap[w.heap.size+1+1]?=some (.cells #[.bool false,.int .i64 0,.slice none 0 0,.int .i64 0] 82 (0,0)):=by rw [hW3];exact aB _ _ _ (by simp)
 obtain ⟨A0,A1,A2,A3,D0,D1,D2,D3⟩:=row8 xA xB
 go_enter Tryz.func33,Tryz.ntmps33
 go_upto_region 1 with fail
 rw [←hW3];clear hW3
 go_wp2_with fail
 refine (cI W3 (pLa.below B3) (pGa.below B3) (pOa.below B3) ra).mono ?_;rintro r w4 ⟨rfl,b4⟩;have blk4:∀k,k<w.heap.size+3→w4.heap[k]?=W3.heap[k]?:=fun k hk=>b4.block k (by omega)
 have B4:Below w.heap.size w w4:=B3.trans (b4.mono B3.size);have yA:=(blk4 w.heap.size (by omega)).trans xA;have yB:=(blk4 (w.heap.size+1) (by omega)).trans xB;have yR:=(blk4 (w.heap.size+1+1) (by omega)).trans xR;have s4:=b4.size;clear A0 A1 A2 A3 D0 D1 D2 D3 xA xB xR blk4;obtain ⟨A0,A1,A2,A3,D0,D1,D2,D3⟩:=row8 yA yB
 go_wp2_with fail
 refine (cI w4 (pLb.below B4) (pGb.below B4) (pOb.below B4) rb).mono ?_;rintro r w5 ⟨rfl,b5⟩;have blk5:∀k,k<w.heap.size+3→w5.heap[k]?=w4.heap[k]?:=fun k hk=>b5.block k (by omega)
 have B5:Below w.heap.size w w5:=B4.trans (b5.mono B4.size);have zA:=(blk5 w.heap.size (by omega)).trans yA;have zB:=(blk5 (w.heap.size+1) (by omega)).trans yB;have zR:=(blk5 (w.heap.size+1+1) (by omega)).trans yR;clear A0 A1 A2 A3 D0 D1 D2 D3 yA yB yR blk5;obtain ⟨A0,A1,A2,A3,D0,D1,D2,D3⟩:=row8 zA zB;obtain ⟨F0,F1,F2,F3⟩:=aK zR;have G0:w5.frozen? ⟨w.heap.size+1+1,0,none⟩=false:=frozen_of_row _ _ _ _ _ zR;have G1:w5.frozen? ⟨w.heap.size+1+1,1,none⟩=false:=frozen_of_row _ _ _ _ _ zR;have G2:w5.frozen? ⟨w.heap.size+1+1,2,none⟩=false:=frozen_of_row _ _ _ _ _ zR;have G3:w5.frozen? ⟨w.heap.size+1+1,3,none⟩=false:=frozen_of_row _ _ _ _ _ zR;go_wp2;refine jL (b:=w.heap.size+1+1) (dD zR _ _ _ _) (by rfl) (by rfl) ?_
 exact ⟨rfl,aH B5 (by omega) _ _ _ _⟩
theorem aAZ (n m:Int) (la ga:List (Int×Int)) (oa:List Int) (lb gb:List (Int×Int)) (ob:List Int) (la1 ga1 oa1 lb1 gb1 ob1:Option Addr) (lc1 gc1 oc1 ld1 gd1 od1:Nat) (w:World)
  (ra:aG n la ga oa=true) (rb:aG m lb gb ob=true) (hnm:n=m) (hne:oa.length≠ob.length)
  (pLa:PairsAt w la1 la) (pGa:PairsAt w ga1 ga) (pOa:IntsAt w oa1 oa) (pLb:PairsAt w lb1 lb) (pGb:PairsAt w gb1 gb) (pOb:IntsAt w ob1 ob) :
  Calls Tryz.prog 33 #[.agg #[.int .i64 n,.slice la1 la.length lc1,.slice ga1 ga.length gc1,.slice oa1 oa.length oc1],.agg #[.int .i64 m,.slice lb1 lb.length ld1,.slice gb1 gb.length gd1,.slice ob1 ob.length od1]] w fun e w' =>
   e=.returned (.tuple #[.agg #[.bool false,.int .i64 0,.slice none 0 0,.int .i64 0],.int .i64 4])∧Below w.heap.size w w':=by
 subst hnm;have hnn:(n != n)=false:=by simp
 have hoo:((oa.length:Int) != (ob.length:Int))=true:=by simp;omega
 obtain ⟨W3,hW3⟩:∃W3,W3=((w.alloc (.cells #[.int .i64 n,.slice la1 la.length lc1,.slice ga1 ga.length gc1,.slice oa1 oa.length oc1] 34)).alloc (.cells #[.int .i64 n,.slice lb1 lb.length ld1,.slice gb1 gb.length gd1,.slice ob1 ob.length od1] 34)).alloc (.cells #[.bool false,.int .i64 0,.slice none 0 0,.int .i64 0] 82):=⟨_,rfl⟩
 have s3:W3.heap.size=w.heap.size+3:=by rw [hW3];simp
 have B3:Below w.heap.size w W3:=by rw [hW3];exact (((Below.refl _ _).alloc (Nat.le_refl _) _).alloc (by simp) _).alloc (by simp;omega) _
 have xA:W3.heap[w.heap.size]?=some (.cells #[.int .i64 n,.slice la1 la.length lc1,.slice ga1 ga.length gc1,.slice oa1 oa.length oc1] 34 (0,0)):=by rw [hW3];exact aA (aA (aB _ _ _ rfl))
 have xB:W3.heap[w.heap.size+1]?=some (.cells #[.int .i64 n,.slice lb1 lb.length ld1,.slice gb1 gb.length gd1,.slice ob1 ob.length od1] 34 (0,0)):=by rw [hW3];exact aA (aB _ _ _ (by simp))
 have xR:W3.heap[w.heap.size+1+1]?=some (.cells #[.bool false,.int .i64 0,.slice none 0 0,.int .i64 0] 82 (0,0)):=by rw [hW3];exact aB _ _ _ (by simp)
 obtain ⟨A0,A1,A2,A3,D0,D1,D2,D3⟩:=row8 xA xB
 go_enter Tryz.func33,Tryz.ntmps33
 go_upto_region 1 with fail
 rw [←hW3];clear hW3
 go_wp2_with fail
 refine (cI W3 (pLa.below B3) (pGa.below B3) (pOa.below B3) ra).mono ?_;rintro r w4 ⟨rfl,b4⟩;have blk4:∀k,k<w.heap.size+3→w4.heap[k]?=W3.heap[k]?:=fun k hk=>b4.block k (by omega)
 have B4:Below w.heap.size w w4:=B3.trans (b4.mono B3.size);have yA:=(blk4 w.heap.size (by omega)).trans xA;have yB:=(blk4 (w.heap.size+1) (by omega)).trans xB;have yR:=(blk4 (w.heap.size+1+1) (by omega)).trans xR;have s4:=b4.size;clear A0 A1 A2 A3 D0 D1 D2 D3 xA xB xR blk4;obtain ⟨A0,A1,A2,A3,D0,D1,D2,D3⟩:=row8 yA yB
 go_wp2_with fail
 refine (cI w4 (pLb.below B4) (pGb.below B4) (pOb.below B4) rb).mono ?_;rintro r w5 ⟨rfl,b5⟩;have blk5:∀k,k<w.heap.size+3→w5.heap[k]?=w4.heap[k]?:=fun k hk=>b5.block k (by omega)
 have B5:Below w.heap.size w w5:=B4.trans (b5.mono B4.size);have zA:=(blk5 w.heap.size (by omega)).trans yA;have zB:=(blk5 (w.heap.size+1) (by omega)).trans yB;have zR:=(blk5 (w.heap.size+1+1) (by omega)).trans yR;clear A0 A1 A2 A3 D0 D1 D2 D3 yA yB yR blk5;obtain ⟨A0,A1,A2,A3,D0,D1,D2,D3⟩:=row8 zA zB;obtain ⟨F0,F1,F2,F3⟩:=aK zR;have G0:w5.frozen? ⟨w.heap.size+1+1,0,none⟩=false:=frozen_of_row _ _ _ _ _ zR;have G1:w5.frozen? ⟨w.heap.size+1+1,1,none⟩=false:=frozen_of_row _ _ _ _ _ zR;have G2:w5.frozen? ⟨w.heap.size+1+1,2,none⟩=false:=frozen_of_row _ _ _ _ _ zR;have G3:w5.frozen? ⟨w.heap.size+1+1,3,none⟩=false:=frozen_of_row _ _ _ _ _ zR;go_wp2;refine jL (b:=w.heap.size+1+1) (dD zR _ _ _ _) (by rfl) (by rfl) ?_
 exact ⟨rfl,aH B5 (by omega) _ _ _ _⟩
def fQ (n:Int) (la ga:List (Int×Int)) (oa:List Int) (m:Int) (lb gb:List (Int×Int)) (ob:List Int) (sm:Bool) (rc:Nat) (tr:List Nat) (ou:Nat) (er:Int):Prop :=
 if aG n la ga oa=false∨aG m lb gb ob=false then sm=false∧rc=0∧tr=[]∧ou=0∧er=2
 else if n≠m∨oa.length≠ob.length then sm=false∧rc=0∧tr=[]∧ou=0∧er=4
 else ∃d,(duo n.toNat la ga oa lb gb ob).Says sm rc tr d∧ou=(if sm then 0 else tzN d)∧er=0
theorem aBZ {n:Int}{ls gs:List (Int×Int)}{os:List Int}(h:aG n ls gs os=true):0≤n∧n≤4:=by
 simp only [aG,eJ,Bool.and_eq_true,decide_eq_true_eq,inB] at h;obtain ⟨⟨⟨⟨⟨⟨h1,h2⟩,h3⟩,h4⟩,hl⟩,hg⟩,ho⟩:=h
 omega
theorem aDL {n:Int}{la ga:List (Int×Int)}{oa:List Int}{m:Int}{lb gb:List (Int×Int)}{ob:List Int}{sm sm':Bool}{rc rc':Nat}{tr tr':List Nat}{ou ou':Nat}{er er':Int}
  (h:fQ n la ga oa m lb gb ob sm rc tr ou er) (h':fQ n la ga oa m lb gb ob sm' rc' tr' ou' er'):sm=sm'∧rc=rc'∧tr=tr'∧ou=ou'∧er=er':=by
 unfold fQ at h h'
 split at h
 ·rename_i hc
  rw [if_pos hc] at h';obtain ⟨rfl,rfl,rfl,rfl,rfl⟩:=h;obtain ⟨rfl,rfl,rfl,rfl,rfl⟩:=h'
  exact ⟨rfl,rfl,rfl,rfl,rfl⟩
 ·rename_i hc
  rw [if_neg hc] at h'
  split at h
  ·rename_i hc2
   rw [if_pos hc2] at h';obtain ⟨rfl,rfl,rfl,rfl,rfl⟩:=h;obtain ⟨rfl,rfl,rfl,rfl,rfl⟩:=h'
   exact ⟨rfl,rfl,rfl,rfl,rfl⟩
  ·rename_i hc2
   rw [if_neg hc2] at h';obtain ⟨d,h1,h2,h3⟩:=h;obtain ⟨d',h1',h2',h3'⟩:=h';have hn:aG n la ga oa=true:=by
    cases hb:aG n la ga oa
    ·exact absurd (.inl hb) hc
    ·rfl
   have hn4:=aBZ hn;obtain ⟨rfl,rfl,rfl,rfl⟩:=Duo.says_one (aKM (by omega)) h1 h1'
   exact ⟨rfl,rfl,rfl,by rw [h2,h2'],by rw [h3,h3']⟩
def tV (ans:Bool→Nat→List Nat→Nat→Int→Prop) (w:World) (r:Ending) (w':World):Prop :=
 ∃(sm:Bool) (rc:Nat) (tr:List Nat) (ou:Nat) (er:Int) (ta:Option Addr) (tc:Nat),ans sm rc tr ou er∧r=.returned (.tuple #[.agg #[.bool sm,.int .i64 rc,.slice ta tr.length tc,.int .i64 ou],.int .i64 er])∧
  w'.ownsRow w.heap.size 3 1 (.slice ta tr.length tc) tr.length (aP tr)∧tr.length≤256∧Below w.heap.size w w'
theorem eB {n:Int}{la ga:List (Int×Int)}{oa:List Int}{m:Int}{lb gb:List (Int×Int)}{ob:List Int}{w w':World}{e:Ending}{er:Int}(h:fQ n la ga oa m lb gb ob false 0 [] 0 er)
  (he:e=.returned (.tuple #[.agg #[.bool false,.int .i64 0,.slice none 0 0,.int .i64 0],.int .i64 er])∧Below w.heap.size w w'):tV (fQ n la ga oa m lb gb ob) w e w' :=
 ⟨false,0,[],0,er,none,0,h,he.1,World.ownsRow_nil _ _ _ _,by simp,he.2⟩
theorem fR {n:Int}{la ga:List (Int×Int)}{oa:List Int}{m:Int}{lb gb:List (Int×Int)}{ob:List Int}(h:aG n la ga oa=false∨aG m lb gb ob=false):fQ n la ga oa m lb gb ob false 0 [] 0 2:=by
 unfold fQ;rw [if_pos h];exact ⟨rfl,rfl,rfl,rfl,rfl⟩
theorem gX {n:Int}{la ga:List (Int×Int)}{oa:List Int}{m:Int}{lb gb:List (Int×Int)}{ob:List Int}(h1:aG n la ga oa=true) (h2:aG m lb gb ob=true) (h:n≠m∨oa.length≠ob.length):fQ n la ga oa m lb gb ob false 0 [] 0 4:=by
 unfold fQ;rw [if_neg (by rw [h1,h2];simp),if_pos h];exact ⟨rfl,rfl,rfl,rfl,rfl⟩
theorem yH {n:Nat}{la ga:List (Int×Int)}{oa:List Int}{lb gb:List (Int×Int)}{ob:List Int}{w w':World}{e:Ending}(h1:aG n la ga oa=true) (h2:aG n lb gb ob=true) (h:oa.length=ob.length)
  (he:aF1 (duo n la ga oa lb gb ob) w e w'):tV (fQ n la ga oa n lb gb ob) w e w':=by
 obtain ⟨sm,rc,tr,d,ta,tc,hs,he,ho,hl,hb⟩:=he;refine ⟨sm,rc,tr,if sm then 0 else tzN d,0,ta,tc,?_,he,ho,hl,hb⟩;unfold fQ;rw [if_neg (by rw [h1,h2];simp),if_neg (by simp [h])]
 exact ⟨d,by simpa using hs,rfl,rfl⟩
theorem pZ (n m:Int) (la ga:List (Int×Int)) (oa:List Int) (lb gb:List (Int×Int)) (ob:List Int) (la1 ga1 oa1 lb1 gb1 ob1:Option Addr) (lc1 gc1 oc1 ld1 gd1 od1:Nat) (w:World) (hdb:TabDB w)
  (pLa:PairsAt w la1 la) (pGa:PairsAt w ga1 ga) (pOa:IntsAt w oa1 oa) (pLb:PairsAt w lb1 lb) (pGb:PairsAt w gb1 gb) (pOb:IntsAt w ob1 ob) :
  Calls Tryz.prog 33 #[.agg #[.int .i64 n,.slice la1 la.length lc1,.slice ga1 ga.length gc1,.slice oa1 oa.length oc1],.agg #[.int .i64 m,.slice lb1 lb.length ld1,.slice gb1 gb.length gd1,.slice ob1 ob.length od1]] w (tV (fQ n la ga oa m lb gb ob) w):=by
 cases ra:aG n la ga oa
 ·exact (aDN n m la ga oa lb gb ob la1 ga1 oa1 lb1 gb1 ob1 lc1 gc1 oc1 ld1 gd1 od1 w ra pLa pGa pOa).mono fun e w' h=>eB (fR (.inl ra)) h
 ·cases rb:aG m lb gb ob
  ·exact (aDO n m la ga oa lb gb ob la1 ga1 oa1 lb1 gb1 ob1 lc1 gc1 oc1 ld1 gd1 od1 w ra rb pLa pGa pOa pLb pGb pOb).mono fun e w' h=>eB (fR (.inr rb)) h
  ·by_cases hnm:n=m
   ·by_cases hl:oa.length=ob.length
    ·subst hnm
     obtain ⟨k,rfl⟩:=Int.eq_ofNat_of_zero_le (aBZ ra).1
     exact (aLQ k la ga oa lb gb ob la1 ga1 oa1 lb1 gb1 ob1 lc1 gc1 oc1 ld1 gd1 od1 w ra rb hl.symm hdb pLa pGa pOa pLb pGb pOb).mono fun e w' h=>yH ra rb hl h
    ·exact (aAZ n m la ga oa lb gb ob la1 ga1 oa1 lb1 gb1 ob1 lc1 gc1 oc1 ld1 gd1 od1 w ra rb hnm hl pLa pGa pOa pLb pGb pOb).mono fun e w' h=>eB (gX ra rb (.inr hl)) h
   ·exact (aDM n m la ga oa lb gb ob la1 ga1 oa1 lb1 gb1 ob1 lc1 gc1 oc1 ld1 gd1 od1 w ra rb hnm pLa pGa pOa pLb pGb pOb).mono fun e w' h=>eB (gX ra rb (.inl hnm)) h
theorem aG0 {ps:List (Nat×Nat)}{q:Nat×Nat}{k:Nat}(h:∀j,j<k→ps.getD j (0,0)≠q) (hk:ps.getD k (0,0)≠q):∀j,j<k+1→ps.getD j (0,0)≠q:=fun j hj=>by
 rcases Nat.lt_or_ge j k with h' | h'
 ·exact h j h'
 ·have e:j=k:=by omega
  rw [e];exact hk
theorem aFN (ps:List (Nat×Nat)) (g cap x y:Nat) (ta:Option Addr) (tn tc:Nat) (w:World) (hl:ps.length≤1000) (hg:g<w.heap.size)
  (hc:∀i,i<ps.length→w.cell? ⟨g,i*3,none⟩=some (.int .i64 ((ps.getD i (0,0)).1:Nat))∧w.cell? ⟨g,i*3+1,none⟩=some (.int .i64 ((ps.getD i (0,0)).2:Nat))) :
  Calls Tryz.prog 61 #[.slice (some ⟨g,0,none⟩) ps.length cap,.agg #[.int .i64 x,.int .i64 y,.slice ta tn tc]] w fun e w'=>e=.returned (.bool (decide ((x,y)∈ps)))∧Below w.heap.size w w':=by
 obtain ⟨W1,hW1⟩:∃W1,W1=w.alloc (.cells #[.int .i64 x,.int .i64 y,.slice ta tn tc] 118):=⟨_,rfl⟩
 have B1:Below w.heap.size w W1:=by rw [hW1];exact (Below.refl _ _).alloc (Nat.le_refl _) _
 have s1:w.heap.size<W1.heap.size:=by rw [hW1];simp
 have bx:W1.heap[w.heap.size]?=some (.cells #[.int .i64 x,.int .i64 y,.slice ta tn tc] 118 (0,0)):=by rw [hW1];exact heap_alloc_new _ _
 have HC:Hid (∀i,i<ps.length→w.cell? ⟨g,i*3,none⟩=some (.int .i64 ((ps.getD i (0,0)).1:Nat))∧w.cell? ⟨g,i*3+1,none⟩=some (.int .i64 ((ps.getD i (0,0)).2:Nat))):=hc;clear hc
 go_enter Tryz.func61,Tryz.ntmps61
 go_upto_region 1 with fail
 rw [←hW1];clear hW1;go_wp2
 go_loopw [5] (fun i wr=>∃k:Nat,k≤ps.length∧i=.int .i64 k∧(∀j,j<k→ps.getD j (0,0)≠(x,y))∧Below W1.heap.size W1 wr) (fun i _=>ps.length - (intOf i).toNat)
 case atStart=>exact ⟨0,Nat.zero_le _,rfl,fun j hj=>absurd hj (Nat.not_lt_zero j),Below.refl _ _⟩
 case round =>
  obtain ⟨k,hk,rfl,hall,bR⟩:=hrel;have HA:Hid (∀j,j<k→ps.getD j (0,0)≠(x,y)):=hall;clear hall;have bW:Below w.heap.size w wr:=B1.trans (bR.mono B1.size)
  by_cases hk2:k<ps.length
  ·have kI:(k:Int)<(ps.length:Int):=by omega
   obtain ⟨c0',c1'⟩:=HC.out k hk2;have c0:=(bW.cell (p:=⟨g,_,none⟩) hg).trans c0';have c1:=(bW.cell (p:=⟨g,_,none⟩) hg).trans c1';clear c0' c1';have wx:=(bR.block _ s1).trans bx;have X0:wr.cell? ⟨w.heap.size,0,none⟩=some (.int .i64 x):=(by rw [cell_of_row _ _ _ _ _ _ wx];rfl)
   have X1:wr.cell? ⟨w.heap.size,1,none⟩=some (.int .i64 y):=(by rw [cell_of_row _ _ _ _ _ _ wx];rfl)
   obtain ⟨p,hp⟩:∃p,p=ps.getD k (0,0):=⟨_,rfl⟩
   obtain ⟨a,b⟩:=p;rw [←hp] at c0 c1;have HP:Hid ((a,b)=ps.getD k (0,0)):=hp;clear hp;dsimp only at c0 c1
   by_cases ha:a=x
   ·have hd:((a:Int)==(x:Int))=true:=by simp [ha]
    by_cases hb:b=y
    ·have hd2:((b:Int)==(y:Int))=true:=by simp [hb]
     have hmem:(x,y)∈ps:=by
      rw [←ha,←hb,HP.out,List.getD_eq_getElem?_getD,List.getElem?_eq_getElem hk2]
      exact List.getElem_mem hk2
     subst ha hb;go_wp2
     go_quiet (fail)
     go_wp2
     go_ret
     exact ⟨aU (decide_eq_true hmem).symm,by first | exact below_drewN bW _ | exact bW.drew⟩
    ·have hd2:((b:Int)==(y:Int))=false:=by simp;omega
     have hne:ps.getD k (0,0)≠(x,y):=(by rw [←HP.out];intro e;cases e;exact hb rfl)
     have HNE:Hid (ps.getD k (0,0)≠(x,y)):=hne;clear hne;subst ha;go_wp2
     go_quiet (fail)
     go_wp2
     go_roundw
     case rel=>exact ⟨k+1,by omega,by go_num,aG0 HA.out HNE.out,by first | exact below_drewN bR _ | exact bR.drew⟩
     case measure=>simp [intOf];omega
   ·have hd:((a:Int)==(x:Int))=false:=by simp;omega
    have hne:ps.getD k (0,0)≠(x,y):=(by rw [←HP.out];intro e;cases e;exact ha rfl)
    have HNE:Hid (ps.getD k (0,0)≠(x,y)):=hne;clear hne;go_wp2
    go_quiet (fail)
    go_wp2
    go_roundw
    case rel=>exact ⟨k+1,by omega,by go_num,aG0 HA.out HNE.out,by first | exact below_drewN bR _ | exact bR.drew⟩
    case measure=>simp [intOf];omega
  ·have hnm:¬(x,y)∈ps:=fun hm=>by
    obtain ⟨j,hj,e⟩:=List.getElem_of_mem hm
    exact HA.out j (by omega) (by simp [hj,e])
   go_wp2
   go_ret
   exact ⟨aU (decide_eq_false hnm).symm,bW⟩
end Go.Proofs.YtgpaajdfkekjiaaGreatDoor
