/-
  A part of the proof of the statement All: texts of ours, made small by program (blanks, names).
-/
import Derived.Test.YtgpaajdfkekjiaaGreatDoorQp
import Derived.Test.YtgpaajdfkekjiaaGreatDoorPg
import Derived.Test.YtgpaajdfkekjiaaGreatDoorQq
import Derived.Shelf.Strings.BuilderK
import Derived.Shelf.Strconv.Itoa1
import Derived.WalkKit
import Derived.Test.YtgpaajdfkekjiaaGreatDoorProg
import Derived.Test.YtgpaajdfkekjiaaGreatDoorPa
import Derived.Test.YtgpaajdfkekjiaaGreatDoorQl
namespace Go.Proofs.YtgpaajdfkekjiaaGreatDoor
set_option maxHeartbeats 8000000
set_option maxRecDepth 100000
open Go.RowKit
theorem aLP {w:World}{b:Nat}{u0 u1 u2 u3 u4:Value}(v0 v1 v2 v3 v4:Value) (h0:w.cell? ⟨b,0,none⟩=some u0) (h1:w.cell? ⟨b,1,none⟩=some u1) (h2:w.cell? ⟨b,2,none⟩=some u2) (h3:w.cell? ⟨b,3,none⟩=some u3) (h4:w.cell? ⟨b,4,none⟩=some u4) (W:World)
  (hW:W=((((w.setCell ⟨b,0,none⟩ v0).setCell ⟨b,1,none⟩ v1).setCell ⟨b,2,none⟩ v2).setCell ⟨b,3,none⟩ v3).setCell ⟨b,4,none⟩ v4) :
  W.cell? ⟨b,0,none⟩=some v0∧W.cell? ⟨b,1,none⟩=some v1∧W.cell? ⟨b,2,none⟩=some v2∧W.cell? ⟨b,3,none⟩=some v3∧W.cell? ⟨b,4,none⟩=some v4:=by
 have o:∀(w:World) (i j:Nat) (v:Value),j≠i→(w.setCell ⟨b,i,none⟩ v).cell? ⟨b,j,none⟩=w.cell? ⟨b,j,none⟩:=fun w i j v h=>World.cell?_setCell_other _ _ _ _ (fun e=>h (by injection e;omega))
 have s:∀(w:World) (i:Nat) (v u:Value),w.cell? ⟨b,i,none⟩=some u→(w.setCell ⟨b,i,none⟩ v).cell? ⟨b,i,none⟩=some v:=fun w i v u h=>World.cell?_setCell_same' _ _ _ (by rw [h];rfl)
 subst hW;refine ⟨?_,?_,?_,?_,?_⟩
 ·rw [o _ 4 0 _ (by omega),o _ 3 0 _ (by omega),o _ 2 0 _ (by omega),o _ 1 0 _ (by omega)]
  exact s _ 0 _ _ h0
 ·rw [o _ 4 1 _ (by omega),o _ 3 1 _ (by omega),o _ 2 1 _ (by omega)]
  exact s _ 1 _ _ (by rw [o _ 0 1 _ (by omega)];exact h1)
 ·rw [o _ 4 2 _ (by omega),o _ 3 2 _ (by omega)]
  exact s _ 2 _ _ (by rw [o _ 1 2 _ (by omega),o _ 0 2 _ (by omega)];exact h2)
 ·rw [o _ 4 3 _ (by omega)]
  exact s _ 3 _ _ (by rw [o _ 2 3 _ (by omega),o _ 1 3 _ (by omega),o _ 0 3 _ (by omega)];exact h3)
 ·exact s _ 4 _ _ (by rw [o _ 3 4 _ (by omega),o _ 2 4 _ (by omega),o _ 1 4 _ (by omega),o _ 0 4 _ (by omega)];exact h4)
theorem yT {w:World}{b:Nat}{tmps:Array Value}{v0 v1 v2 v3 v4 x:Value}(h:w.cell? ⟨b,0,none⟩=some v0∧w.cell? ⟨b,1,none⟩=some v1∧w.cell? ⟨b,2,none⟩=some v2∧w.cell? ⟨b,3,none⟩=some v3∧w.cell? ⟨b,4,none⟩=some v4)
  (h2:tmps[2]?.getD undef=.pointer (some ⟨b,0,none⟩)) (h3:tmps[3]?.getD undef=x) :
  (results Tryz.f39 tmps).run Tryz.prog w=.ok (.tuple #[.agg #[v0,v1,v2,v3,v4],x]) w:=by
 obtain ⟨c0,c1,c2,c3,c4⟩:=h
 simp [results,Tryz.results39,go_sem,h2,h3,c0,c1,c2,c3,c4]
def box5 (w:World) (b:Nat) (v0 v1 v2 v3 v4:Value):World:=((((w.setCell ⟨b,0,none⟩ v0).setCell ⟨b,1,none⟩ v1).setCell ⟨b,2,none⟩ v2).setCell ⟨b,3,none⟩ v3).setCell ⟨b,4,none⟩ v4
theorem kN {tmps:Array Value}{Q:Ending→World→Prop}{w:World}{b:Nat}{v0 v1 v2 v3 v4 x u0 u1 u2 u3 u4:Value}(h0:w.cell? ⟨b,0,none⟩=some u0) (h1:w.cell? ⟨b,1,none⟩=some u1) (h2:w.cell? ⟨b,2,none⟩=some u2) (h3:w.cell? ⟨b,3,none⟩=some u3) (h4:w.cell? ⟨b,4,none⟩=some u4)
  (t2:tmps[2]?.getD undef=.pointer (some ⟨b,0,none⟩)) (t3:tmps[3]?.getD undef=x) (hQ:Q (.returned (.tuple #[.agg #[v0,v1,v2,v3,v4],x])) (box5 w b v0 v1 v2 v3 v4)) :
  bodyPost Tryz.prog Tryz.f39 Q Exit.ret ⟨tmps,[]⟩ (((((w.setCell ⟨b,0,none⟩ v0).setCell ⟨b,1,none⟩ v1).setCell ⟨b,2,none⟩ v2).setCell ⟨b,3,none⟩ v3).setCell ⟨b,4,none⟩ v4) :=
 bodyPost_ret (yT (aLP v0 v1 v2 v3 v4 h0 h1 h2 h3 h4 _ rfl) t2 t3) rfl hQ
theorem StepRes.box5 {st:St}{line rb:Nat}{w w2:World}{ok:St→Prop}{no:Prop}(h:StepRes st line rb w w2 ok no){b:Nat}(hb:w.heap.size≤b) (hne:b≠rb) (v0 v1 v2 v3 v4:Value):StepRes st line rb w (box5 w2 b v0 v1 v2 v3 v4) ok no:=by
 obtain ⟨sp,h⟩:=h;refine ⟨((((sp.setNew hb v0).setNew hb v1).setNew hb v2).setNew hb v3).setNew hb v4,?_⟩
 rcases h with ⟨st',h1,h2,h3⟩ | ⟨R',h1,h2,h3⟩
 ·exact .inl ⟨st',h1,((((h2.set_other hne v0).set_other hne v1).set_other hne v2).set_other hne v3).set_other hne v4,h3⟩
 ·exact .inr ⟨R',h1,((((h2.set_other hne v0).set_other hne v1).set_other hne v2).set_other hne v3).set_other hne v4,h3⟩
theorem aEL (line rb:Nat) (R:List UInt8) (w:World) (hL:Lib0 w) (hg:¬jO rb) (hr:RdAt w rb R line) (hR:R.length≤1000) (hl:line≤100) :
  Calls Tryz.prog 39 #[.pointer (some ⟨rb,0,none⟩)] w fun e w' =>
   StepRes (st0 R) line rb w w' (fun st'=>∃h:Hd,h.Ok∧st'=⟨some h,0,[],[],[],st'.rest⟩∧e=.returned (.tuple #[.agg #[.int .i64 ((h.n:Int)+h.l+h.g),.int .i64 h.n,.int .i64 h.l,.int .i64 h.o,.int .i64 h.g],.bool true])) (∃a b c d f:Int,e=.returned (.tuple #[.agg #[.int .i64 a,.int .i64 b,.int .i64 c,.int .i64 d,.int .i64 f],.bool false])):=by
 obtain ⟨W0,hW0⟩:∃W0,W0=w.alloc (.cells #[.int .i64 0,.int .i64 0,.int .i64 0,.int .i64 0,.int .i64 0] 91):=⟨_,rfl⟩
 have b0:Below w.heap.size w W0:=by rw [hW0];exact (Below.refl _ _).alloc (Nat.le_refl _) _
 have s0:W0.heap.size=w.heap.size+1:=by rw [hW0];simp
 have bx:W0.heap[w.heap.size]?=some (.cells #[.int .i64 0,.int .i64 0,.int .i64 0,.int .i64 0,.int .i64 0] 91 (0,0)):=by rw [hW0];exact heap_alloc_new _ _
 have hne:w.heap.size≠rb:=by have:=hr.lt;omega
 have hn:=gQ aag R 5 line rb W0 (hL.below b0) hg (hr.below b0) hR (by simp [aag]) (by simp [aag]) (by omega) (by omega) hl;rw [hW0] at hn
 go_enter Tryz.func39,Tryz.ntmps39
 go_wp2_with fail
 refine hn.mono ?_;rw [←hW0];rintro e w1 ⟨sp0,hres⟩;have bx1:w1.heap[w.heap.size]?=some (.cells #[.int .i64 0,.int .i64 0,.int .i64 0,.int .i64 0,.int .i64 0] 91 (0,0)):=(sp0.block w.heap.size (by omega) (by omega)).trans bx;have sp:Span rb (rb+1) w w1:=(Span.of_below b0).trans sp0;have q0:w1.cell? ⟨w.heap.size,0,none⟩=some (.int .i64 0):=by rw [cell_of_row _ _ _ _ _ _ bx1];rfl
 have q1:w1.cell? ⟨w.heap.size,1,none⟩=some (.int .i64 0):=by rw [cell_of_row _ _ _ _ _ _ bx1];rfl
 have q2:w1.cell? ⟨w.heap.size,2,none⟩=some (.int .i64 0):=by rw [cell_of_row _ _ _ _ _ _ bx1];rfl
 have q3:w1.cell? ⟨w.heap.size,3,none⟩=some (.int .i64 0):=by rw [cell_of_row _ _ _ _ _ _ bx1];rfl
 have q4:w1.cell? ⟨w.heap.size,4,none⟩=some (.int .i64 0):=by rw [cell_of_row _ _ _ _ _ _ bx1];rfl
 have qf0:w1.frozen? ⟨w.heap.size,0,none⟩=false:=frozen_of_row _ _ _ _ _ bx1;have qf1:w1.frozen? ⟨w.heap.size,1,none⟩=false:=frozen_of_row _ _ _ _ _ bx1;have qf2:w1.frozen? ⟨w.heap.size,2,none⟩=false:=frozen_of_row _ _ _ _ _ bx1;have qf3:w1.frozen? ⟨w.heap.size,3,none⟩=false:=frozen_of_row _ _ _ _ _ bx1;have qf4:w1.frozen? ⟨w.heap.size,4,none⟩=false:=frozen_of_row _ _ _ _ _ bx1;clear hn hW0
 rcases hres with ⟨ns,g,R',got,hbd,rd,hlen,rfl,hge,hrow⟩ | ⟨R',hno,rd,rfl⟩
 ·have hl5:ns.length=5:=got.1
  have c0:=dF hrow 0 (by omega);have c1:=dF hrow 1 (by omega);have c2:=dF hrow 2 (by omega);have c3:=dF hrow 3 (by omega);have c4:=dF hrow 4 (by omega);have hst:=pQ got;have y0:=lV (k:=0) hbd;have y1:=lV (k:=1) hbd;have y2:=lV (k:=2) hbd;have y3:=lV (k:=3) hbd;have y4:=lV (k:=4) hbd;obtain ⟨x0,hx0⟩:∃x,x=ns.getD 0 0:=⟨_,rfl⟩
  obtain ⟨x1,hx1⟩:∃x,x=ns.getD 1 0:=⟨_,rfl⟩
  obtain ⟨x2,hx2⟩:∃x,x=ns.getD 2 0:=⟨_,rfl⟩
  obtain ⟨x3,hx3⟩:∃x,x=ns.getD 3 0:=⟨_,rfl⟩
  obtain ⟨x4,hx4⟩:∃x,x=ns.getD 4 0:=⟨_,rfl⟩
  rw [←hx0] at c0 hst y0;rw [←hx1] at c1 hst y1;rw [←hx2] at c2 hst y2;rw [←hx3] at c3 hst y3;rw [←hx4] at c4 hst y4;rw [hl5];have glt:g<w1.heap.size:=hrow.lt;have hlw:w.heap.size<w1.heap.size:=by have:=sp0.size;omega
  clear hx0 hx1 hx2 hx3 hx4 hr hL hl hR b0 bx bx1 sp0 hg s0 hge hrow hbd got
  go_wp2_with fail
  go_region_held3 (fun w'=>w'.cell? ⟨g,0,none⟩=some (.int .i64 x0)∧w'.cell? ⟨g,1,none⟩=some (.int .i64 x1)∧w'.cell? ⟨g,2,none⟩=some (.int .i64 x2)∧w'.cell? ⟨g,3,none⟩=some (.int .i64 x3)∧w'.cell? ⟨g,4,none⟩=some (.int .i64 x4)) (first | (simp [go_sem,c0,c1,c2,c3,c4];done) | (simp [go_sem,World.cell?_alloc_past,glt,c0,c1,c2,c3,c4];done)) (first | fail | fail)
  go_wp2_with fail
  obtain ⟨W2,hW2⟩:∃W2,W2=(w1.alloc (.cells #[.int .i64 x0,.int .i64 x1,.int .i64 x2,.int .i64 x3,.int .i64 x4] 91)).drew:=⟨_,rfl⟩
  have b2:Below w1.heap.size w1 W2:=by rw [hW2];exact ((Below.refl _ _).alloc (Nat.le_refl _) _).drew
  have bh:W2.heap[w1.heap.size]?=some (.cells #[.int .i64 x0,.int .i64 x1,.int .i64 x2,.int .i64 x3,.int .i64 x4] 91 (0,0)):=by rw [hW2];exact heap_alloc_new _ _
  rw [←hW2];have k0:W2.cell? ⟨w1.heap.size,0,none⟩=some (.int .i64 x0):=by rw [cell_of_row _ _ _ _ _ _ bh];rfl
  have k1:W2.cell? ⟨w1.heap.size,1,none⟩=some (.int .i64 x1):=by rw [cell_of_row _ _ _ _ _ _ bh];rfl
  have k2:W2.cell? ⟨w1.heap.size,2,none⟩=some (.int .i64 x2):=by rw [cell_of_row _ _ _ _ _ _ bh];rfl
  have k3:W2.cell? ⟨w1.heap.size,3,none⟩=some (.int .i64 x3):=by rw [cell_of_row _ _ _ _ _ _ bh];rfl
  have k4:W2.cell? ⟨w1.heap.size,4,none⟩=some (.int .i64 x4):=by rw [cell_of_row _ _ _ _ _ _ bh];rfl
  have r0:=(b2.cell (p:=⟨w.heap.size,0,none⟩) hlw).trans q0;have r1:=(b2.cell (p:=⟨w.heap.size,1,none⟩) hlw).trans q1;have r2:=(b2.cell (p:=⟨w.heap.size,2,none⟩) hlw).trans q2;have r3:=(b2.cell (p:=⟨w.heap.size,3,none⟩) hlw).trans q3;have r4:=(b2.cell (p:=⟨w.heap.size,4,none⟩) hlw).trans q4;have s0:=(b2.frozen (p:=⟨w.heap.size,0,none⟩) hlw).trans qf0;have s1:=(b2.frozen (p:=⟨w.heap.size,1,none⟩) hlw).trans qf1;have s2:=(b2.frozen (p:=⟨w.heap.size,2,none⟩) hlw).trans qf2;have s3:=(b2.frozen (p:=⟨w.heap.size,3,none⟩) hlw).trans qf3;have s4:=(b2.frozen (p:=⟨w.heap.size,4,none⟩) hlw).trans qf4;have sp2:=sp.trans (Span.of_below b2);have rd2:=rd.below b2;clear q0 q1 q2 q3 q4 qf0 qf1 qf2 qf3 qf4 c0 c1 c2 c3 c4 hW2 bh glt
  cases hs:eJ (x1:Int) x2 x3 x4
  ·have hno:¬(x1≤4∧x2≤4∧x3≤4∧x4≤30∧x0=x1+x2+x4):=fun e=>by
    have:eJ (x1:Int) x2 x3 x4=true:=by
     simp only [eJ,Bool.and_eq_true]
     exact ⟨⟨⟨iE (by omega) (by omega),iE (by omega) (by omega)⟩,iE (by omega) (by omega)⟩,iE (by omega) (by omega)⟩
    rw [this] at hs;cases hs
   rw [if_neg hno] at hst;refine (qR _ hs).mono ?_;rintro e w' ⟨rfl,hw⟩;have hw:=hw.symm;subst hw;clear hno hs;go_wp2;refine kN (x:=.bool false) r0 r1 r2 r3 r4 rfl rfl ?_
   exact StepRes.box5 ⟨sp2,.inr ⟨_,hst,rd2,_,_,_,_,_,rfl⟩⟩ (Nat.le_refl _) hne _ _ _ _ _
  ·obtain ⟨z1,z2,z3,z4,z5⟩:=oS hs
   refine (qR _ hs).mono ?_;rintro e w' ⟨rfl,hw⟩;have hw:=hw.symm;subst hw;have hok:Hd.Ok ⟨x1,x2,x3,x4⟩:=⟨show x1≤4 by omega,show x2≤4 by omega,show x3≤4 by omega,show x4≤30 by omega⟩
   by_cases he:x0=x1+x2+x4
   ·rw [if_pos ⟨by omega,by omega,by omega,by omega,he⟩] at hst
    subst he;go_wp2;refine kN (x:=.bool true) r0 r1 r2 r3 r4 rfl rfl ?_
    exact StepRes.box5 ⟨sp2,.inl ⟨_,hst,rd2,hlen,⟨x1,x2,x3,x4⟩,hok,rfl,rfl⟩⟩ (Nat.le_refl _) hne _ _ _ _ _
   ·rw [if_neg (fun e=>he e.2.2.2.2)] at hst
    have he':¬(x0:Int)=(x1:Int)+x2+x4:=(by omega)
    go_wp2;refine kN (x:=.bool false) r0 r1 r2 r3 r4 rfl (by simp [he']) ?_
    exact StepRes.box5 ⟨sp2,.inr ⟨_,hst,rd2,_,_,_,_,_,rfl⟩⟩ (Nat.le_refl _) hne _ _ _ _ _
 ·go_wp2
  refine kN (x:=.bool false) q0 q1 q2 q3 q4 rfl rfl ?_
  exact StepRes.box5 ⟨sp,.inr ⟨_,sR hno,rd,_,_,_,_,_,rfl⟩⟩ (Nat.le_refl _) hne _ _ _ _ _
theorem aGH (S:List UInt8) (w:World) (hS:1000<S.length) (hS2:S.length<9223372036854775808) :
  Calls Tryz.prog 16 #[.string ⟨S.toArray⟩] w (vN w S):=by
 have hc:((⟨S.toArray⟩:ByteArray).size:Int)=S.length:=by rw [rA]
 have hbox:(w.alloc (.cells #[.int .i64 0,.slice none 0 0,.slice none 0 0,.slice none 0 0] 34)).heap[w.heap.size]?=some (.cells #[.int .i64 0,.slice none 0 0,.slice none 0 0,.slice none 0 0] 34 (0,0)):=heap_alloc_new _ _;have hbel:Below w.heap.size w (w.alloc (.cells #[.int .i64 0,.slice none 0 0,.slice none 0 0,.slice none 0 0] 34)):=(Below.refl _ _).alloc (Nat.le_refl _) _;have hS':(1000:Int)<(S.length:Int):=by omega
 have q0:=cell_of_row _ _ 0 _ _ _ hbox;have q1:=cell_of_row _ _ 1 _ _ _ hbox;have q2:=cell_of_row _ _ 2 _ _ _ hbox;have q3:=cell_of_row _ _ 3 _ _ _ hbox;obtain ⟨W0,hW0⟩:∃W0,W0=w.alloc (.cells #[.int .i64 0,.slice none 0 0,.slice none 0 0,.slice none 0 0] 34):=⟨_,rfl⟩
 rw [←hW0] at hbox hbel q0 q1 q2 q3;have qf0:W0.frozen? ⟨w.heap.size,0,none⟩=false:=frozen_of_row _ _ _ _ _ hbox;have qf1:W0.frozen? ⟨w.heap.size,1,none⟩=false:=frozen_of_row _ _ _ _ _ hbox;have qf2:W0.frozen? ⟨w.heap.size,2,none⟩=false:=frozen_of_row _ _ _ _ _ hbox;have qf3:W0.frozen? ⟨w.heap.size,3,none⟩=false:=frozen_of_row _ _ _ _ _ hbox
 go_enter Tryz.func16,Tryz.ntmps16
 go_wp2_with fail
 rw [←hW0];clear hW0;refine wp_scope_jumps 0 (fun _ _=>False) (fun _ _=>0) rfl ?_ (fun _ _ h=>h.elim);go_wp2;rw [wG];refine oQ (b:=w.heap.size) (x:=.int .i64 0) (y:=.int .i64 1) (aS hbox _ _ _ _) rfl rfl rfl ?_
 exact ⟨aH hbel (Nat.le_refl _) _ _ _ _,.inl ⟨0,.inl ⟨hS,rfl,rfl⟩,rfl⟩⟩
theorem aAJ (S:List UInt8) (w:World) (hL:Lib0 w) (hS2:S.length<9223372036854775808):Calls Tryz.prog 16 #[.string ⟨S.toArray⟩] w (vN w S):=by
 by_cases hS:S.length≤1000
 ·exact aGI (fun line rb R w hL hg hr hR hl=>aEL line rb R w hL hg hr hR hl) S w hL hS
 ·exact aGH S w (by omega) hS2
theorem wI (S:List UInt8) (w:World) (hL:Lib0 w) (hS2:S.length<9223372036854775808):Calls Tryz.prog 10 #[.string ⟨S.toArray⟩] w (vN w S):=by
 obtain ⟨W0,hW0⟩:∃W0,W0=w.alloc (.cells #[.int .i64 0,.slice none 0 0,.slice none 0 0,.slice none 0 0] 34):=⟨_,rfl⟩
 have b0:Below w.heap.size w W0:=by rw [hW0];exact (Below.refl _ _).alloc (Nat.le_refl _) _
 have s0:W0.heap.size=w.heap.size+1:=by rw [hW0];simp
 have bx:W0.heap[w.heap.size]?=some (.cells #[.int .i64 0,.slice none 0 0,.slice none 0 0,.slice none 0 0] 34 (0,0)):=by rw [hW0];exact heap_alloc_new _ _
 have hn:=aAJ S W0 (hL.below b0) hS2;rw [hW0] at hn
 go_enter Tryz.func10,Tryz.ntmps10
 go_wp2_with fail
 refine hn.mono ?_;rw [←hW0];clear hn hW0;rintro e w1 ⟨b1,hres⟩;have bx1:w1.heap[w.heap.size]?=some (.cells #[.int .i64 0,.slice none 0 0,.slice none 0 0,.slice none 0 0] 34 (0,0)):=(b1.block w.heap.size (by omega)).trans bx;have B1:Below w.heap.size w w1:=b0.trans (b1.mono (by omega));obtain ⟨q0,q1,q2,q3⟩:=aK bx1;have qf0:w1.frozen? ⟨w.heap.size,0,none⟩=false:=frozen_of_row _ _ _ _ _ bx1;have qf1:w1.frozen? ⟨w.heap.size,1,none⟩=false:=frozen_of_row _ _ _ _ _ bx1;have qf2:w1.frozen? ⟨w.heap.size,2,none⟩=false:=frozen_of_row _ _ _ _ _ bx1;have qf3:w1.frozen? ⟨w.heap.size,3,none⟩=false:=frozen_of_row _ _ _ _ _ bx1
 rcases hres with ⟨line,hans,rfl⟩ | ⟨n,ls,gs,os,lv,gv,ov,hans,rfl,oL,oG,oO,d1,d2,d3⟩
 ·go_wp2
  refine jQ (b:=w.heap.size) (x:=.int .i64 line) (y:=.int .i64 1) (aS bx1 _ _ _ _) rfl rfl rfl ?_
  exact ⟨aH B1 (Nat.le_refl _) _ _ _ _,.inl ⟨line,hans,rfl⟩⟩
 ·obtain ⟨la,ln,lc,rfl⟩:=bQ oL
  obtain ⟨ga,gn,gc,rfl⟩:=bQ oG;obtain ⟨oa,on,oc,rfl⟩:=bQ oO;go_wp2;refine jQ (b:=w.heap.size) (x:=.int .i64 0) (y:=.int .i64 0) (aS bx1 _ _ _ _) rfl rfl rfl ?_
  exact ⟨aH B1 (Nat.le_refl _) _ _ _ _,.inr ⟨n,ls,gs,os,_,_,_,hans,rfl,bG oL (by omega) (by omega) _ _ _ _,bG oG (by omega) (by omega) _ _ _ _,bG oO (by omega) (by omega) _ _ _ _,d1,d2,d3⟩⟩
end Go.Proofs.YtgpaajdfkekjiaaGreatDoor
namespace Go.Proofs.YtgpaajdfkekjiaaGreatDoor
set_option maxHeartbeats 8000000
set_option maxRecDepth 100000
open Go.Shelf
def qC:Go.Shelf.Ren:=⟨fun | 166=>66 | 167=>92 | 169=>69 | 240=>91 | 276=>111 | n=>n,
  fun | 0=>0 | 3=>3 | 4=>4 | 5=>5 | 9=>9 | 20=>20 | 37=>123 | 70=>122 | 72=>125 | 75=>127 | 80=>131 | 127=>158 | 164=>186 | n=>n,fun | n=>n⟩
theorem zG:Go.Proofs.Lays.n167 Tryz.prog qC:={
  mixed:=by kernel_rfl
  f167:=Tryz.func92.trans (congrArg some (by kernel_rfl))
  f240:=Tryz.func91.trans (congrArg some (by kernel_rfl))
  f276:=Tryz.func111.trans (congrArg some (by kernel_rfl))
  t0 := Tryz.underlying0
  a0 := Tryz.isAgg0
  z0 := Tryz.sizeOf0
  v0 := Tryz.zeroValue0
  t4 := Tryz.underlying4
  a4 := Tryz.isAgg4
  z4 := Tryz.sizeOf4
  v4 := Tryz.zeroValue4
  t5 := Tryz.underlying5
  a5 := Tryz.isAgg5
  z5 := Tryz.sizeOf5
  v5 := Tryz.zeroValue5
  t9 := Tryz.underlying9
  a9 := Tryz.isAgg9
  z9 := Tryz.sizeOf9
  v9 := Tryz.zeroValue9
  t20 := Tryz.underlying20
  a20 := Tryz.isAgg20
  z20 := Tryz.sizeOf20
  v20 := Tryz.zeroValue20
  t37 := Tryz.underlying123
  a37 := Tryz.isAgg123
  z37 := Tryz.sizeOf123
  v37 := Tryz.zeroValue123
  t70 := Tryz.underlying122
  a70 := Tryz.isAgg122
  z70 := Tryz.sizeOf122
  v70 := Tryz.zeroValue122
  t72 := Tryz.underlying125
  a72 := Tryz.isAgg125
  z72 := Tryz.sizeOf125
  v72 := Tryz.zeroValue125
  t75 := Tryz.underlying127
  a75 := Tryz.isAgg127
  z75 := Tryz.sizeOf127
  v75 := Tryz.zeroValue127
  t164 := Tryz.underlying186
  a164 := Tryz.isAgg186
  z164 := Tryz.sizeOf186
  v164 := Tryz.zeroValue186 }
theorem tK:Go.Proofs.Lays.n166 Tryz.prog qC:={
  mixed:=by kernel_rfl
  f166:=Tryz.func66.trans (congrArg some (by kernel_rfl))
  f240:=Tryz.func91.trans (congrArg some (by kernel_rfl))
  f276:=Tryz.func111.trans (congrArg some (by kernel_rfl))
  t0 := Tryz.underlying0
  a0 := Tryz.isAgg0
  z0 := Tryz.sizeOf0
  v0 := Tryz.zeroValue0
  t3 := Tryz.underlying3
  a3 := Tryz.isAgg3
  z3 := Tryz.sizeOf3
  v3 := Tryz.zeroValue3
  t4 := Tryz.underlying4
  a4 := Tryz.isAgg4
  z4 := Tryz.sizeOf4
  v4 := Tryz.zeroValue4
  t9 := Tryz.underlying9
  a9 := Tryz.isAgg9
  z9 := Tryz.sizeOf9
  v9 := Tryz.zeroValue9
  t20 := Tryz.underlying20
  a20 := Tryz.isAgg20
  z20 := Tryz.sizeOf20
  v20 := Tryz.zeroValue20
  t37 := Tryz.underlying123
  a37 := Tryz.isAgg123
  z37 := Tryz.sizeOf123
  v37 := Tryz.zeroValue123
  t70 := Tryz.underlying122
  a70 := Tryz.isAgg122
  z70 := Tryz.sizeOf122
  v70 := Tryz.zeroValue122
  t72 := Tryz.underlying125
  a72 := Tryz.isAgg125
  z72 := Tryz.sizeOf125
  v72 := Tryz.zeroValue125
  t75 := Tryz.underlying127
  a75 := Tryz.isAgg127
  z75 := Tryz.sizeOf127
  v75 := Tryz.zeroValue127
  t164 := Tryz.underlying186
  a164 := Tryz.isAgg186
  z164 := Tryz.sizeOf186
  v164 := Tryz.zeroValue186 }
theorem aFQ:Go.Proofs.Lays.n169 Tryz.prog qC:={
  mixed:=by kernel_rfl
  f169:=Tryz.func69.trans (congrArg some (by kernel_rfl))
  t0 := Tryz.underlying0
  a0 := Tryz.isAgg0
  z0 := Tryz.sizeOf0
  v0 := Tryz.zeroValue0
  t3 := Tryz.underlying3
  a3 := Tryz.isAgg3
  z3 := Tryz.sizeOf3
  v3 := Tryz.zeroValue3
  t9 := Tryz.underlying9
  a9 := Tryz.isAgg9
  z9 := Tryz.sizeOf9
  v9 := Tryz.zeroValue9
  t37 := Tryz.underlying123
  a37 := Tryz.isAgg123
  z37 := Tryz.sizeOf123
  v37 := Tryz.zeroValue123
  t70 := Tryz.underlying122
  a70 := Tryz.isAgg122
  z70 := Tryz.sizeOf122
  v70 := Tryz.zeroValue122
  t72 := Tryz.underlying125
  a72 := Tryz.isAgg125
  z72 := Tryz.sizeOf125
  v72 := Tryz.zeroValue125
  t127 := Tryz.underlying158
  a127 := Tryz.isAgg158
  z127 := Tryz.sizeOf158
  v127 := Tryz.zeroValue158 }
theorem oD:Builder.Extra Tryz.prog qC:={
  sizeBuilder:=by kernel_rfl
  liesBuilder:=by kernel_rfl
  t5 := Tryz.underlying5
  a5 := Tryz.isAgg5
  z5 := Tryz.sizeOf5
  v5 := Tryz.zeroValue5
  infoByte:=by kernel_rfl
  cellsByte:=by kernel_rfl
  sizeByte:=by kernel_rfl
  neB5:=by decide }
open Go.RowKit in
theorem aAR (B b:Nat) (l:List UInt8) (c:Int) (w:World) (h:Lib.IsBuilderF 125 5 B b (Lib.byteCells l) w) (hlen:l.length+1≤140737488355328) (hBw:B≤w.heap.size) (u:UInt8) (hu:c=(u.toNat:Int)) :
    Calls Tryz.prog 92 #[.pointer (some ⟨b,0,none⟩),.int .u8 c] w fun e w'=>e=.returned .nilIface∧Lib.IsBuilderF 125 5 B b (Lib.byteCells (l++[u])) w'∧Below B w w'∧Lib.OthersKept 5 (some b) w w':=by
  refine (Any.Builder_WriteByte_k zG oD B b _ c w h (by rw [Lib.byteCells_length];exact hlen) hBw).mono ?_;rintro e w' ⟨rfl,h1,b1,k1⟩;subst hu
  exact ⟨rfl,by rw [Lib.byteCells_append];exact Or.inr h1,b1,k1⟩
open Go.RowKit in
theorem mG (B b:Nat) (l:List UInt8) (s:List UInt8) (w:World) (h:Lib.IsBuilderF 125 5 B b (Lib.byteCells l) w) (hlen:l.length+s.length≤140737488355328) (hBw:B≤w.heap.size) :
    Calls Tryz.prog 66 #[.pointer (some ⟨b,0,none⟩),.string ⟨s.toArray⟩] w fun e w'=>e=.returned (.tuple #[.int .i64 s.length,.nilIface])∧Lib.IsBuilderF 125 5 B b (Lib.byteCells (l++s)) w'∧Below B w w'∧Lib.OthersKept 5 (some b) w w':=by
  refine (Any.Builder_WriteString_k tK oD B b _ ⟨s.toArray⟩ w h (by rw [Lib.byteCells_length];exact hlen) hBw).mono ?_;rintro e w' ⟨rfl,h1,b1,k1⟩
  exact ⟨rfl,by rw [Lib.byteCells_append];exact Or.inr h1,b1,k1⟩
open Go.RowKit in
theorem vQ (B b:Nat) (l:List UInt8) (w:World) (h:Lib.IsBuilderF 125 5 B b (Lib.byteCells l) w) (hBw:B≤w.heap.size) :
    Calls Tryz.prog 69 #[.pointer (some ⟨b,0,none⟩)] w fun e w'=>e=.returned (.string ⟨l.toArray⟩)∧Below B w w':=by
  refine (Any.Builder_String_any_k aFQ oD B b l w h hBw).mono ?_;rintro e w' ⟨rfl,_,b1,_⟩
  exact ⟨rfl,b1⟩
def aJD:Go.Shelf.Ren:=⟨fun | 283=>129 | n=>n,fun | 3=>3 | 9=>9 | 4=>4 | n=>n,fun | n=>n⟩
theorem aIF:Go.Proofs.Lays.n283 Tryz.prog aJD:={
  mixed:=by kernel_rfl
  f283:=Tryz.func129.trans (congrArg some (by kernel_rfl))
  t3 := Tryz.underlying3
  a3 := Tryz.isAgg3
  z3 := Tryz.sizeOf3
  v3 := Tryz.zeroValue3
  t4 := Tryz.underlying4
  a4 := Tryz.isAgg4
  z4 := Tryz.sizeOf4
  v4 := Tryz.zeroValue4
  t9 := Tryz.underlying9
  a9 := Tryz.isAgg9
  z9 := Tryz.sizeOf9
  v9 := Tryz.zeroValue9 }
theorem aJE (n:Nat) (h:n<100) (w:World) :
    Calls Tryz.prog 129 #[.int .i64 (n:Int)] w fun e w'=>e=.returned (.string ⟨(Lib.decDigits n).toArray⟩)∧w'=w:=Any.internal_strconv_small aIF n h w
theorem yQ (n:Nat) (h:n<100) (w:World) :
    Calls Tryz.prog 120 #[.int .i64 (n:Int),.int .i64 10] w fun e w'=>e=.returned (.string ⟨(Lib.decDigits n).toArray⟩)∧w'=w:=by
  have h1:(n:Int)<100:=by omega
  have h0:(0:Int)≤n:=by omega
  go_enter Tryz.func120,Tryz.ntmps120
  go_wp2_with (go_at_call 129;refine (aJE n h _).mono ?_;rintro e w1 ⟨rfl,hw1⟩;have hw1:=hw1.symm;subst hw1)
  go_ret
  exact ⟨rfl,rfl⟩
theorem yZ (n:Nat) (h:n<100) (w:World) :
    Calls Tryz.prog 112 #[.int .i64 (n:Int)] w fun e w'=>e=.returned (.string ⟨(Lib.decDigits n).toArray⟩)∧w'=w:=by
  go_enter Tryz.func112,Tryz.ntmps112
  go_wp2_with (go_at_call 120;refine (yQ n h _).mono ?_;rintro e w1 ⟨rfl,hw1⟩;have hw1:=hw1.symm;subst hw1)
  go_ret
  exact ⟨rfl,rfl⟩
theorem aFM (n:Nat) (h:n<100) (w:World) :
    Calls Tryz.prog 93 #[.int .i64 (n:Int)] w fun e w'=>e=.returned (.string ⟨(Lib.decDigits n).toArray⟩)∧w'=w:=by
  go_enter Tryz.func93,Tryz.ntmps93
  go_wp2_with (go_at_call 112;refine (yZ n h _).mono ?_;rintro e w1 ⟨rfl,hw1⟩;have hw1:=hw1.symm;subst hw1)
  go_ret
  exact ⟨rfl,rfl⟩
end Go.Proofs.YtgpaajdfkekjiaaGreatDoor
namespace Go.Proofs.YtgpaajdfkekjiaaGreatDoor
set_option maxHeartbeats 8000000
set_option maxRecDepth 100000
open Go.RowKit
theorem uF {w:World}{nb:Nat}{ns:List Nat}{fz:Nat×Nat}{T:TypeId}(hn:w.heap[nb]?=some (.cells (aP ns).toArray T fz)) (k:Nat) (hk:k<ns.length):w.cell? ⟨nb,k,none⟩=some (.int .i64 (ns.getD k 0:Nat)):=by
 rw [Lib.cell_of_heap hn]
 simp [aP,hk]
theorem xU (B b nb:Nat) (acc:List UInt8) (ns:List Nat) (fz:Nat×Nat) (w:World) (hI:Lib.IsBuilderF 125 5 B b (Lib.byteCells acc) w) (hB:B≤w.heap.size)
  (hn:w.heap[nb]?=some (.cells (aP ns).toArray 3 fz)) (hnb:nb≠b) (h100:∀i,i<ns.length→ns.getD i 0<100) (h5:ns.length≤5) (ha:acc.length≤100000) :
  Calls Tryz.prog 67 #[.pointer (some ⟨b,0,none⟩),.slice (some ⟨nb,0,none⟩) ns.length ns.length] w fun e w' =>
   e=.returned (.tuple #[])∧Lib.IsBuilderF 125 5 B b (Lib.byteCells (acc++dV ns)) w'∧Below B w w'∧Lib.OthersKept 5 (some b) w w':=by
 go_enter Tryz.func67,Tryz.ntmps67
 go_wp2
 go_loopw [4,5,8] (fun _ _ i wr=>∃k:Nat,k≤ns.length∧i=.int .i64 k∧Lib.IsBuilderF 125 5 B b (Lib.byteCells (acc++dX ns k)) wr∧Below B w wr∧Lib.OthersKept 5 (some b) w wr)
  (fun _ _ i _=>ns.length - (intOf i).toNat)
 case atStart=>exact ⟨0,Nat.zero_le _,rfl,by simpa [dX] using hI,Below.refl _ _,Lib.OthersKept.refl _ _ _⟩
 case round =>
  obtain ⟨k,hk,rfl,hI1,hbel,hoth⟩:=hrel;have hBr:B≤wr.heap.size:=Nat.le_trans hB hbel.size;have hlen:=oK ns k (fun i hi=>h100 i (by omega));have hnr:wr.heap[nb]?=some (.cells (aP ns).toArray 3 fz):=hoth nb _ hn (by simpa using hnb) (fun c fz' h=>by simp at h)
  by_cases hk2:k<ns.length
  ·have hc:=uF hnr k hk2
   obtain ⟨X,hX⟩:∃X,X=ns.getD k 0:=⟨_,rfl⟩
   have hX1:X<100:=(by rw [hX];exact h100 k hk2)
   have hXl:=rC X hX1;rw [←hX] at hc
   by_cases hk0:0<k
   ·have HX:Hid (acc++dX ns (k+1)=acc++dX ns k++[32]++ Lib.decDigits X):=by unfold Hid;rw [mA ns k hk0,←hX];simp
    clear hX
    go_wp2_with (first | (go_at_call 92;refine (aAR B b _ 32 _ hI1 (by simp;omega) hBr 32 rfl).mono ?_;rintro e w1 ⟨rfl,hI2,b2,o2⟩;have hB1:B≤w1.heap.size:=Nat.le_trans hBr b2.size) | (go_at_call 93;refine (aFM X hX1 _).mono ?_;rintro e w2 ⟨rfl,hw2⟩;have hw2:=hw2.symm;subst hw2) | (go_at_call 66;refine (mG B b _ (Lib.decDigits X) _ hI2 (by simp;omega) hB1).mono ?_;rintro e w3 ⟨rfl,hI3,b3,o3⟩))
    go_roundw
    case rel=>exact ⟨k+1,by omega,by go_num,by rw [HX.out];exact hI3,(hbel.trans b2).trans b3,(hoth.trans o2).trans o3⟩
    case measure=>simp [intOf];omega
   ·obtain rfl:k=0:=by omega
    have HX:Hid (acc++dX ns (0+1)=acc++dX ns 0++Lib.decDigits X):=(by unfold Hid;rw [jS ns,←hX];simp [dX])
    clear hX
    go_wp2_with (first | (go_at_call 93;refine (aFM X hX1 _).mono ?_;rintro e w2 ⟨rfl,hw2⟩;have hw2:=hw2.symm;subst hw2) | (go_at_call 66;refine (mG B b _ (Lib.decDigits X) _ hI1 (by simp;omega) hBr).mono ?_;rintro e w3 ⟨rfl,hI3,b3,o3⟩))
    go_roundw
    case rel=>exact ⟨0+1,by omega,by go_num,by rw [HX.out];exact hI3,hbel.trans b3,hoth.trans o3⟩
    case measure=>simp [intOf];omega
  ·obtain rfl:k=ns.length:=by omega
   go_wp2_with (go_at_call 92;refine (aAR B b _ 10 _ hI1 (by simp;omega) hBr 10 rfl).mono ?_;rintro e w1 ⟨rfl,hI2,b2,o2⟩)
   go_end0
   exact ⟨rfl,by rw [dV,←List.append_assoc];exact hI2,hbel.trans b2,hoth.trans o2⟩
def mD (n l g o:Nat):List UInt8:=[97,97,103,32]++ dV [n+l+g,n,l,o,g]
def gH:Nat→List UInt8
 | 0=>[]
 | k+1=>gH k++dV [2*k+2]
def aT (n:Nat) (ls:List (Int×Int)):Nat→List UInt8
 | 0=>[]
 | k+1=>aT n ls k++dV [2*(n+k)+2,(ls.getD k (0,0)).1.toNat,(ls.getD k (0,0)).2.toNat]
def cM (os:List Int):Nat→List UInt8
 | 0=>[]
 | k+1=>cM os k++dV [(os.getD k 0).toNat]
def bK (m:Nat) (gs:List (Int×Int)):Nat→List UInt8
 | 0=>[]
 | k+1=>bK m gs k++dV [2*(m+k)+2,(gs.getD k (0,0)).1.toNat,(gs.getD k (0,0)).2.toNat]
def txt (n:Nat) (ls gs:List (Int×Int)) (os:List Int):List UInt8 :=
 mD n ls.length gs.length os.length++gH n++aT n ls ls.length++cM os os.length++bK (n+ls.length) gs gs.length
theorem eG (ns:List Nat) (h:∀i,i<ns.length→ns.getD i 0<100):(dV ns).length≤3*ns.length+1:=by
 have:=oK ns ns.length h;simp only [dV,List.length_append,List.length_cons,List.length_nil]
 omega
theorem all1 {a:Nat}(ha:a<100):∀i,i < [a].length→[a].getD i 0<100:=fun i hi=>by
 match i,hi with
 | 0,_=>exact ha
theorem all3 {a b c:Nat}(ha:a<100) (hb:b<100) (hc:c<100):∀i,i < [a,b,c].length→[a,b,c].getD i 0<100:=fun i hi=>by
 match i,hi with
 | 0,_=>exact ha
 | 1,_=>exact hb
 | 2,_=>exact hc
theorem all5 {a b c d e:Nat}(ha:a<100) (hb:b<100) (hc:c<100) (hd:d<100) (he:e<100):∀i,i < [a,b,c,d,e].length→[a,b,c,d,e].getD i 0<100:=fun i hi=>by
 match i,hi with
 | 0,_=>exact ha
 | 1,_=>exact hb
 | 2,_=>exact hc
 | 3,_=>exact hd
 | 4,_=>exact he
structure Small (n:Nat) (ls gs:List (Int×Int)) (os:List Int):Prop where
 n4:n≤4
 l4:ls.length≤4
 o4:os.length≤4
 g30:gs.length≤30
 l1:∀i,i<ls.length→((((ls.getD i (0,0)).1.toNat:Nat):Int)=(ls.getD i (0,0)).1∧(ls.getD i (0,0)).1.toNat<100)
 l2:∀i,i<ls.length→((((ls.getD i (0,0)).2.toNat:Nat):Int)=(ls.getD i (0,0)).2∧(ls.getD i (0,0)).2.toNat<100)
 o1:∀i,i<os.length→((((os.getD i 0).toNat:Nat):Int)=os.getD i 0∧(os.getD i 0).toNat<100)
 g1:∀i,i<gs.length→((((gs.getD i (0,0)).1.toNat:Nat):Int)=(gs.getD i (0,0)).1∧(gs.getD i (0,0)).1.toNat<100)
 g2:∀i,i<gs.length→((((gs.getD i (0,0)).2.toNat:Nat):Int)=(gs.getD i (0,0)).2∧(gs.getD i (0,0)).2.toNat<100)
theorem aDB {n:Nat}{ls gs:List (Int×Int)}{os:List Int}(hr:aG n ls gs os=true):Small n ls gs os:=by
 obtain ⟨⟨_,hn4,hl4,ho4,hg30⟩,hokl,hokg,hoko⟩:=cD hr;refine ⟨by omega,hl4,ho4,hg30,fun i hi=>?_,fun i hi=>?_,fun i hi=>?_,fun i hi=>?_,fun i hi=>?_⟩
 ·have h:=hokl i hi
  simp only [cJ,Bool.and_eq_true] at h;have:=dS h.1
  omega
 ·have h:=hokl i hi
  simp only [cJ,Bool.and_eq_true] at h;have:=dS h.2
  omega
 ·have:=dS (hoko i hi)
  omega
 ·have h:=hokg i hi
  simp only [dG,Bool.and_eq_true] at h;have:=dS h.1
  omega
 ·have h:=hokg i hi
  simp only [dG,Bool.and_eq_true] at h;have:=dS h.2
  omega
theorem aC8 {n:Nat}{ls gs:List (Int×Int)}{os:List Int}(s:Small n ls gs os):(mD n ls.length gs.length os.length).length≤20:=by
 have:=eG [n+ls.length+gs.length,n,ls.length,os.length,gs.length] (all5 (by have:=s.n4;have:=s.l4;have:=s.g30;omega) (by have:=s.n4;omega) (by have:=s.l4;omega) (by have:=s.o4;omega) (by have:=s.g30;omega));simp only [mD,List.length_append,List.length_cons,List.length_nil] at this ⊢
 omega
theorem tC (k:Nat) (h:k≤4):(gH k).length≤4*k:=by
 induction k with
 | zero=>simp [gH]
 | succ k ih =>
  have h1:=ih (by omega);have:=eG [2*k+2] (all1 (by omega));simp only [gH,List.length_append,List.length_cons,List.length_nil] at this ⊢
  omega
theorem jZ {n:Nat}{ls gs:List (Int×Int)}{os:List Int}(s:Small n ls gs os) (k:Nat) (h:k≤ls.length):(aT n ls k).length≤10*k:=by
 induction k with
 | zero=>simp [aT]
 | succ k ih =>
  have h1:=ih (by omega);have:=eG [2*(n+k)+2,(ls.getD k (0,0)).1.toNat,(ls.getD k (0,0)).2.toNat] (all3 (by have:=s.n4;have:=s.l4;omega) (s.l1 k (by omega)).2 (s.l2 k (by omega)).2);simp only [aT,List.length_append,List.length_cons,List.length_nil] at this ⊢
  omega
theorem pD {n:Nat}{ls gs:List (Int×Int)}{os:List Int}(s:Small n ls gs os) (k:Nat) (h:k≤os.length):(cM os k).length≤10*k:=by
 induction k with
 | zero=>simp [cM]
 | succ k ih =>
  have h1:=ih (by omega);have:=eG [(os.getD k 0).toNat] (all1 (s.o1 k (by omega)).2);simp only [cM,List.length_append,List.length_cons,List.length_nil] at this ⊢
  omega
theorem sZ {n:Nat}{ls gs:List (Int×Int)}{os:List Int}(s:Small n ls gs os) (k:Nat) (h:k≤gs.length):(bK (n+ls.length) gs k).length≤10*k:=by
 induction k with
 | zero=>simp [bK]
 | succ k ih =>
  have h1:=ih (by omega);have:=eG [2*(n+ls.length+k)+2,(gs.getD k (0,0)).1.toNat,(gs.getD k (0,0)).2.toNat] (all3 (by have:=s.n4;have:=s.l4;have:=s.g30;omega) (s.g1 k (by omega)).2 (s.g2 k (by omega)).2);simp only [bK,List.length_append,List.length_cons,List.length_nil] at this ⊢
  omega
end Go.Proofs.YtgpaajdfkekjiaaGreatDoor
