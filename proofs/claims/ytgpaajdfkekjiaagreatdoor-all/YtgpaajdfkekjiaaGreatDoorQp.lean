/-
  A part of the proof of the statement All: texts of ours, made small by program (blanks, names).
-/
import Derived.Test.YtgpaajdfkekjiaaGreatDoorQm
import Derived.Test.YtgpaajdfkekjiaaGreatDoorPj
import Derived.Test.YtgpaajdfkekjiaaGreatDoorPl
import Derived.WalkKit
namespace Go.Proofs.YtgpaajdfkekjiaaGreatDoor
set_option maxHeartbeats 8000000
set_option maxRecDepth 100000
open Go.RowKit
def StepRes (st:St) (line rb:Nat) (w w':World) (ok:St→Prop) (no:Prop):Prop :=
 Span rb (rb+1) w w'∧((∃st',jJ st=some st'∧RdAt w' rb st'.rest (line+1)∧st'.rest.length≤st.rest.length∧ok st')∨(∃R',jJ st=none∧RdAt w' rb R' (line+1)∧no))
theorem dF {w:World}{g:Nat}{ns:List Nat}(hrow:w.rowIs g 3 ns.length (upTo ns)) (k:Nat) (hk:k<ns.length):w.cell? ⟨g,k,none⟩=some (.int .i64 ((ns.getD k 0:Nat):Int)):=hrow.cell hk
theorem lV {ns:List Nat}{k:Nat}(h:∀n∈ns,n<9223372036854775808):ns.getD k 0<9223372036854775808:=by
 rw [List.getD_eq_getElem?_getD]
 by_cases hk:k<ns.length
 ·rw [List.getElem?_eq_getElem hk];exact h _ (List.getElem_mem hk)
 ·rw [List.getElem?_eq_none (by omega)];simp
theorem Span.setNew {lo hi:Nat}{a b:World}(h:Span lo hi a b){B i:Nat}(hB:a.heap.size≤B) (v:Value):Span lo hi a (b.setCell ⟨B,i,none⟩ v) :=
 ⟨h.os,h.tape,h.output,by rw [Deep.nblk_setCell];exact h.size,fun k hk ho=>(Deep.blk_setCell_other _ _ _ _ (show k≠B by omega)).trans (h.block k hk ho)⟩
theorem RdAt.set_other {w:World}{rb:Nat}{R:List UInt8}{line:Nat}(h:RdAt w rb R line){B i:Nat}(hB:B≠rb) (v:Value):RdAt (w.setCell ⟨B,i,none⟩ v) rb R line :=
 h.blk (Deep.blk_setCell_other _ _ _ _ (show rb≠B from hB.symm))
theorem aBT (h:Hd) (i line rb:Nat) (v:Int) (R:List UInt8) (ls gs:List (Int×Int)) (os:List Int) (w:World) (hL:Lib0 w) (hg:¬jO rb) (hr:RdAt w rb R line) (hR:R.length≤1000) (hl:line≤100) (hh:h.Ok) (hi:i<h.n) (hv:v=2*(i:Int)+2) :
  Calls Tryz.prog 40 #[.pointer (some ⟨rb,0,none⟩),.int .i64 v] w fun e w' =>
   StepRes ⟨some h,i,ls,os,gs,R⟩ line rb w w' (fun st'=>st'=⟨some h,i+1,ls,os,gs,st'.rest⟩∧e=.returned (.bool true)) (e=.returned (.bool false)):=by
 have hn:=gQ [] R 1 line rb w hL hg hr hR (by simp) (by simp) (by omega) (by omega) hl
 go_enter Tryz.func40,Tryz.ntmps40
 go_wp2_with fail
 refine hn.mono ?_;rintro e w1 ⟨sp,hres⟩
 rcases hres with ⟨ns,g,R',got,hbd,rd,hlen,rfl,hge,hrow⟩ | ⟨R',hno,rd,rfl⟩
 ·have c0:=dF hrow 0 (by have:=got.1;omega)
  have hst:=vH (ls:=ls) (gs:=gs) (os:=os) hh hi got;have hl1:(ns.length:Int)=1:=by have:=got.1;omega
  have hl1':ns.length=1:=got.1;obtain ⟨x,hx⟩:∃x,x=ns.getD 0 0:=⟨_,rfl⟩
  rw [←hx] at c0 hst
  by_cases he:x=2*i+2
  ·have e2:(x:Int)=v:=by omega
   rw [if_pos he] at hst;rw [e2] at c0;clear hx hl1 he e2 hv;rw [hl1'];go_wp2
   go_ret
   exact ⟨sp,.inl ⟨_,hst,rd,hlen,rfl,rfl⟩⟩
  ·have e2:¬(x:Int)=v:=by omega
   rw [if_neg he] at hst;clear hx hl1 he hv;rw [hl1'];go_wp2
   go_ret
   exact ⟨sp,.inr ⟨_,hst,rd,aU (by simp [e2])⟩⟩
 ·go_wp2
  go_ret
  exact ⟨sp,.inr ⟨_,aAG hi hno,rd,rfl⟩⟩
theorem rP (x m:Nat):inB ((x:Nat):Int) ((m:Nat):Int)=decide (x≤m):=by
 unfold inB
 by_cases h:x≤m
 ·rw [decide_eq_true h,decide_eq_true (by omega)]
 ·rw [decide_eq_false h,decide_eq_false (by omega)]
theorem aBU (h:Hd) (i line rb:Nat) (v last:Int) (R:List UInt8) (ls gs:List (Int×Int)) (os:List Int) (w:World) (hL:Lib0 w) (hg:¬jO rb) (hr:RdAt w rb R line) (hR:R.length≤1000) (hl:line≤100) (hh:h.Ok) (hi:i=h.n) (hls:ls.length<h.l)
  (hv:v=2*((h.n:Int)+ls.length)+2) (hlast:last=(h.n:Int)+h.l+h.g) :
  Calls Tryz.prog 41 #[.pointer (some ⟨rb,0,none⟩),.int .i64 v,.int .i64 last] w fun e w' =>
   StepRes ⟨some h,i,ls,os,gs,R⟩ line rb w w' (fun st'=>∃a b:Nat,st'=⟨some h,i,ls++[((a:Int),(b:Int))],os,gs,st'.rest⟩∧e=.returned (.tuple #[.agg #[.int .i64 a,.int .i64 b],.bool true])) (e=.returned (.tuple #[.agg #[.int .i64 0,.int .i64 0],.bool false])):=by
 obtain ⟨W0,hW0⟩:∃W0,W0=w.alloc (.cells #[.int .i64 0,.int .i64 0] 54):=⟨_,rfl⟩
 have b0:Below w.heap.size w W0:=by rw [hW0];exact (Below.refl _ _).alloc (Nat.le_refl _) _
 have s0:W0.heap.size=w.heap.size+1:=by rw [hW0];simp
 have bx:W0.heap[w.heap.size]?=some (.cells #[.int .i64 0,.int .i64 0] 54 (0,0)):=by rw [hW0];exact heap_alloc_new _ _
 have hne:w.heap.size≠rb:=by have:=hr.lt;omega
 have hn:=gQ [] R 3 line rb W0 (hL.below b0) hg (hr.below b0) hR (by simp) (by simp) (by omega) (by omega) hl;rw [hW0] at hn;obtain ⟨hh1,hh2,hh3,hh4⟩:=id hh
 go_enter Tryz.func41,Tryz.ntmps41
 go_wp2_with fail
 refine hn.mono ?_;rw [←hW0];rintro e w1 ⟨sp0,hres⟩;have bx1:w1.heap[w.heap.size]?=some (.cells #[.int .i64 0,.int .i64 0] 54 (0,0)):=(sp0.block w.heap.size (by omega) (by omega)).trans bx;have sp:Span rb (rb+1) w w1:=(Span.of_below b0).trans sp0;have q0:w1.cell? ⟨w.heap.size,0,none⟩=some (.int .i64 0):=by rw [cell_of_row _ _ _ _ _ _ bx1];rfl
 have q1:w1.cell? ⟨w.heap.size,1,none⟩=some (.int .i64 0):=by rw [cell_of_row _ _ _ _ _ _ bx1];rfl
 have qf0:w1.frozen? ⟨w.heap.size,0,none⟩=false:=frozen_of_row _ _ _ _ _ bx1;have qf1:w1.frozen? ⟨w.heap.size,1,none⟩=false:=frozen_of_row _ _ _ _ _ bx1;clear hn hW0
 rcases hres with ⟨ns,g,R',got,hbd,rd,hlen,rfl,hge,hrow⟩ | ⟨R',hno,rd,rfl⟩
 ·have hl3:ns.length=3:=got.1
  have c0:=dF hrow 0 (by omega);have c1:=dF hrow 1 (by omega);have c2:=dF hrow 2 (by omega);have hst:=nP (gs:=gs) (os:=os) hh hi hls got;have y1:=lV (k:=1) hbd;obtain ⟨x0,hx0⟩:∃x,x=ns.getD 0 0:=⟨_,rfl⟩
  obtain ⟨x1,hx1⟩:∃x,x=ns.getD 1 0:=⟨_,rfl⟩
  obtain ⟨x2,hx2⟩:∃x,x=ns.getD 2 0:=⟨_,rfl⟩
  rw [←hx0] at c0 hst;rw [←hx1] at c1 hst y1;rw [←hx2] at c2 hst;rw [hl3];have b1:inB (x1:Int) (2*last+1)=decide (x1≤2*(h.n+h.l+h.g)+1):=by rw [←rP];congr 1;rw [hlast];omega
  have l0:0≤last:=by omega
  have l1:last≤1000000:=by omega
  have e0v:x0=2*(h.n+ls.length)+2↔(x0:Int)=v:=by omega
  have b2:inB (x2:Int) 1=decide (x2≤1):=rP x2 1;clear hx0 hx1 hx2 hlast hv hh hh1 hh2 hh3 hh4 hr hL hl hR hi hls b0 bx bx1 sp0 hg s0 hge hrow hbd got
  by_cases e0:x0=2*(h.n+ls.length)+2
  ·have e0':(x0:Int)=v:=e0v.1 e0
   rw [e0'] at c0
   by_cases e1:x1≤2*(h.n+h.l+h.g)+1
   ·by_cases e2:x2≤1
    ·rw [if_pos ⟨e0,e1,e2⟩] at hst
     rw [decide_eq_true e1] at b1;rw [decide_eq_true e2] at b2;clear e0 e1 e2 e0' e0v
     go_wp2_with (first | (go_at_call 71;refine (dN _ l0 l1 b1).mono ?_;rintro e w' ⟨rfl,hw⟩;have hw:=hw.symm;subst hw) | (go_at_call 72;refine (wB _ b2).mono ?_;rintro e w' ⟨rfl,hw⟩;have hw:=hw.symm;subst hw) | fail)
     go_region
     go_wp2;refine bodyPost_ret (v:=.tuple #[.agg #[.int .i64 x1,.int .i64 x2],.bool true]) (by simp [results,Tryz.results41,go_sem,q0,q1]) rfl ?_
     exact ⟨((sp.setNew (Nat.le_refl _) _).setNew (Nat.le_refl _) _).drew,.inl ⟨_,hst,((rd.set_other hne _).set_other hne _).drewN 1,hlen,x1,x2,rfl,rfl⟩⟩
    ·rw [if_neg (fun e=>e2 e.2.2)] at hst
     rw [decide_eq_true e1] at b1;rw [decide_eq_false e2] at b2;clear e0 e1 e2 e0' e0v
     go_wp2_with (first | (go_at_call 71;refine (dN _ l0 l1 b1).mono ?_;rintro e w' ⟨rfl,hw⟩;have hw:=hw.symm;subst hw) | (go_at_call 72;refine (wB _ b2).mono ?_;rintro e w' ⟨rfl,hw⟩;have hw:=hw.symm;subst hw) | fail)
     refine bodyPost_ret (v:=.tuple #[.agg #[.int .i64 0,.int .i64 0],.bool false]) (by simp [results,Tryz.results41,go_sem,q0,q1]) rfl ?_
     exact ⟨(sp.setNew (Nat.le_refl _) _).setNew (Nat.le_refl _) _,.inr ⟨_,hst,(rd.set_other hne _).set_other hne _,rfl⟩⟩
   ·rw [if_neg (fun e=>e1 e.2.1)] at hst
    rw [decide_eq_false e1] at b1;clear e0 e1 e0' e0v b2
    go_wp2_with (first | (go_at_call 71;refine (dN _ l0 l1 b1).mono ?_;rintro e w' ⟨rfl,hw⟩;have hw:=hw.symm;subst hw) | fail)
    refine bodyPost_ret (v:=.tuple #[.agg #[.int .i64 0,.int .i64 0],.bool false]) (by simp [results,Tryz.results41,go_sem,q0,q1]) rfl ?_
    exact ⟨(sp.setNew (Nat.le_refl _) _).setNew (Nat.le_refl _) _,.inr ⟨_,hst,(rd.set_other hne _).set_other hne _,rfl⟩⟩
  ·have e0':¬(x0:Int)=v:=fun e=>e0 (e0v.2 e)
   rw [if_neg (fun e=>e0 e.1)] at hst;clear e0 e0v b1 b2;go_wp2;refine bodyPost_ret (v:=.tuple #[.agg #[.int .i64 0,.int .i64 0],.bool false]) (by simp [results,Tryz.results41,go_sem,q0,q1]) rfl ?_
   exact ⟨(sp.setNew (Nat.le_refl _) _).setNew (Nat.le_refl _) _,.inr ⟨_,hst,(rd.set_other hne _).set_other hne _,rfl⟩⟩
 ·go_wp2
  refine bodyPost_ret (v:=.tuple #[.agg #[.int .i64 0,.int .i64 0],.bool false]) (by simp [results,Tryz.results41,go_sem,q0,q1]) rfl ?_
  exact ⟨(sp.setNew (Nat.le_refl _) _).setNew (Nat.le_refl _) _,.inr ⟨_,pR hi hls hno,(rd.set_other hne _).set_other hne _,rfl⟩⟩
theorem aEK (h:Hd) (i line rb:Nat) (v:Int) (R:List UInt8) (ls gs:List (Int×Int)) (os:List Int) (w:World) (hL:Lib0 w) (hg:¬jO rb) (hr:RdAt w rb R line) (hR:R.length≤1000) (hl:line≤100) (hh:h.Ok) (hi:i=h.n) (hls:ls.length=h.l) (hos:os.length=h.o) (hgs:gs.length<h.g)
  (hv:v=2*((h.n:Int)+h.l+gs.length)+2) :
  Calls Tryz.prog 43 #[.pointer (some ⟨rb,0,none⟩),.int .i64 v] w fun e w' =>
   StepRes ⟨some h,i,ls,os,gs,R⟩ line rb w w' (fun st'=>∃a b:Nat,st'=⟨some h,i,ls,os,gs++[((a:Int),(b:Int))],st'.rest⟩∧e=.returned (.tuple #[.agg #[.int .i64 a,.int .i64 b],.bool true])) (e=.returned (.tuple #[.agg #[.int .i64 0,.int .i64 0],.bool false])):=by
 obtain ⟨W0,hW0⟩:∃W0,W0=w.alloc (.cells #[.int .i64 0,.int .i64 0] 56):=⟨_,rfl⟩
 have b0:Below w.heap.size w W0:=by rw [hW0];exact (Below.refl _ _).alloc (Nat.le_refl _) _
 have s0:W0.heap.size=w.heap.size+1:=by rw [hW0];simp
 have bx:W0.heap[w.heap.size]?=some (.cells #[.int .i64 0,.int .i64 0] 56 (0,0)):=by rw [hW0];exact heap_alloc_new _ _
 have hne:w.heap.size≠rb:=by have:=hr.lt;omega
 have hn:=gQ [] R 3 line rb W0 (hL.below b0) hg (hr.below b0) hR (by simp) (by simp) (by omega) (by omega) hl;rw [hW0] at hn;obtain ⟨hh1,hh2,hh3,hh4⟩:=id hh
 go_enter Tryz.func43,Tryz.ntmps43
 go_wp2_with fail
 refine hn.mono ?_;rw [←hW0];rintro e w1 ⟨sp0,hres⟩;have bx1:w1.heap[w.heap.size]?=some (.cells #[.int .i64 0,.int .i64 0] 56 (0,0)):=(sp0.block w.heap.size (by omega) (by omega)).trans bx;have sp:Span rb (rb+1) w w1:=(Span.of_below b0).trans sp0;have q0:w1.cell? ⟨w.heap.size,0,none⟩=some (.int .i64 0):=by rw [cell_of_row _ _ _ _ _ _ bx1];rfl
 have q1:w1.cell? ⟨w.heap.size,1,none⟩=some (.int .i64 0):=by rw [cell_of_row _ _ _ _ _ _ bx1];rfl
 have qf0:w1.frozen? ⟨w.heap.size,0,none⟩=false:=frozen_of_row _ _ _ _ _ bx1;have qf1:w1.frozen? ⟨w.heap.size,1,none⟩=false:=frozen_of_row _ _ _ _ _ bx1;clear hn hW0
 rcases hres with ⟨ns,g,R',got,hbd,rd,hlen,rfl,hge,hrow⟩ | ⟨R',hno,rd,rfl⟩
 ·have hl3:ns.length=3:=got.1
  have c0:=dF hrow 0 (by omega);have c1:=dF hrow 1 (by omega);have c2:=dF hrow 2 (by omega);have hst:=pP hh hi hls hos hgs got;have y1:=lV (k:=1) hbd;obtain ⟨x0,hx0⟩:∃x,x=ns.getD 0 0:=⟨_,rfl⟩
  obtain ⟨x1,hx1⟩:∃x,x=ns.getD 1 0:=⟨_,rfl⟩
  obtain ⟨x2,hx2⟩:∃x,x=ns.getD 2 0:=⟨_,rfl⟩
  rw [←hx0] at c0 hst;rw [←hx1] at c1 hst y1;rw [←hx2] at c2 hst;rw [hl3];obtain ⟨last,hlast⟩:∃last:Int,last=(h.n:Int)+h.l+gs.length:=⟨_,rfl⟩
  have b1:inB (x1:Int) (2*last+1)=decide (x1≤2*(h.n+h.l+gs.length)+1):=by rw [←rP];congr 1;rw [hlast];omega
  have hlv:v / 2 - 1=last:=by omega
  have l0:0≤last:=by omega
  have l1:last≤1000000:=by omega
  have e0v:x0=2*(h.n+h.l+gs.length)+2↔(x0:Int)=v:=by omega
  have b2:inB (x2:Int) (2*last+1)=decide (x2≤2*(h.n+h.l+gs.length)+1):=by rw [←rP];congr 1;rw [hlast];omega
  have hv2:v≤1000:=by omega
  have hv3:2≤v:=by omega
  clear hx0 hx1 hx2 hlast hv hh hh1 hh2 hh3 hh4 hr hL hl hR hi hls hos hgs b0 bx bx1 sp0 hg s0 hge hrow hbd got
  by_cases e0:x0=2*(h.n+h.l+gs.length)+2
  ·have e0':(x0:Int)=v:=e0v.1 e0
   rw [e0'] at c0
   by_cases e1:x1≤2*(h.n+h.l+gs.length)+1
   ·by_cases e2:x2≤2*(h.n+h.l+gs.length)+1
    ·rw [if_pos ⟨e0,e1,e2⟩] at hst
     rw [decide_eq_true e1] at b1;rw [decide_eq_true e2] at b2;clear e0 e1 e2 e0' e0v
     go_wp2_with (first | (go_at_call 71;refine (dN _ l0 l1 b1).mono ?_;rintro e w' ⟨rfl,hw⟩;have hw:=hw.symm;subst hw) | (go_at_call 71;refine (dN _ l0 l1 b2).mono ?_;rintro e w' ⟨rfl,hw⟩;have hw:=hw.symm;subst hw) | fail)
     go_region
     go_wp2;refine bodyPost_ret (v:=.tuple #[.agg #[.int .i64 x1,.int .i64 x2],.bool true]) (by simp [results,Tryz.results43,go_sem,q0,q1]) rfl ?_
     exact ⟨((sp.setNew (Nat.le_refl _) _).setNew (Nat.le_refl _) _).drew,.inl ⟨_,hst,((rd.set_other hne _).set_other hne _).drewN 1,hlen,x1,x2,rfl,rfl⟩⟩
    ·rw [if_neg (fun e=>e2 e.2.2)] at hst
     rw [decide_eq_true e1] at b1;rw [decide_eq_false e2] at b2;clear e0 e1 e2 e0' e0v
     go_wp2_with (first | (go_at_call 71;refine (dN _ l0 l1 b1).mono ?_;rintro e w' ⟨rfl,hw⟩;have hw:=hw.symm;subst hw) | (go_at_call 71;refine (dN _ l0 l1 b2).mono ?_;rintro e w' ⟨rfl,hw⟩;have hw:=hw.symm;subst hw) | fail)
     refine bodyPost_ret (v:=.tuple #[.agg #[.int .i64 0,.int .i64 0],.bool false]) (by simp [results,Tryz.results43,go_sem,q0,q1]) rfl ?_
     exact ⟨(sp.setNew (Nat.le_refl _) _).setNew (Nat.le_refl _) _,.inr ⟨_,hst,(rd.set_other hne _).set_other hne _,rfl⟩⟩
   ·rw [if_neg (fun e=>e1 e.2.1)] at hst
    rw [decide_eq_false e1] at b1;clear e0 e1 e0' e0v b2
    go_wp2_with (first | (go_at_call 71;refine (dN _ l0 l1 b1).mono ?_;rintro e w' ⟨rfl,hw⟩;have hw:=hw.symm;subst hw) | fail)
    refine bodyPost_ret (v:=.tuple #[.agg #[.int .i64 0,.int .i64 0],.bool false]) (by simp [results,Tryz.results43,go_sem,q0,q1]) rfl ?_
    exact ⟨(sp.setNew (Nat.le_refl _) _).setNew (Nat.le_refl _) _,.inr ⟨_,hst,(rd.set_other hne _).set_other hne _,rfl⟩⟩
  ·have e0':¬(x0:Int)=v:=fun e=>e0 (e0v.2 e)
   rw [if_neg (fun e=>e0 e.1)] at hst;clear e0 e0v b1 b2;go_wp2;refine bodyPost_ret (v:=.tuple #[.agg #[.int .i64 0,.int .i64 0],.bool false]) (by simp [results,Tryz.results43,go_sem,q0,q1]) rfl ?_
   exact ⟨(sp.setNew (Nat.le_refl _) _).setNew (Nat.le_refl _) _,.inr ⟨_,hst,(rd.set_other hne _).set_other hne _,rfl⟩⟩
 ·go_wp2
  refine bodyPost_ret (v:=.tuple #[.agg #[.int .i64 0,.int .i64 0],.bool false]) (by simp [results,Tryz.results43,go_sem,q0,q1]) rfl ?_
  exact ⟨(sp.setNew (Nat.le_refl _) _).setNew (Nat.le_refl _) _,.inr ⟨_,sQ hi hls hos hgs hno,(rd.set_other hne _).set_other hne _,rfl⟩⟩
end Go.Proofs.YtgpaajdfkekjiaaGreatDoor
namespace Go.Proofs.YtgpaajdfkekjiaaGreatDoor
set_option maxHeartbeats 8000000
set_option maxRecDepth 100000
open Go.RowKit
structure CInv (w wr:World) (A hb:Nat) (h:Hd) (lv gv ov:Value) (ls gs:List (Int×Int)) (os:List Int):Prop where
 a:A=w.heap.size
 hb2:A+2<hb
 hbl:hb<wr.heap.size
 bel:Below w.heap.size w wr
 boxA:wr.heap[A]?=some (.cells #[.int .i64 0,.slice none 0 0,.slice none 0 0,.slice none 0 0] 34 (0,0))
 boxC:wr.heap[A+1]?=some (.cells #[.int .i64 h.n,lv,gv,ov] 34 (0,0))
 boxH:wr.heap[hb]?=some (.cells #[.int .i64 ((h.n:Int)+h.l+h.g),.int .i64 h.n,.int .i64 h.l,.int .i64 h.o,.int .i64 h.g] 91 (0,0))
 ownL:wr.ownsRow (hb+1) 54 2 lv ls.length (flat ls)
 ownG:wr.ownsRow (hb+1) 56 2 gv gs.length (flat gs)
 ownO:wr.ownsRow (hb+1) 3 1 ov os.length (ivs os)
 lg:∀q,lv.ownBlock=some q→gv.ownBlock≠some q
 lo:∀q,lv.ownBlock=some q→ov.ownBlock≠some q
 go':∀q,gv.ownBlock=some q→ov.ownBlock≠some q
section
variable {w wr wr':World}{A hb:Nat}{h:Hd}{lv gv ov:Value}{ls gs:List (Int×Int)}{os:List Int}
theorem CInv.span (I:CInv w wr A hb h lv gv ov ls gs os) (sp:Span (A+2) (A+3) wr wr'):CInv w wr' A hb h lv gv ov ls gs os:=by
 have h1:=I.hb2;have h2:=I.hbl;have h3:=I.a;refine ⟨I.a,I.hb2,Nat.lt_of_lt_of_le I.hbl sp.size,I.bel.trans (sp.below (by omega) (by omega)),?_,?_,?_,aL I.ownL (fun q hq=>?_),aL I.ownG (fun q hq=>?_),aL I.ownO (fun q hq=>?_),I.lg,I.lo,I.go'⟩
 ·rw [sp.block A (by omega) (by omega)];exact I.boxA
 ·rw [sp.block (A+1) (by omega) (by omega)];exact I.boxC
 ·rw [sp.block hb (by omega) (by omega)];exact I.boxH
 ·have:=I.ownL.lt q hq;exact sp.block q this.2 (by omega)
 ·have:=I.ownG.lt q hq;exact sp.block q this.2 (by omega)
 ·have:=I.ownO.lt q hq;exact sp.block q this.2 (by omega)
theorem CInv.alloc (I:CInv w wr A hb h lv gv ov ls gs os) (o:Obj):CInv w (wr.alloc o) A hb h lv gv ov ls gs os :=
 I.span (Span.of_below ((Below.refl _ _).alloc (Nat.le_refl _) o))
theorem aC0 (I:CInv w wr A hb h lv gv ov ls gs os){v:Value}{g':Nat}(G:Grew wr wr' v g') (hv:∀q,v.ownBlock=some q→hb+1≤q) (i:Nat) (x:Value) :
  A=w.heap.size∧A+2<hb∧hb<(wr'.setCell ⟨A+1,i,none⟩ x).heap.size∧Below w.heap.size w (wr'.setCell ⟨A+1,i,none⟩ x)∧
  (wr'.setCell ⟨A+1,i,none⟩ x).heap[A]?=some (.cells #[.int .i64 0,.slice none 0 0,.slice none 0 0,.slice none 0 0] 34 (0,0))∧
  (wr'.setCell ⟨A+1,i,none⟩ x).heap[A+1]?=some (.cells ((#[.int .i64 h.n,lv,gv,ov]:Array Value).setIfInBounds i x) 34 (0,0))∧
  (wr'.setCell ⟨A+1,i,none⟩ x).heap[hb]?=some (.cells #[.int .i64 ((h.n:Int)+h.l+h.g),.int .i64 h.n,.int .i64 h.l,.int .i64 h.o,.int .i64 h.g] 91 (0,0)):=by
 have h1:=I.hb2;have h2:=I.hbl;have h3:=I.a;have far:∀k,k≤hb→wr'.heap[k]?=wr.heap[k]?:=fun k hk=>G.blk k (by omega) (fun e=>by have:=hv k e;omega)
 have hs:(wr'.setCell ⟨A+1,i,none⟩ x).heap.size=wr'.heap.size:=Deep.nblk_setCell _ _ _;have hg:=G.grow.size;refine ⟨I.a,I.hb2,by omega,?_,?_,?_,?_⟩
 ·have b1:Below w.heap.size w wr':=I.bel.trans ⟨G.grow.os,G.grow.tape,G.grow.output,G.grow.size,fun k hk=>far k (by omega)⟩
  exact b1.setCell (show w.heap.size≤A+1 by omega) _
 ·rw [Deep.blk_setCell_other _ _ _ _ (show A≠A+1 by omega),far A (by omega)];exact I.boxA
 ·exact aM ((far (A+1) (by omega)).trans I.boxC) _ _
 ·rw [Deep.blk_setCell_other _ _ _ _ (show hb≠A+1 by omega),far hb (by omega)];exact I.boxH
theorem jC {base e size:Nat}{v:Value}{n:Nat}{xs:List Value}(hA:A+1<base) (h:wr'.ownsRow base e size v n xs) (i:Nat) (x:Value):(wr'.setCell ⟨A+1,i,none⟩ x).ownsRow base e size v n xs :=
 aL h (fun q hq=>Deep.blk_setCell_other _ _ _ _ (show q≠A+1 by have:=h.lt q hq;omega))
theorem CInv.addL (I:CInv w wr A hb h lv gv ov ls gs os){g' cap':Nat}{a b:Int}(own':wr'.ownsRow (hb+1) 54 2 (.slice (some ⟨g',0,none⟩) (ls.length+1) cap') (ls.length+1) (flat ls++[.int .i64 a,.int .i64 b])) (G:Grew wr wr' lv g') :
  CInv w (wr'.setCell ⟨A+1,1,none⟩ (.slice (some ⟨g',0,none⟩) (ls.length+1) cap')) A hb h (.slice (some ⟨g',0,none⟩) (ls.length+1) cap') gv ov (ls++[(a,b)]) gs os:=by
 obtain ⟨x1,x2,x3,x4,x5,x6,x7⟩:=aC0 I G (fun q hq=>(I.ownL.lt q hq).1) 1 (.slice (some ⟨g',0,none⟩) (ls.length+1) cap');have h1:=I.hb2;refine ⟨x1,x2,x3,x4,x5,x6,x7,?_,jC (by omega) (dE I.ownG G (fun q e e'=>I.lg q e' e)) _ _,jC (by omega) (dE I.ownO G (fun q e e'=>I.lo q e' e)) _ _,?_,?_,I.go'⟩
 ·rw [fS,List.length_append];exact jC (by omega) own' _ _
 ·intro q hq
  simp only [Value.ownBlock,Option.some.injEq] at hq;subst hq
  exact apart I.ownG G (fun q e e'=>I.lg q e' e)
 ·intro q hq
  simp only [Value.ownBlock,Option.some.injEq] at hq;subst hq
  exact apart I.ownO G (fun q e e'=>I.lo q e' e)
theorem CInv.addG (I:CInv w wr A hb h lv gv ov ls gs os){g' cap':Nat}{a b:Int}(own':wr'.ownsRow (hb+1) 56 2 (.slice (some ⟨g',0,none⟩) (gs.length+1) cap') (gs.length+1) (flat gs++[.int .i64 a,.int .i64 b])) (G:Grew wr wr' gv g') :
  CInv w (wr'.setCell ⟨A+1,2,none⟩ (.slice (some ⟨g',0,none⟩) (gs.length+1) cap')) A hb h lv (.slice (some ⟨g',0,none⟩) (gs.length+1) cap') ov ls (gs++[(a,b)]) os:=by
 obtain ⟨x1,x2,x3,x4,x5,x6,x7⟩:=aC0 I G (fun q hq=>(I.ownG.lt q hq).1) 2 (.slice (some ⟨g',0,none⟩) (gs.length+1) cap');have h1:=I.hb2;refine ⟨x1,x2,x3,x4,x5,x6,x7,jC (by omega) (dE I.ownL G I.lg) _ _,?_,jC (by omega) (dE I.ownO G (fun q e e'=>I.go' q e' e)) _ _,?_,I.lo,?_⟩
 ·rw [fS,List.length_append];exact jC (by omega) own' _ _
 ·intro q hq e
  simp only [Value.ownBlock,Option.some.injEq] at e;subst e
  exact apart I.ownL G I.lg hq
 ·intro q hq
  simp only [Value.ownBlock,Option.some.injEq] at hq;subst hq
  exact apart I.ownO G (fun q e e'=>I.go' q e' e)
theorem CInv.addO (I:CInv w wr A hb h lv gv ov ls gs os){g' cap':Nat}{a:Int}(own':wr'.ownsRow (hb+1) 3 1 (.slice (some ⟨g',0,none⟩) (os.length+1) cap') (os.length+1) (ivs os++[.int .i64 a])) (G:Grew wr wr' ov g') :
  CInv w (wr'.setCell ⟨A+1,3,none⟩ (.slice (some ⟨g',0,none⟩) (os.length+1) cap')) A hb h lv gv (.slice (some ⟨g',0,none⟩) (os.length+1) cap') ls gs (os++[a]):=by
 obtain ⟨x1,x2,x3,x4,x5,x6,x7⟩:=aC0 I G (fun q hq=>(I.ownO.lt q hq).1) 3 (.slice (some ⟨g',0,none⟩) (os.length+1) cap');have h1:=I.hb2;refine ⟨x1,x2,x3,x4,x5,x6,x7,jC (by omega) (dE I.ownL G I.lo) _ _,jC (by omega) (dE I.ownG G I.go') _ _,?_,I.lg,?_,?_⟩
 ·rw [wF,List.length_append];exact jC (by omega) own' _ _
 ·intro q hq e
  simp only [Value.ownBlock,Option.some.injEq] at e;subst e
  exact apart I.ownL G I.lo hq
 ·intro q hq e
  simp only [Value.ownBlock,Option.some.injEq] at e;subst e
  exact apart I.ownG G I.go' hq
end
end Go.Proofs.YtgpaajdfkekjiaaGreatDoor
namespace Go.Proofs.YtgpaajdfkekjiaaGreatDoor
set_option maxHeartbeats 8000000
set_option maxRecDepth 100000
open Go.RowKit
theorem aGG (h:Hd) (i line rb:Nat) (last:Int) (R:List UInt8) (ls gs:List (Int×Int)) (os:List Int) (w:World) (hL:Lib0 w) (hg:¬jO rb) (hr:RdAt w rb R line) (hR:R.length≤1000) (hl:line≤100) (hh:h.Ok) (hi:i=h.n) (hls:ls.length=h.l) (hos:os.length<h.o)
  (hlast:last=(h.n:Int)+h.l+h.g) :
  Calls Tryz.prog 42 #[.pointer (some ⟨rb,0,none⟩),.int .i64 last] w fun e w' =>
   StepRes ⟨some h,i,ls,os,gs,R⟩ line rb w w' (fun st'=>∃a:Nat,st'=⟨some h,i,ls,os++[(a:Int)],gs,st'.rest⟩∧e=.returned (.tuple #[.int .i64 a,.bool true])) (e=.returned (.tuple #[.int .i64 0,.bool false])):=by
 have hn:=gQ [] R 1 line rb w hL hg hr hR (by simp) (by simp) (by omega) (by omega) hl;obtain ⟨hh1,hh2,hh3,hh4⟩:=id hh
 go_enter Tryz.func42,Tryz.ntmps42
 go_wp2_with fail
 refine hn.mono ?_;rintro e w1 ⟨sp,hres⟩;clear hn
 rcases hres with ⟨ns,g,R',got,hbd,rd,hlen,rfl,hge,hrow⟩ | ⟨R',hno,rd,rfl⟩
 ·have hl1:ns.length=1:=got.1
  have c0:=dF hrow 0 (by omega);have hst:=sS (gs:=gs) hh hi hls hos got;obtain ⟨x0,hx0⟩:∃x,x=ns.getD 0 0:=⟨_,rfl⟩
  rw [←hx0] at c0 hst;rw [hl1];have b1:inB (x0:Int) (2*last+1)=decide (x0≤2*(h.n+h.l+h.g)+1):=by rw [←rP];congr 1;rw [hlast];omega
  have l0:0≤last:=by omega
  have l1:last≤1000000:=by omega
  clear hx0 hlast hh hh1 hh2 hh3 hh4 hr hL hl hR hi hls hos hg hge hrow hbd got
  by_cases e1:x0≤2*(h.n+h.l+h.g)+1
  ·rw [if_pos e1] at hst
   rw [decide_eq_true e1] at b1;clear e1
   go_wp2_with (first | (go_at_call 71;refine (dN _ l0 l1 b1).mono ?_;rintro e w' ⟨rfl,hw⟩;have hw:=hw.symm;subst hw) | fail)
   go_ret2
   exact ⟨sp,.inl ⟨_,hst,rd,hlen,x0,rfl,rfl⟩⟩
  ·rw [if_neg e1] at hst
   rw [decide_eq_false e1] at b1;clear e1
   go_wp2_with (first | (go_at_call 71;refine (dN _ l0 l1 b1).mono ?_;rintro e w' ⟨rfl,hw⟩;have hw:=hw.symm;subst hw) | fail)
   go_ret2
   exact ⟨sp,.inr ⟨_,hst,rd,rfl⟩⟩
 ·go_wp2
  go_ret2
  exact ⟨sp,.inr ⟨_,vI hi hls hos hno,rd,rfl⟩⟩
theorem aF {l:List Value}{n:Nat}(h:l.length=n+1):∃x t,l=x :: t∧t.length=n:=by
 cases l with
 | nil=>simp at h
 | cons x t=>exact ⟨x,t,rfl,by simpa using h⟩
theorem aB3 (a:Act) (h:a.defers=[]) (hs:a.tmps.size=108):∃x0 x1 x2 x3 x4 x5 x6 x7 x8 x9 x10 x11 x12 x13 x14 x15 x16 x17 x18 x19 x20 x21 x22 x23 x24 x25 x26 x27 x28 x29 x30 x31 x32 x33 x34 x35 x36 x37 x38 x39 x40 x41 x42 x43 x44 x45 x46 x47 x48 x49 x50 x51 x52 x53 x54 x55 x56 x57 x58 x59 x60 x61 x62 x63 x64 x65 x66 x67 x68 x69 x70 x71 x72 x73 x74 x75 x76 x77 x78 x79 x80 x81 x82 x83 x84 x85 x86 x87 x88 x89 x90 x91 x92 x93 x94 x95 x96 x97 x98 x99 x100 x101 x102 x103 x104 x105 x106 x107,a=⟨#[x0,x1,x2,x3,x4,x5,x6,x7,x8,x9,x10,x11,x12,x13,x14,x15,x16,x17,x18,x19,x20,x21,x22,x23,x24,x25,x26,x27,x28,x29,x30,x31,x32,x33,x34,x35,x36,x37,x38,x39,x40,x41,x42,x43,x44,x45,x46,x47,x48,x49,x50,x51,x52,x53,x54,x55,x56,x57,x58,x59,x60,x61,x62,x63,x64,x65,x66,x67,x68,x69,x70,x71,x72,x73,x74,x75,x76,x77,x78,x79,x80,x81,x82,x83,x84,x85,x86,x87,x88,x89,x90,x91,x92,x93,x94,x95,x96,x97,x98,x99,x100,x101,x102,x103,x104,x105,x106,x107],[]⟩:=by
 obtain ⟨⟨l⟩,d⟩:=a;simp only at h;subst h;have hl:l.length=108:=hs;clear hs;obtain ⟨x0,l0,rfl,h0⟩:=aF (n:=107) hl;obtain ⟨x1,l1,rfl,h1⟩:=aF (n:=106) h0;obtain ⟨x2,l2,rfl,h2⟩:=aF (n:=105) h1;obtain ⟨x3,l3,rfl,h3⟩:=aF (n:=104) h2;obtain ⟨x4,l4,rfl,h4⟩:=aF (n:=103) h3;obtain ⟨x5,l5,rfl,h5⟩:=aF (n:=102) h4;obtain ⟨x6,l6,rfl,h6⟩:=aF (n:=101) h5;obtain ⟨x7,l7,rfl,h7⟩:=aF (n:=100) h6;obtain ⟨x8,l8,rfl,h8⟩:=aF (n:=99) h7;obtain ⟨x9,l9,rfl,h9⟩:=aF (n:=98) h8;obtain ⟨x10,l10,rfl,h10⟩:=aF (n:=97) h9;obtain ⟨x11,l11,rfl,h11⟩:=aF (n:=96) h10;obtain ⟨x12,l12,rfl,h12⟩:=aF (n:=95) h11;obtain ⟨x13,l13,rfl,h13⟩:=aF (n:=94) h12;obtain ⟨x14,l14,rfl,h14⟩:=aF (n:=93) h13;obtain ⟨x15,l15,rfl,h15⟩:=aF (n:=92) h14;obtain ⟨x16,l16,rfl,h16⟩:=aF (n:=91) h15;obtain ⟨x17,l17,rfl,h17⟩:=aF (n:=90) h16;obtain ⟨x18,l18,rfl,h18⟩:=aF (n:=89) h17;obtain ⟨x19,l19,rfl,h19⟩:=aF (n:=88) h18;obtain ⟨x20,l20,rfl,h20⟩:=aF (n:=87) h19;obtain ⟨x21,l21,rfl,h21⟩:=aF (n:=86) h20;obtain ⟨x22,l22,rfl,h22⟩:=aF (n:=85) h21;obtain ⟨x23,l23,rfl,h23⟩:=aF (n:=84) h22;obtain ⟨x24,l24,rfl,h24⟩:=aF (n:=83) h23;obtain ⟨x25,l25,rfl,h25⟩:=aF (n:=82) h24;obtain ⟨x26,l26,rfl,h26⟩:=aF (n:=81) h25;obtain ⟨x27,l27,rfl,h27⟩:=aF (n:=80) h26;obtain ⟨x28,l28,rfl,h28⟩:=aF (n:=79) h27;obtain ⟨x29,l29,rfl,h29⟩:=aF (n:=78) h28;obtain ⟨x30,l30,rfl,h30⟩:=aF (n:=77) h29;obtain ⟨x31,l31,rfl,h31⟩:=aF (n:=76) h30;obtain ⟨x32,l32,rfl,h32⟩:=aF (n:=75) h31;obtain ⟨x33,l33,rfl,h33⟩:=aF (n:=74) h32;obtain ⟨x34,l34,rfl,h34⟩:=aF (n:=73) h33;obtain ⟨x35,l35,rfl,h35⟩:=aF (n:=72) h34;obtain ⟨x36,l36,rfl,h36⟩:=aF (n:=71) h35;obtain ⟨x37,l37,rfl,h37⟩:=aF (n:=70) h36;obtain ⟨x38,l38,rfl,h38⟩:=aF (n:=69) h37;obtain ⟨x39,l39,rfl,h39⟩:=aF (n:=68) h38;obtain ⟨x40,l40,rfl,h40⟩:=aF (n:=67) h39;obtain ⟨x41,l41,rfl,h41⟩:=aF (n:=66) h40;obtain ⟨x42,l42,rfl,h42⟩:=aF (n:=65) h41;obtain ⟨x43,l43,rfl,h43⟩:=aF (n:=64) h42;obtain ⟨x44,l44,rfl,h44⟩:=aF (n:=63) h43;obtain ⟨x45,l45,rfl,h45⟩:=aF (n:=62) h44;obtain ⟨x46,l46,rfl,h46⟩:=aF (n:=61) h45;obtain ⟨x47,l47,rfl,h47⟩:=aF (n:=60) h46;obtain ⟨x48,l48,rfl,h48⟩:=aF (n:=59) h47;obtain ⟨x49,l49,rfl,h49⟩:=aF (n:=58) h48;obtain ⟨x50,l50,rfl,h50⟩:=aF (n:=57) h49;obtain ⟨x51,l51,rfl,h51⟩:=aF (n:=56) h50;obtain ⟨x52,l52,rfl,h52⟩:=aF (n:=55) h51;obtain ⟨x53,l53,rfl,h53⟩:=aF (n:=54) h52;obtain ⟨x54,l54,rfl,h54⟩:=aF (n:=53) h53;obtain ⟨x55,l55,rfl,h55⟩:=aF (n:=52) h54;obtain ⟨x56,l56,rfl,h56⟩:=aF (n:=51) h55;obtain ⟨x57,l57,rfl,h57⟩:=aF (n:=50) h56;obtain ⟨x58,l58,rfl,h58⟩:=aF (n:=49) h57;obtain ⟨x59,l59,rfl,h59⟩:=aF (n:=48) h58;obtain ⟨x60,l60,rfl,h60⟩:=aF (n:=47) h59;obtain ⟨x61,l61,rfl,h61⟩:=aF (n:=46) h60;obtain ⟨x62,l62,rfl,h62⟩:=aF (n:=45) h61;obtain ⟨x63,l63,rfl,h63⟩:=aF (n:=44) h62;obtain ⟨x64,l64,rfl,h64⟩:=aF (n:=43) h63;obtain ⟨x65,l65,rfl,h65⟩:=aF (n:=42) h64;obtain ⟨x66,l66,rfl,h66⟩:=aF (n:=41) h65;obtain ⟨x67,l67,rfl,h67⟩:=aF (n:=40) h66;obtain ⟨x68,l68,rfl,h68⟩:=aF (n:=39) h67;obtain ⟨x69,l69,rfl,h69⟩:=aF (n:=38) h68;obtain ⟨x70,l70,rfl,h70⟩:=aF (n:=37) h69;obtain ⟨x71,l71,rfl,h71⟩:=aF (n:=36) h70;obtain ⟨x72,l72,rfl,h72⟩:=aF (n:=35) h71;obtain ⟨x73,l73,rfl,h73⟩:=aF (n:=34) h72;obtain ⟨x74,l74,rfl,h74⟩:=aF (n:=33) h73;obtain ⟨x75,l75,rfl,h75⟩:=aF (n:=32) h74;obtain ⟨x76,l76,rfl,h76⟩:=aF (n:=31) h75;obtain ⟨x77,l77,rfl,h77⟩:=aF (n:=30) h76;obtain ⟨x78,l78,rfl,h78⟩:=aF (n:=29) h77;obtain ⟨x79,l79,rfl,h79⟩:=aF (n:=28) h78;obtain ⟨x80,l80,rfl,h80⟩:=aF (n:=27) h79;obtain ⟨x81,l81,rfl,h81⟩:=aF (n:=26) h80;obtain ⟨x82,l82,rfl,h82⟩:=aF (n:=25) h81;obtain ⟨x83,l83,rfl,h83⟩:=aF (n:=24) h82;obtain ⟨x84,l84,rfl,h84⟩:=aF (n:=23) h83;obtain ⟨x85,l85,rfl,h85⟩:=aF (n:=22) h84;obtain ⟨x86,l86,rfl,h86⟩:=aF (n:=21) h85;obtain ⟨x87,l87,rfl,h87⟩:=aF (n:=20) h86;obtain ⟨x88,l88,rfl,h88⟩:=aF (n:=19) h87;obtain ⟨x89,l89,rfl,h89⟩:=aF (n:=18) h88;obtain ⟨x90,l90,rfl,h90⟩:=aF (n:=17) h89;obtain ⟨x91,l91,rfl,h91⟩:=aF (n:=16) h90;obtain ⟨x92,l92,rfl,h92⟩:=aF (n:=15) h91;obtain ⟨x93,l93,rfl,h93⟩:=aF (n:=14) h92;obtain ⟨x94,l94,rfl,h94⟩:=aF (n:=13) h93;obtain ⟨x95,l95,rfl,h95⟩:=aF (n:=12) h94;obtain ⟨x96,l96,rfl,h96⟩:=aF (n:=11) h95;obtain ⟨x97,l97,rfl,h97⟩:=aF (n:=10) h96;obtain ⟨x98,l98,rfl,h98⟩:=aF (n:=9) h97;obtain ⟨x99,l99,rfl,h99⟩:=aF (n:=8) h98;obtain ⟨x100,l100,rfl,h100⟩:=aF (n:=7) h99;obtain ⟨x101,l101,rfl,h101⟩:=aF (n:=6) h100;obtain ⟨x102,l102,rfl,h102⟩:=aF (n:=5) h101;obtain ⟨x103,l103,rfl,h103⟩:=aF (n:=4) h102;obtain ⟨x104,l104,rfl,h104⟩:=aF (n:=3) h103;obtain ⟨x105,l105,rfl,h105⟩:=aF (n:=2) h104;obtain ⟨x106,l106,rfl,h106⟩:=aF (n:=1) h105;obtain ⟨x107,l107,rfl,h107⟩:=aF (n:=0) h106;obtain rfl:l107=[]:=List.eq_nil_of_length_eq_zero h107
 exact ⟨x0,x1,x2,x3,x4,x5,x6,x7,x8,x9,x10,x11,x12,x13,x14,x15,x16,x17,x18,x19,x20,x21,x22,x23,x24,x25,x26,x27,x28,x29,x30,x31,x32,x33,x34,x35,x36,x37,x38,x39,x40,x41,x42,x43,x44,x45,x46,x47,x48,x49,x50,x51,x52,x53,x54,x55,x56,x57,x58,x59,x60,x61,x62,x63,x64,x65,x66,x67,x68,x69,x70,x71,x72,x73,x74,x75,x76,x77,x78,x79,x80,x81,x82,x83,x84,x85,x86,x87,x88,x89,x90,x91,x92,x93,x94,x95,x96,x97,x98,x99,x100,x101,x102,x103,x104,x105,x106,x107,rfl⟩
end Go.Proofs.YtgpaajdfkekjiaaGreatDoor
