/-
  A part of the proof of the statement All: texts of ours, made small by program (blanks, names).
-/
import Derived.Test.YtgpaajdfkekjiaaGreatDoorPd
namespace Go.Proofs.YtgpaajdfkekjiaaGreatDoor
set_option maxHeartbeats 8000000
set_option maxRecDepth 100000
open Go.RowKit
theorem aBD {s last:Int}{b:Bool}(w:World) (hs1:-9223372036854775808≤s) (hs2:s≤9223372036854775807) (h:inB s (2*last+1)=b) :
  Calls Tryz.prog 74 #[.int .i64 s,.int .i64 (last+1)] w fun e w'=>e=.returned (.bool b)∧w'=w:=by
 subst h
 by_cases h2:0≤s
 ·by_cases h3:s / 2<last+1
  ·go_enter Tryz.func74,Tryz.ntmps74
   go_wp2
   go_ret
   exact ⟨aU (by simp [inB];omega),rfl⟩
  ·go_enter Tryz.func74,Tryz.ntmps74
   go_wp2
   go_ret
   exact ⟨aU (by simp [inB];omega),rfl⟩
 ·go_enter Tryz.func74,Tryz.ntmps74
  go_wp2
  go_ret
  exact ⟨aU (by simp [inB];omega),rfl⟩
theorem aH6 (n:Int) (la ga oa:Option Addr) (ln lc gn gc on oc:Nat) (w:World) (h0:0≤n) (h1:n≤4) (h2:ln≤1000) (h3:gn≤1000) :
  Calls Tryz.prog 48 #[.agg #[.int .i64 n,.slice la ln lc,.slice ga gn gc,.slice oa on oc]] w fun e w' =>
   e=.returned (.int .i64 (n+ln+gn))∧w'=w.alloc (.cells #[.int .i64 n,.slice la ln lc,.slice ga gn gc,.slice oa on oc] 34):=by
 go_enter Tryz.func48,Tryz.ntmps48
 go_wp2
 go_ret
 exact ⟨rfl,rfl⟩
theorem aIS {s:Int}{base g len cap a:Nat}{vs:List Nat}(w:World) (h0:0≤s) (hl:s / 2<len) (hlen:len≤1000) (hv:len=vs.length)
  (h01:∀x∈vs,x≤1) (hown:w.ownsRow base 3 1 (.slice (some ⟨g,0,none⟩) len cap) len (aP vs)) (ha:sigv s vs=a) :
  Calls Tryz.prog 80 #[.slice (some ⟨g,0,none⟩) len cap,.int .i64 s] w fun e w'=>e=.returned (.int .i64 (a:Nat))∧w'=w:=by
 subst ha;have hcell:=nE hown (s / 2).toNat (by omega);rw [Nat.zero_add] at hcell;have hx:vs.getD (s / 2).toNat 0≤1:=by
  have hlt:(s / 2).toNat<vs.length:=by omega
  rw [List.getD_eq_getElem?_getD,List.getElem?_eq_getElem hlt]
  exact h01 _ (List.getElem_mem hlt)
 obtain ⟨x,hX⟩:∃x,x=vs.getD (s / 2).toNat 0:=⟨_,rfl⟩
 have hs:sigv s vs=(x+s.toNat % 2) % 2:=by unfold sigv;rw [hX]
 rw [←hX] at hcell hx;rw [hs];clear hX hs hown h01 hv;obtain ⟨S,rfl⟩:=Int.eq_ofNat_of_zero_le h0;have eS:((S:Int) / 2).toNat=S / 2:=by omega
 rw [eS] at hcell;clear eS;obtain ⟨r,hr⟩:∃r,r=S % 2:=⟨_,rfl⟩
 have er:(S:Int) % 2=(r:Int):=by omega
 have hr2:r≤1:=by omega
 have H2:Hid (bits .xor .i64 (x:Int) (r:Int)=(((x+S % 2) % 2:Nat):Int)):=by
  show bits .xor .i64 (x:Int) (r:Int)=_
  rw [eP x r (by omega) (by omega),←hr];have h2:r=0∨r=1:=by omega
  have h3:x=0∨x=1:=by omega
  rcases h2 with h2 | h2<;>rcases h3 with h3 | h3<;>subst h2<;>subst h3<;>rfl
 clear hr
 go_enter Tryz.func80,Tryz.ntmps80
 go_wp2
 go_ret
 refine ⟨eZ ?_,rfl⟩;rw [H2.out];simp
theorem vO (f:Nat→Nat) (k x:Nat) (hx:f k=x) (hx1:x≤1) (hk:k≤10):((jU f k:Nat):Int)+wrap64 ((x:Int)*2^k)=(jU f (k+1):Nat):=by
 subst hx;rw [nK (f k) k hx1 hk];simp only [jU]
 exact (Int.natCast_add _ _).symm
theorem mM (v0:Value) (la:Option Addr) (lc:Nat) (v2 v3:Value) (ls:List (Int×Int)) (w:World) (h2:ls.length≤4)
  (hL:PairsAt w la ls) (hi:∀i,i<ls.length→inB (ls.getD i (0,0)).2 1=true) :
  Calls Tryz.prog 52 #[.agg #[v0,.slice la ls.length lc,v2,v3]] w fun e w' =>
   e=.returned (.int .i64 (cK ls ls.length:Nat))∧Below w.heap.size w w':=by
 have bel0:Below w.heap.size w (w.alloc (.cells #[v0,.slice la ls.length lc,v2,v3] 34)):=(Below.refl _ _).alloc (Nat.le_refl _) _;obtain ⟨W,hW⟩:∃W,W=w.alloc (.cells #[v0,.slice la ls.length lc,v2,v3] 34):=⟨_,rfl⟩
 have q1:W.cell? ⟨w.heap.size,1,none⟩=some (.slice la ls.length lc):=by rw [hW];simp
 have hL0:=hL.below bel0;rw [←hW] at hL0 bel0
 go_enter Tryz.func52,Tryz.ntmps52
 go_wp2;rw [←hW];clear hW
 go_loop [3,4] (fun st i=>∃k:Nat,k≤ls.length∧i=.int .i64 k∧st=.int .i64 (cK ls k:Nat)) (fun _ i=>ls.length - (intOf i).toNat)
 case atStart=>exact ⟨0,Nat.zero_le _,rfl,rfl⟩
 case round =>
  obtain ⟨k,hk,rfl,rfl⟩:=hrel
  by_cases hk2:k<ls.length
  ·obtain ⟨b,off,rfl,hlt,hc⟩:=hL0.get (by omega)
   have hcz:=(hc k hk2).2;have hq:=dS (hi k hk2);obtain ⟨x,hX⟩:∃x,x=ls.getD k (0,0):=⟨_,rfl⟩
   rw [←hX] at hcz hq;obtain ⟨x1,x2⟩:=x;dsimp only at hcz hq;obtain ⟨X2,rfl⟩:=Int.eq_ofNat_of_zero_le hq.1;have hf:(fun i=>(ls.getD i (0,0)).2.toNat % 2) k=X2:=(by show (ls.getD k (0,0)).2.toNat % 2=X2;rw [←hX];dsimp only;omega)
   have hX2:X2≤1:=(by omega)
   have HS:Hid ((cK ls k:Nat)+wrap64 ((X2:Int)*2^k)=(cK ls (k+1):Nat)):=vO _ k X2 hf hX2 (by omega);have hlt':=vD ls k;have hp:(2:Nat)^k≤2^4:=Nat.pow_le_pow_right (by omega) (by omega);have hst:cK ls k≤16:=(by omega)
   have hw2:0≤wrap64 ((X2:Int)*2^k)∧wrap64 ((X2:Int)*2^k)≤16:=by
    rw [nK X2 k hX2 (by omega)];have:X2*2^k≤1*2^k:=Nat.mul_le_mul_right _ hX2
    omega
   clear hX hc hf hq hi hlt' hp;go_wp2
   go_round
   case rel=>exact ⟨k+1,by omega,by go_num,congrArg (Value.int .i64) HS.out⟩
   case measure=>simp [intOf];omega
  ·clear hi
   go_wp2
   go_ret
   exact ⟨eZ (by rw [show k=ls.length by omega]),bel0⟩
theorem nH (n st inp:Nat) (la ga:Option Addr) (lc gc:Nat) (v3:Value) (ln:Nat) (gs:List (Int×Int)) (w:World) (h1:n≤4) (h2:ln≤4) (h3:gs.length≤30) (hs:st<16) (hn:inp<16)
  (hG:PairsAt w ga gs) (hg:∀i,i<gs.length→dG (n+ln+(i:Nat)) (gs.getD i (0,0))=true) :
  Calls Tryz.prog 79 #[.agg #[.int .i64 n,.slice la ln lc,.slice ga gs.length gc,v3],.int .i64 inp,.int .i64 st] w fun e w' =>
   ∃g cap,e=.returned (.slice (some ⟨g,0,none⟩) (n+ln+gs.length+1) cap)∧w'.ownsRow w.heap.size 3 1 (.slice (some ⟨g,0,none⟩) (n+ln+gs.length+1) cap) (n+ln+gs.length+1) (aP (vals n ln gs st inp))∧Below w.heap.size w w':=by
 obtain ⟨i0,hi,hz0,hz1,hz2⟩:=info_parts Tryz.infoInt
 go_enter Tryz.func79,Tryz.ntmps79
 go_wp2
 go_loopw [7,8] (fun v i wr=>∃k:Nat,k≤n∧i=.int .i64 k∧(∃g cap,v=.slice (some ⟨g,0,none⟩) (k+1) cap∧wr.ownsRow (w.heap.size+1) 3 1 (.slice (some ⟨g,0,none⟩) (k+1) cap) (k+1) (aP (bP k 0 st inp)))∧
   wr.cell? ⟨w.heap.size,0,none⟩=some (.int .i64 n)∧wr.cell? ⟨w.heap.size,1,none⟩=some (.slice la ln lc)∧wr.cell? ⟨w.heap.size,2,none⟩=some (.slice ga gs.length gc)∧w.heap.size+1≤wr.heap.size∧Below w.heap.size w wr)
  (fun _ i _=>n - (intOf i).toNat)
 case atStart =>
  refine ⟨0,Nat.zero_le _,rfl,⟨_,_,rfl,?_⟩,?_,?_,?_,?_,((Below.refl _ _).alloc (Nat.le_refl _) _).alloc (by simp) _⟩
  ·have:=World.ownsRow_lit (base:=w.heap.size+1) (e:=3) (size:=1) (w.alloc (.cells #[.int .i64 n,.slice la ln lc,.slice ga gs.length gc,v3] 34)) #[.int .i64 0] 1 (by simp) (by simp [maxLen]) rfl
   simp only [World.size_alloc] at this
   exact this
  ·rw [World.cell?_alloc_past _ _ _ (by simp)];simp
  ·rw [World.cell?_alloc_past _ _ _ (by simp)];simp
  ·rw [World.cell?_alloc_past _ _ _ (by simp)];simp
  ·simp
 case round =>
  obtain ⟨k,hk,rfl,⟨g,cap,rfl,hown⟩,q0,q1,q2,hz,hbel⟩:=hrel
  by_cases hk2:k<n
  ·obtain ⟨X,hX⟩:∃X,X=inp / 2^k % 2:=⟨_,rfl⟩
   have hb:=iB inp k X hn hX;have HX:Hid (X=inp / 2^k % 2):=hX;clear hX
   go_wp2_with (at_builtin;refine wpList_append_lies _ rfl (.tmp 20) (.tmp 25) 32 rfl (w.heap.size+1) 3 i0 (.int .i64 0) 1 8 Tryz.underlying32 hi hz0 hz1 hz2 rfl (by omega) _ _ _ rfl (hown.alloc _) ⟨wr.heap.size,0,none⟩ 1 1 [.int .i64 X] rfl rfl (cell_one_new _ _ _) (by simp;rfl) (by omega) (by unfold maxLen;omega) (by omega) (by simp;omega) _ rfl ?_)
   intro g' cap' w1 hown1 hgrow hat hlt1;obtain ⟨e1,e2,e3⟩:=mU hown hz hbel hgrow;have p0:=(e1 0).trans q0;have p1:=(e1 1).trans q1;have p2:=(e1 2).trans q2;clear hown hgrow hat e1 q0 q1 q2 hb;go_wp2
   go_roundw
   case rel=>exact ⟨k+1,by omega,by go_num,⟨g',cap',rfl,by rw [qY,aZ,←HX.out];exact hown1⟩,p0,p1,p2,e2,e3⟩
   case measure=>simp [intOf];omega
  ·obtain rfl:k=n:=by omega
   go_wp2
   go_loopw [7,9] (fun v i wr=>∃j:Nat,j≤ln∧i=.int .i64 j∧(∃g cap,v=.slice (some ⟨g,0,none⟩) (k+j+1) cap∧wr.ownsRow (w.heap.size+1) 3 1 (.slice (some ⟨g,0,none⟩) (k+j+1) cap) (k+j+1) (aP (bP k j st inp)))∧
     wr.cell? ⟨w.heap.size,1,none⟩=some (.slice la ln lc)∧wr.cell? ⟨w.heap.size,2,none⟩=some (.slice ga gs.length gc)∧w.heap.size+1≤wr.heap.size∧Below w.heap.size w wr)
    (fun _ i _=>ln - (intOf i).toNat)
   case atStart=>exact ⟨0,Nat.zero_le _,rfl,⟨g,cap,rfl,hown⟩,q1,q2,hz,hbel⟩
   case round =>
    clear hown q0 q1 q2 hz hbel;obtain ⟨j,hj,rfl,⟨g,cap,rfl,hown⟩,q1,q2,hz,hbel⟩:=hrel
    by_cases hj2:j<ln
    ·obtain ⟨X,hX⟩:∃X,X=st / 2^j % 2:=⟨_,rfl⟩
     have hb:=iB st j X hs hX;have HX:Hid (X=st / 2^j % 2):=hX;clear hX
     go_wp2_with (at_builtin;refine wpList_append_lies _ rfl (.tmp 34) (.tmp 39) 32 rfl (w.heap.size+1) 3 i0 (.int .i64 0) 1 8 Tryz.underlying32 hi hz0 hz1 hz2 rfl (by omega) _ _ _ rfl (hown.alloc _) ⟨wr.heap.size,0,none⟩ 1 1 [.int .i64 X] rfl rfl (cell_one_new _ _ _) (by simp;rfl) (by omega) (by unfold maxLen;omega) (by omega) (by simp;omega) _ rfl ?_)
     intro g' cap' w1 hown1 hgrow hat hlt1;obtain ⟨e1,e2,e3⟩:=mU hown hz hbel hgrow;have p1:=(e1 1).trans q1;have p2:=(e1 2).trans q2;clear hown hgrow hat e1 q1 q2 hb;go_wp2
     go_roundw
     case rel=>exact ⟨j+1,by omega,by go_num,⟨g',cap',rfl,by rw [qZ,aZ,←HX.out];exact hown1⟩,p1,p2,e2,e3⟩
     case measure=>simp [intOf];omega
    ·obtain rfl:j=ln:=by omega
     go_wp2
     go_loopw [7,10] (fun v i wr=>∃m:Nat,m≤gs.length∧i=.int .i64 m∧(∃g cap,v=.slice (some ⟨g,0,none⟩) (k+j+m+1) cap∧wr.ownsRow (w.heap.size+1) 3 1 (.slice (some ⟨g,0,none⟩) (k+j+m+1) cap) (k+j+m+1) (aP (cQ gs (bP k j st inp) m)))∧
       wr.cell? ⟨w.heap.size,2,none⟩=some (.slice ga gs.length gc)∧w.heap.size+1≤wr.heap.size∧Below w.heap.size w wr)
      (fun _ i _=>gs.length - (intOf i).toNat)
     case atStart=>exact ⟨0,Nat.zero_le _,rfl,⟨g,cap,rfl,hown⟩,q2,hz,hbel⟩
     case round =>
      clear hown q1 q2 hz hbel;obtain ⟨m,hm,rfl,⟨g,cap,rfl,hown⟩,q2,hz,hbel⟩:=hrel
      by_cases hm2:m<gs.length
      ·obtain ⟨b,off,rfl,hlt,hc⟩:=hG.get (by omega)
       have hcy:wr.cell? ⟨b,off+m*2,none⟩=some (.int .i64 (gs.getD m (0,0)).1):=(hbel.cell (p:=⟨b,_,none⟩) hlt).trans (hc m hm2).1;have hcz:wr.cell? ⟨b,off+m*2+1,none⟩=some (.int .i64 (gs.getD m (0,0)).2):=(hbel.cell (p:=⟨b,_,none⟩) hlt).trans (hc m hm2).2;have hq:=hg m hm2;obtain ⟨x,hX⟩:∃x,x=gs.getD m (0,0):=⟨_,rfl⟩
       obtain ⟨V,hV⟩:∃V,V=cQ gs (bP k j st inp) m:=⟨_,rfl⟩
       have hVl:V.length=k+j+m+1:=(by rw [hV,jM,jK];omega)
       have hV1:∀x∈V,x≤1:=(by rw [hV];exact lU gs _ (lS _ _ _ _) m)
       rw [←hX] at hcy hcz hq;rw [←hV] at hown;obtain ⟨x1,x2⟩:=x;dsimp only at hcy hcz;obtain ⟨⟨x10,x11⟩,x20,x21⟩:=uE hq;obtain ⟨A,hA⟩:∃A,sigv x1 V=A:=⟨_,rfl⟩
       obtain ⟨C,hC⟩:∃C,sigv x2 V=C:=⟨_,rfl⟩
       have hA1:A≤1:=hA▸dW x1 V;have hC1:C≤1:=hC▸dW x2 V;obtain ⟨Y,hY⟩:∃Y,Y=A*C:=⟨_,rfl⟩
       have hb:IntKind.i64.wrap ((A:Int)*(C:Int))=(Y:Int):=by
        have hAC:A*C≤1*1:=Nat.mul_le_mul hA1 hC1;rw [cZ,hY,←Int.natCast_mul];omega
       have HY:Hid (cQ gs (bP k j st inp) (m+1)=V++[Y]):=by
        show cQ gs (bP k j st inp) m++[_]=_
        rw [←hV,←hX,hY,←hA,←hC]
       have HA:Hid (sigv x1 V=A):=hA;have HC:Hid (sigv x2 V=C):=hC;have hl1:x1 / 2<((k+j+m+1:Nat):Int):=(by omega)
       have hl2:x2 / 2<((k+j+m+1:Nat):Int):=(by omega)
       clear hX hV hA hC hY hq hg hc x11 x21
       go_wp2_with (first | (go_at_call_of 80 (Value.int IntKind.i64 x1);refine (aIS _ x10 hl1 (by omega) hVl.symm hV1 hown HA.out).mono ?_;rintro e w' ⟨rfl,hw⟩;have hw:=hw.symm;subst hw) | (go_at_call_of 80 (Value.int IntKind.i64 x2);refine (aIS _ x20 hl2 (by omega) hVl.symm hV1 hown HC.out).mono ?_;rintro e w' ⟨rfl,hw⟩;have hw:=hw.symm;subst hw) | (at_builtin;refine wpList_append_lies _ rfl (.tmp 64) (.tmp 68) 32 rfl (w.heap.size+1) 3 i0 (.int .i64 0) 1 8 Tryz.underlying32 hi hz0 hz1 hz2 rfl (by omega) _ _ _ rfl (hown.alloc _) ⟨wr.heap.size,0,none⟩ 1 1 [.int .i64 Y] rfl rfl (cell_one_new _ _ _) (by simp;rfl) (by omega) (by unfold maxLen;omega) (by omega) (by simp;omega) _ rfl ?_) | fail)
       intro g' cap' w1 hown1 hgrow hat hlt1;obtain ⟨e1,e2,e3⟩:=mU hown hz hbel hgrow;have p2:=(e1 2).trans q2;clear hown hgrow hat e1 q2 hb;go_wp2
       go_roundw
       case rel=>exact ⟨m+1,by omega,by go_num,⟨g',cap',rfl,by rw [HY.out,aZ];exact hown1⟩,p2,e2,e3⟩
       case measure=>simp [intOf];omega
      ·clear hg
       obtain rfl:m=gs.length:=(by omega)
       go_wp2
       go_ret
       exact ⟨g,cap,rfl,hown.lower (by omega),hbel⟩
theorem aGT (A k:Nat) (hA:A≤1) (hk:k≤4):∃Z:Nat,wrap64 ((A:Int)*2^k)=(Z:Int)∧Z≤16:=by
 refine ⟨A*2^k,nK A k hA (by omega),?_⟩;have hp:(2:Nat)^k≤2^4:=Nat.pow_le_pow_right (by omega) hk;have:A*2^k≤1*2^k:=Nat.mul_le_mul_right _ hA
 omega
theorem fN (n st inp:Nat) (la ga oa:Option Addr) (lc gc oc:Nat) (ln:Nat) (gs:List (Int×Int)) (os:List Int) (w:World) (h1:n≤4) (h2:ln≤4) (h3:gs.length≤30) (h4:os.length≤4) (hs:st<16) (hn:inp<16)
  (hG:PairsAt w ga gs) (hO:IntsAt w oa os) (hg:∀i,i<gs.length→dG (n+ln+(i:Nat)) (gs.getD i (0,0))=true)
  (ho:∀i,i<os.length→inB (os.getD i 0) (2*(n+ln+gs.length)+1)=true) :
  Calls Tryz.prog 53 #[.agg #[.int .i64 n,.slice la ln lc,.slice ga gs.length gc,.slice oa os.length oc],.int .i64 inp,.int .i64 st] w fun e w' =>
   e=.returned (.int .i64 (dZ os (vals n ln gs st inp) os.length:Nat))∧Below w.heap.size w w':=by
 have bel0:Below w.heap.size w (w.alloc (.cells #[.int .i64 n,.slice la ln lc,.slice ga gs.length gc,.slice oa os.length oc] 34)):=(Below.refl _ _).alloc (Nat.le_refl _) _;have hG0:=hG.below bel0;obtain ⟨V,hV⟩:∃V,V=vals n ln gs st inp:=⟨_,rfl⟩
 have hVl:V.length=n+ln+gs.length+1:=by rw [hV,xQ]
 have hV1:∀x∈V,x≤1:=by rw [hV];exact aCB _ _ _ _ _
 rw [←hV];have HV:Hid (V=vals n ln gs st inp):=hV;have HVl:Hid (V.length=n+ln+gs.length+1):=hVl;clear hV hVl
 go_enter Tryz.func53,Tryz.ntmps53
 go_wp2_with (go_at_call 79;refine (nH n st inp la ga lc gc _ ln gs _ h1 h2 h3 hs hn hG0 hg).mono ?_;rintro e w1 ⟨g,cap,rfl,hown,hb1⟩;rw [←HV.out] at hown)
 have c1:=(bZ hb1).1;have hb0:Below w.heap.size w w1:=bel0.trans (hb1.mono (by simp));have q3:w1.cell? ⟨w.heap.size,3,none⟩=some (.slice oa os.length oc):=by rw [c1 _ _ (by simp)];simp
 clear c1 bel0 hG0 hG hg
 go_loop [8,9] (fun v i=>∃k:Nat,k≤os.length∧i=.int .i64 k∧v=.int .i64 (dZ os V k:Nat)) (fun _ i=>os.length - (intOf i).toNat)
 case atStart=>exact ⟨0,Nat.zero_le _,rfl,rfl⟩
 case round =>
  obtain ⟨k,hk,rfl,rfl⟩:=hrel
  by_cases hk2:k<os.length
  ·obtain ⟨b,off,rfl,hlt,hc⟩:=hO.get (by omega)
   have hcy:w1.cell? ⟨b,off+k,none⟩=some (.int .i64 (os.getD k 0)):=(hb0.cell (p:=⟨b,_,none⟩) hlt).trans (hc k hk2);have hq:=dS (ho k hk2);obtain ⟨x,hX⟩:∃x,x=os.getD k 0:=⟨_,rfl⟩
   rw [←hX] at hcy hq;obtain ⟨x0,x1⟩:=hq;obtain ⟨A,hA⟩:∃A,sigv x V=A:=⟨_,rfl⟩
   have hA1:A≤1:=hA▸dW x V;have hf:(fun i=>sigv (os.getD i 0) V) k=A:=(by show sigv (os.getD k 0) V=A;rw [←hX,hA])
   have HS:Hid ((dZ os V k:Nat)+wrap64 ((A:Int)*2^k)=(dZ os V (k+1):Nat)):=vO _ k A hf hA1 (by omega);have HA:Hid (sigv x V=A):=hA;have hl1:x / 2<((n+ln+gs.length+1:Nat):Int):=(by omega)
   have hlt':=aIV os V k;have hp:(2:Nat)^k≤2^4:=Nat.pow_le_pow_right (by omega) (by omega);have hst:dZ os V k≤16:=(by omega)
   obtain ⟨Z,hZ,hZ16⟩:=aGT A k hA1 (by omega);obtain ⟨O,hOO⟩:∃O,O=dZ os V k:=⟨_,rfl⟩
   have HS':Hid ((O:Int)+(Z:Int)=(dZ os V (k+1):Nat)):=(by have:=HS.out;rw [hZ,←hOO] at this;exact this)
   rw [←hOO] at hst;rw [←hOO];clear hOO HS;clear hX hA hf hc ho x1 hlt' hp
   go_wp2_with (go_at_call 80;refine (aIS _ x0 hl1 (by omega) HVl.out.symm hV1 hown HA.out).mono ?_;rintro e w' ⟨rfl,hw⟩;have hw:=hw.symm;subst hw)
   go_round
   case rel=>exact ⟨k+1,by omega,by go_num,congrArg (Value.int .i64) HS'.out⟩
   case measure=>simp [intOf];omega
  ·obtain rfl:k=os.length:=by omega
   go_wp2
   go_ret
   exact ⟨rfl,hb0⟩
theorem kE (n st inp:Nat) (la ga:Option Addr) (lc gc:Nat) (v3:Value) (ls gs:List (Int×Int)) (w:World) (h1:n≤4) (h2:ls.length≤4) (h3:gs.length≤30) (hs:st<16) (hn:inp<16)
  (hL:PairsAt w la ls) (hG:PairsAt w ga gs) (hg:∀i,i<gs.length→dG (n+ls.length+(i:Nat)) (gs.getD i (0,0))=true)
  (hl:∀i,i<ls.length→inB (ls.getD i (0,0)).1 (2*(n+ls.length+gs.length)+1)=true) :
  Calls Tryz.prog 54 #[.agg #[.int .i64 n,.slice la ls.length lc,.slice ga gs.length gc,v3],.int .i64 inp,.int .i64 st] w fun e w' =>
   e=.returned (.int .i64 (dB ls (vals n ls.length gs st inp) ls.length:Nat))∧Below w.heap.size w w':=by
 have bel0:Below w.heap.size w (w.alloc (.cells #[.int .i64 n,.slice la ls.length lc,.slice ga gs.length gc,v3] 34)):=(Below.refl _ _).alloc (Nat.le_refl _) _;have hG0:=hG.below bel0;obtain ⟨V,hV⟩:∃V,V=vals n ls.length gs st inp:=⟨_,rfl⟩
 have hVl:V.length=n+ls.length+gs.length+1:=by rw [hV,xQ]
 have hV1:∀x∈V,x≤1:=by rw [hV];exact aCB _ _ _ _ _
 rw [←hV];have HV:Hid (V=vals n ls.length gs st inp):=hV;have HVl:Hid (V.length=n+ls.length+gs.length+1):=hVl;clear hV hVl
 go_enter Tryz.func54,Tryz.ntmps54
 go_wp2_with (go_at_call 79;refine (nH n st inp la ga lc gc _ ls.length gs _ h1 h2 h3 hs hn hG0 hg).mono ?_;rintro e w1 ⟨g,cap,rfl,hown,hb1⟩;rw [←HV.out] at hown)
 have c1:=(bZ hb1).1;have hb0:Below w.heap.size w w1:=bel0.trans (hb1.mono (by simp));have q1:w1.cell? ⟨w.heap.size,1,none⟩=some (.slice la ls.length lc):=by rw [c1 _ _ (by simp)];simp
 clear c1 bel0 hG0 hG hg
 go_loop [8,9] (fun v i=>∃k:Nat,k≤ls.length∧i=.int .i64 k∧v=.int .i64 (dB ls V k:Nat)) (fun _ i=>ls.length - (intOf i).toNat)
 case atStart=>exact ⟨0,Nat.zero_le _,rfl,rfl⟩
 case round =>
  obtain ⟨k,hk,rfl,rfl⟩:=hrel
  by_cases hk2:k<ls.length
  ·obtain ⟨b,off,rfl,hlt,hc⟩:=hL.get (by omega)
   have hcy:w1.cell? ⟨b,off+k*2,none⟩=some (.int .i64 (ls.getD k (0,0)).1):=(hb0.cell (p:=⟨b,_,none⟩) hlt).trans (hc k hk2).1;have hq:=dS (hl k hk2);obtain ⟨x,hX⟩:∃x,x=(ls.getD k (0,0)).1:=⟨_,rfl⟩
   rw [←hX] at hcy hq;obtain ⟨x0,x1⟩:=hq;obtain ⟨A,hA⟩:∃A,sigv x V=A:=⟨_,rfl⟩
   have hA1:A≤1:=hA▸dW x V;have hf:(fun i=>sigv (ls.getD i (0,0)).1 V) k=A:=(by show sigv (ls.getD k (0,0)).1 V=A;rw [←hX,hA])
   have HS:Hid ((dB ls V k:Nat)+wrap64 ((A:Int)*2^k)=(dB ls V (k+1):Nat)):=vO _ k A hf hA1 (by omega);have HA:Hid (sigv x V=A):=hA;have hl1:x / 2<((n+ls.length+gs.length+1:Nat):Int):=(by omega)
   have hlt':=zN ls V k;have hp:(2:Nat)^k≤2^4:=Nat.pow_le_pow_right (by omega) (by omega);have hst:dB ls V k≤16:=(by omega)
   obtain ⟨Z,hZ,hZ16⟩:=aGT A k hA1 (by omega);obtain ⟨O,hOO⟩:∃O,O=dB ls V k:=⟨_,rfl⟩
   have HS':Hid ((O:Int)+(Z:Int)=(dB ls V (k+1):Nat)):=(by have:=HS.out;rw [hZ,←hOO] at this;exact this)
   rw [←hOO] at hst;rw [←hOO];clear hOO HS;clear hX hA hf hc hl x1 hlt' hp
   go_wp2_with (go_at_call 80;refine (aIS _ x0 hl1 (by omega) HVl.out.symm hV1 hown HA.out).mono ?_;rintro e w' ⟨rfl,hw⟩;have hw:=hw.symm;subst hw)
   go_round
   case rel=>exact ⟨k+1,by omega,by go_num,congrArg (Value.int .i64) HS'.out⟩
   case measure=>simp [intOf];omega
  ·obtain rfl:k=ls.length:=by omega
   go_wp2
   go_ret
   exact ⟨rfl,hb0⟩
end Go.Proofs.YtgpaajdfkekjiaaGreatDoor
