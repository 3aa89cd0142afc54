/-
  A part of the proof of the statement All: texts of ours, made small by program (blanks, names).
-/
import Derived.Test.YtgpaajdfkekjiaaGreatDoorPa
import Derived.Deep.AppendLies
import Derived.Deep.RegionHeld3
import Derived.Deep.DrawnRows
import Derived.Laws.MakeOwn
namespace Go.Proofs.YtgpaajdfkekjiaaGreatDoor
set_option maxHeartbeats 8000000
set_option maxRecDepth 100000
open Go.RowKit
theorem aCC (s:Int) (b off len cap:Nat) (vs:List Nat) (w:World) (h0:0≤s) (hl:s / 2<len) (hlen:len≤1000) (hv:len=vs.length)
  (h01:∀x∈vs,x≤1) (hc:∀j,j<len→w.cell? ⟨b,off+j,none⟩=some (.int .i64 ((vs.getD j 0:Nat):Int))) :
  Calls Tryz.prog 78 #[.int .i64 s,.slice (some ⟨b,off,none⟩) len cap] w fun e w'=>e=.returned (.int .i64 (sigv s vs:Nat))∧w'=w:=by
 have hcell:=hc (s / 2).toNat (by omega);have hx:vs.getD (s / 2).toNat 0≤1:=by
  have hlt:(s / 2).toNat<vs.length:=by omega
  rw [List.getD_eq_getElem?_getD,List.getElem?_eq_getElem hlt]
  exact h01 _ (List.getElem_mem hlt)
 obtain ⟨x,hX⟩:∃x,x=vs.getD (s / 2).toNat 0:=⟨_,rfl⟩
 have hs:sigv s vs=(x+s.toNat % 2) % 2:=by unfold sigv;rw [hX]
 rw [←hX] at hcell hx;rw [hs];clear hX hs hc h01 hv;obtain ⟨S,rfl⟩:=Int.eq_ofNat_of_zero_le h0;have eS:((S:Int) / 2).toNat=S / 2:=by omega
 rw [eS] at hcell;clear eS;have e1:bits .and .i64 (S:Int) 1=((S % 2:Nat):Int):=vY S (by omega);have e2:bits .xor .i64 (x:Int) ((S % 2:Nat):Int)=(((x+S % 2) % 2:Nat):Int):=by
  rw [eP x (S % 2) (by omega) (by omega)];have h2:S % 2=0∨S % 2=1:=by omega
  have h3:x=0∨x=1:=by omega
  rcases h2 with h2 | h2<;>rcases h3 with h3 | h3<;>subst h3<;>rw [h2]<;> rfl
 have E1:=e1;have H2:Hid (bits .xor .i64 (x:Int) ((S % 2:Nat):Int)=(((x+S % 2) % 2:Nat):Int)):=e2;have H1:Hid (bits .and .i64 (S:Int) 1=((S % 2:Nat):Int)):=e1;clear e1 e2 E1
 go_enter Tryz.func78,Tryz.ntmps78
 go_wp2
 go_ret
 refine ⟨eZ ?_,rfl⟩;rw [H1.out,H2.out];simp
theorem aFL (n:Nat) (v1 v2 v3:Value) (x:Int) (w:World) (h1:n≤4) :
  Calls Tryz.prog 76 #[.agg #[.int .i64 n,v1,v2,v3],.int .i64 x] w fun e w'=>e=.returned (.bool (inB x (2^n - 1)))∧Below w.heap.size w w':=by
 go_enter Tryz.func76,Tryz.ntmps76
 go_wp2_with (go_at_call 90;refine (lH _ _ _).mono ?_;rintro e w' ⟨rfl,rfl⟩)
 go_ret
 refine ⟨aU ?_,(Below.refl _ _).alloc (Nat.le_refl _) _⟩;have h:n=0∨n=1∨n=2∨n=3∨n=4:=by omega
 rcases h with h | h | h | h | h<;>subst h<;>simp [wrap64]
theorem aCT {n:Nat}{v1 v2 v3:Value}{x:Int}{b:Bool}(w:World) (h1:n≤4) (h:inB x (2^n - 1)=b) :
  Calls Tryz.prog 76 #[.agg #[.int .i64 n,v1,v2,v3],.int .i64 x] w fun e w'=>e=.returned (.bool b)∧Below w.heap.size w w':=by
 subst h;exact aFL n v1 v2 v3 x w h1
theorem sH (n:Nat) (v1 v2 v3:Value) (ia:Option Addr) (ic:Nat) (ins:List Int) (w:World) (h1:n≤4) (hm:ins.length≤maxLen) (hI:IntsAt w ia ins) :
  Calls Tryz.prog 49 #[.agg #[.int .i64 n,v1,v2,v3],.slice ia ins.length ic] w fun e w' =>
   e=.returned (.bool (dU n ins))∧Below w.heap.size w w':=by
 unfold maxLen at hm
 by_cases h50:50<ins.length
 ·go_enter Tryz.func49,Tryz.ntmps49
  go_wp2
  go_ret
  exact ⟨aU (by unfold dU;exact (decide_eq_false (by omega)).symm),(Below.refl _ _).alloc (Nat.le_refl _) _⟩
 ·rcases hI with rfl | ⟨b,off,rfl,hlt,hc⟩
  ·go_enter Tryz.func49,Tryz.ntmps49
   go_wp2;refine wp_loop_rounds 1 ?_;rw [rounds_succ];go_wp2
   go_ret
   exact ⟨rfl,(Below.refl _ _).alloc (Nat.le_refl _) _⟩
  ·have bel0:Below w.heap.size w (w.alloc (.cells #[.int .i64 n,v1,v2,v3] 34)):=(Below.refl _ _).alloc (Nat.le_refl _) _
   go_enter Tryz.func49,Tryz.ntmps49
   go_wp2
   go_loopw [6,12] (fun _ i wr=>∃k:Nat,k≤ins.length∧i=.int .i64 k∧(∀j,j<k→inB (ins.getD j 0) (2^n - 1)=true)∧
     wr.cell? ⟨w.heap.size,0,none⟩=some (.int .i64 n)∧wr.cell? ⟨w.heap.size,1,none⟩=some v1∧wr.cell? ⟨w.heap.size,2,none⟩=some v2 ∧
     wr.cell? ⟨w.heap.size,3,none⟩=some v3∧w.heap.size<wr.heap.size∧Below w.heap.size w wr)
    (fun _ i _=>ins.length - (intOf i).toNat)
   case atStart=>exact ⟨0,Nat.zero_le _,rfl,fun j hj=>absurd hj (Nat.not_lt_zero j),by simp,by simp,by simp,by simp,by simp,bel0⟩
   case round =>
    obtain ⟨k,hk,rfl,hall,q0,q1,q2,q3,hz,hbel⟩:=hrel;have HA:Hid (∀j,j<k→inB (ins.getD j 0) (2^n - 1)=true):=hall;clear hall
    by_cases hk2:k<ins.length
    ·have hcy:wr.cell? ⟨b,off+k,none⟩=some (.int .i64 (ins.getD k 0)):=(hbel.cell (p:=⟨b,_,none⟩) hlt).trans (hc k hk2)
     obtain ⟨x,hX⟩:∃x,x=ins.getD k 0:=⟨_,rfl⟩
     rw [←hX] at hcy;have HX:Hid (x=ins.getD k 0):=hX;clear hX hc
     cases hq:inB x (2^n - 1)
     ·go_wp2_with (go_at_call 76;refine (aCT _ h1 hq).mono ?_;rintro e w1 ⟨rfl,b1⟩)
      go_ret
      exact ⟨aU (by unfold dU;exact (decide_eq_false (fun hh=>by have:=hh.2 k hk2;rw [←HX.out,hq] at this;cases this)).symm),hbel.trans (b1.mono (by omega))⟩
     ·go_wp2_with (go_at_call 76;refine (aCT _ h1 hq).mono ?_;rintro e w1 ⟨rfl,b1⟩)
      go_roundw
      case rel=>exact ⟨k+1,by omega,by go_num,kD HA.out (by rw [←HX.out];exact hq),by rw [(bZ b1).1 _ _ hz];exact q0,by rw [(bZ b1).1 _ _ hz];exact q1,by rw [(bZ b1).1 _ _ hz];exact q2,by rw [(bZ b1).1 _ _ hz];exact q3,Nat.lt_of_lt_of_le hz b1.size,hbel.trans (b1.mono (by omega))⟩
      case measure=>simp [intOf];omega
    ·clear hc
     go_wp2
     go_ret
     exact ⟨aU (by unfold dU;exact (decide_eq_true ⟨by omega,fun i hi=>HA.out i (by omega)⟩).symm),hbel⟩
theorem nK (x k:Nat) (hx:x≤1) (hk:k≤10):wrap64 ((x:Int)*2^k)=((x*2^k:Nat):Int):=by
 have h:k=0∨k=1∨k=2∨k=3∨k=4∨k=5∨k=6∨k=7∨k=8∨k=9∨k=10:=by omega
 have h3:x=0∨x=1:=by omega
 rcases h with h | h | h | h | h | h | h | h | h | h | h<;>rcases h3 with h3 | h3<;>subst h<;>subst h3<;>simp [wrap64]
theorem sE (f:Nat→Nat) (hf:∀k,f k≤1) (k x:Nat) (hk:k≤10) (hx:f k=x):bits .or .i64 (jU f k:Nat) (wrap64 ((x:Int)*2^k))=(jU f (k+1):Nat):=by
 subst hx;have hp:(2:Nat)^k≤2^10:=Nat.pow_le_pow_right (by omega) hk;have h1:jU f k<2^k:=fM f hf k;have h2:f k*2^k≤1*2^k:=Nat.mul_le_mul_right _ (hf k);rw [nK (f k) k (hf k) hk,aDU _ _ (by omega) (by omega),aIX f hf k]
theorem vD (ls:List (Int×Int)) (k:Nat):cK ls k<2^k:=fM _ (fun _=>by omega) k
theorem nN (v0:Value) (la:Option Addr) (lc:Nat) (v2 v3:Value) (ls:List (Int×Int)) (w:World) (h2:ls.length≤4)
  (hL:PairsAt w la ls) (hi:∀i,i<ls.length→inB (ls.getD i (0,0)).2 1=true) :
  Calls Tryz.prog 50 #[.agg #[v0,.slice la ls.length lc,v2,v3]] w fun e w' =>
   e=.returned (.int .i64 (cK ls ls.length:Nat))∧Below w.heap.size w w':=by
 rcases hL with rfl | ⟨b,off,rfl,hlt,hc⟩
 ·go_enter Tryz.func50,Tryz.ntmps50
  go_wp2;refine wp_loop_rounds 1 ?_;rw [rounds_succ];go_wp2
  go_ret
  exact ⟨rfl,(Below.refl _ _).alloc (Nat.le_refl _) _⟩
 ·go_enter Tryz.func50,Tryz.ntmps50
  go_wp2
  go_loopw [3,4,5,9] (fun st _ _ i wr=>∃k:Nat,k≤ls.length∧i=.int .i64 k∧st=.int .i64 (cK ls k:Nat)∧w.heap.size<wr.heap.size∧Below w.heap.size w wr)
   (fun _ _ _ i _=>ls.length - (intOf i).toNat)
  case atStart=>exact ⟨0,Nat.zero_le _,rfl,rfl,by simp,(Below.refl _ _).alloc (Nat.le_refl _) _⟩
  case round =>
   obtain ⟨k,hk,rfl,rfl,hz,hbel⟩:=hrel
   by_cases hk2:k<ls.length
   ·have hcy:wr.cell? ⟨b,off+k*2,none⟩=some (.int .i64 (ls.getD k (0,0)).1):=(hbel.cell (p:=⟨b,_,none⟩) hlt).trans (hc k hk2).1
    have hcz:wr.cell? ⟨b,off+k*2+1,none⟩=some (.int .i64 (ls.getD k (0,0)).2):=(hbel.cell (p:=⟨b,_,none⟩) hlt).trans (hc k hk2).2;have hq:=dS (hi k hk2);obtain ⟨x,hX⟩:∃x,x=ls.getD k (0,0):=⟨_,rfl⟩
    rw [←hX] at hcy hcz hq;obtain ⟨x1,x2⟩:=x;dsimp only at hcy hcz hq;obtain ⟨X2,rfl⟩:=Int.eq_ofNat_of_zero_le hq.1;have hf:(fun i=>(ls.getD i (0,0)).2.toNat % 2) k=X2:=(by show (ls.getD k (0,0)).2.toNat % 2=X2;rw [←hX];dsimp only;omega)
    have HS:Hid (bits .or .i64 (cK ls k:Nat) (wrap64 ((X2:Int)*2^k))=(cK ls (k+1):Nat)):=sE _ (fun _=>by omega) k X2 (by omega) hf;have HX:Hid ((x1,(X2:Int))=ls.getD k (0,0)):=hX;have hX2:X2≤1:=(by omega)
    clear hX hc hf hq hi;go_wp2
    go_roundw
    case rel=>exact ⟨k+1,by omega,by go_num,congrArg (Value.int .i64) HS.out,by simp;omega,hbel.alloc (by omega) _⟩
    case measure=>simp [intOf];omega
   ·clear hc hi
    go_wp2
    go_ret
    exact ⟨eZ (by rw [show k=ls.length by omega]),hbel⟩
theorem qY (k st inp:Nat):bP (k+1) 0 st inp=bP k 0 st inp++[inp / 2^k % 2]:=by
 simp [bP,List.range_succ]
theorem qZ (n k st inp:Nat):bP n (k+1) st inp=bP n k st inp++[st / 2^k % 2]:=by
 simp [bP,List.range_succ]
theorem aCD (s:Int){base g len cap:Nat}{vs:List Nat}(w:World) (h0:0≤s) (hl:s / 2<len) (hlen:len≤1000) (hv:len=vs.length)
  (h01:∀x∈vs,x≤1) (hown:w.ownsRow base 3 1 (.slice (some ⟨g,0,none⟩) len cap) len (aP vs)) :
  Calls Tryz.prog 78 #[.int .i64 s,.slice (some ⟨g,0,none⟩) len cap] w fun e w'=>e=.returned (.int .i64 (sigv s vs:Nat))∧w'=w :=
 aCC s g 0 len cap vs w h0 hl hlen hv h01 (nE hown)
theorem lD {s:Int}{base g len cap a:Nat}{vs:List Nat}(w:World) (h0:0≤s) (hl:s / 2<len) (hlen:len≤1000) (hv:len=vs.length)
  (h01:∀x∈vs,x≤1) (hown:w.ownsRow base 3 1 (.slice (some ⟨g,0,none⟩) len cap) len (aP vs)) (ha:sigv s vs=a) :
  Calls Tryz.prog 78 #[.int .i64 s,.slice (some ⟨g,0,none⟩) len cap] w fun e w'=>e=.returned (.int .i64 (a:Nat))∧w'=w:=by
 subst ha;exact aCD s w h0 hl hlen hv h01 hown
theorem aLN (a b:Nat) (ha:a≤1) (hb:b≤1):bits .and .i64 (a:Int) (b:Int)=((a*b:Nat):Int):=by
 have h2:a=0∨a=1:=by omega
 have h3:b=0∨b=1:=by omega
 rcases h2 with rfl | rfl<;>rcases h3 with rfl | rfl<;>rfl
theorem uE {before:Int}{x1 x2:Int}(h:dG before (x1,x2)=true):(0≤x1∧x1≤2*before+1)∧(0≤x2∧x2≤2*before+1):=by
 simp only [dG,Bool.and_eq_true] at h
 exact ⟨dS h.1,dS h.2⟩
theorem aGP (N:Nat) (h1:1≤N) (h2:N≤1000) (w:World) :
  (Instr.makeSlice 32 (.int .i64 1) (.int .i64 (N:Int))).run Tryz.prog w=.ok (.slice (some ⟨w.heap.size,0,none⟩) 1 N) (w.alloc (.cells (madeCells (Value.int .i64 0).cells (N*1)) 3)):=by
 obtain ⟨i,hi,hz0,hz1,hz2⟩:=info_parts Tryz.infoInt;have:=run_make (P:=Tryz.prog) w 32 3 i (.int .i64 0) Tryz.underlying32 hi hz0 .i64 .i64 1 N (by omega) (by omega) (by rw [hz2];omega) (by omega);rw [hz1] at this
 simpa using this
theorem aIJ (base N:Nat) (w:World) (h1:1≤N) (h2:N≤1000) (hb:base≤w.heap.size) :
  (w.alloc (.cells (madeCells #[.int .i64 0] N) 3)).ownsRow base 3 1 (.slice (some ⟨w.heap.size,0,none⟩) 1 N) 1 (aP [0]):=by
 refine ⟨rfl,.inr ⟨w.heap.size,N,_,rfl,hb,heap_alloc_new w _,h1,by unfold maxLen;omega,by rw [size_madeCells];omega,?_⟩⟩;rw [toList_madeCells_one];obtain ⟨M,rfl⟩:∃M,N=M+1:=⟨N - 1,by omega⟩
 simp [aP,List.replicate_succ]
theorem mU {w wr w1:World}{e:TypeId}{o:Obj}{g len cap:Nat}{xs:List Value}(hown:wr.ownsRow (w.heap.size+1) e 1 (.slice (some ⟨g,0,none⟩) len cap) len xs)
  (hz:w.heap.size+1≤wr.heap.size) (hbel:Below w.heap.size w wr) (hgrow:(wr.alloc o).grownBy w1 (Value.slice (some ⟨g,0,none⟩) len cap).ownBlock) :
  (∀j,w1.cell? ⟨w.heap.size,j,none⟩=wr.cell? ⟨w.heap.size,j,none⟩)∧w.heap.size+1≤w1.heap.size∧Below w.heap.size w w1:=by
 have hg:=hown.lt g rfl;have hs:(wr.alloc o).heap.size=wr.heap.size+1:=by simp
 refine ⟨fun j=>?_,?_,?_⟩
 ·rw [hgrow.cell_far ⟨w.heap.size,j,none⟩ (by show w.heap.size<(wr.alloc o).heap.size;omega) (by simp [Value.ownBlock];omega),World.cell?_alloc_past _ _ _ (by show w.heap.size<wr.heap.size;omega)]
 ·have:=hgrow.size;omega
 ·exact (hbel.alloc (by omega) o).grown hgrow (by omega) (fun k hk=>by simp [Value.ownBlock] at hk;omega)
theorem aID {X w1:World}{B g len cap:Nat}{c0 c1:Value}(hg:g<B) (hB:B<X.heap.size) (hgrow:X.grownBy w1 (Value.slice (some ⟨g,0,none⟩) len cap).ownBlock)
  (h0:X.cell? ⟨B,0,none⟩=some c0) (h1:X.cell? ⟨B,1,none⟩=some c1):w1.cell? ⟨B,0,none⟩=some c0∧w1.cell? ⟨B,1,none⟩=some c1:=by
 have hne:∀j,some (Addr.block ⟨B,j,none⟩)≠(Value.slice (some ⟨g,0,none⟩) len cap).ownBlock:=fun j=>by simp [Value.ownBlock];omega
 exact ⟨(hgrow.cell_far ⟨B,0,none⟩ hB (hne 0)).trans h0,(hgrow.cell_far ⟨B,1,none⟩ hB (hne 1)).trans h1⟩
theorem aM1 (w:World) (A:Obj) (v:Value) (t:TypeId):∀j u,[v][j]?=some u→((w.alloc A).alloc (.cells #[v] t)).drew.cell? ((⟨w.heap.size+1,0,none⟩:Addr).add j)=some u:=by
 have h:((w.alloc A).alloc (.cells #[v] t)).heap[(w.alloc A).heap.size]?=some (.cells #[v] t):=heap_alloc_new _ _;rw [World.size_alloc] at h
 exact fun j u hu=>World.news_of_block (w:=((w.alloc A).alloc (.cells #[v] t)).drew) h j u hu
theorem aFI {w X w1:World}{g len cap:Nat}(hbX:Below w.heap.size w X) (hzX:w.heap.size+1≤X.heap.size) (hg:w.heap.size+1≤g)
  (hgrow:X.grownBy w1 (Value.slice (some ⟨g,0,none⟩) len cap).ownBlock):w.heap.size+1≤w1.heap.size∧Below w.heap.size w w1 :=
 ⟨Nat.le_trans hzX hgrow.size,hbX.grown hgrow (by omega) (fun k hk=>by simp [Value.ownBlock] at hk;omega)⟩
theorem iB (x k X:Nat) (hx:x<16) (hX:X=x / 2^k % 2):bits .and .i64 ((x:Int) / 2^k) 1=(X:Int):=by
 have e:((x:Int) / 2^k)=((x / 2^k:Nat):Int):=by simp
 have:x / 2^k≤x:=Nat.div_le_self _ _;rw [e,vY _ (by omega),hX]
theorem aAM (n st inp:Nat) (la ga:Option Addr) (lc gc:Nat) (oa:Option Addr) (on oc:Nat) (ln:Nat) (gs:List (Int×Int)) (w:World) (h1:n≤4) (h2:ln≤4) (h3:gs.length≤30) (hs:st<16) (hn:inp<16)
  (hG:PairsAt w ga gs) (hg:∀i,i<gs.length→dG (n+ln+(i:Nat)) (gs.getD i (0,0))=true) :
  Calls Tryz.prog 77 #[.agg #[.int .i64 n,.slice la ln lc,.slice ga gs.length gc,.slice oa on oc],.int .i64 st,.int .i64 inp] w fun e w' =>
   ∃g cap,e=.returned (.slice (some ⟨g,0,none⟩) (n+ln+gs.length+1) cap)∧w'.ownsRow w.heap.size 3 1 (.slice (some ⟨g,0,none⟩) (n+ln+gs.length+1) cap) (n+ln+gs.length+1) (aP (vals n ln gs st inp))∧Below w.heap.size w w':=by
 obtain ⟨i0,hi,hz0,hz1,hz2⟩:=info_parts Tryz.infoInt;have hmk:=fun w=>aGP (n+ln+gs.length+1) (by omega) (by omega) w
 simp only [Int.natCast_add,Int.natCast_one] at hmk
 go_enter Tryz.func77,Tryz.ntmps77
 go_wp2_with (go_at_call 68;refine (iY n _ _ _ ln _ gs.length _ _ _ _ (by omega) (by omega) (by omega) (by omega)).mono ?_;rintro e w' ⟨rfl,rfl⟩)
 go_loopw [7,8,18] (fun v _ i wr=>∃k:Nat,k≤n∧i=.int .i64 k∧(∃g cap,v=.slice (some ⟨g,0,none⟩) (k+1) cap∧wr.ownsRow (w.heap.size+1) 3 1 (.slice (some ⟨g,0,none⟩) (k+1) cap) (k+1) (aP (bP k 0 st inp)))∧
   wr.cell? ⟨w.heap.size,1,none⟩=some (.slice la ln lc)∧wr.cell? ⟨w.heap.size,2,none⟩=some (.slice ga gs.length gc)∧w.heap.size+1≤wr.heap.size∧Below w.heap.size w wr)
  (fun _ _ i _=>n - (intOf i).toNat)
 case atStart =>
  refine ⟨0,Nat.zero_le _,rfl,⟨_,_,rfl,?_⟩,?_,?_,?_,(((Below.refl _ _).alloc (Nat.le_refl _) _).alloc (by simp) _).alloc (by simp;omega) _⟩
  rotate_left
  ·rw [World.cell?_alloc_past _ _ _ (by simp;omega),World.cell?_alloc_past _ _ _ (by simp),World.cell?_alloc_at _ _ _ _ rfl];rfl
  ·rw [World.cell?_alloc_past _ _ _ (by simp;omega),World.cell?_alloc_past _ _ _ (by simp),World.cell?_alloc_at _ _ _ _ rfl];rfl
  ·simp
  have:=aIJ (w.heap.size+1) (n+ln+gs.length+1) ((w.alloc (.cells #[.int .i64 n,.slice la ln lc,.slice ga gs.length gc,.slice oa on oc] 34)).alloc (.cells #[.int .i64 n,.slice la ln lc,.slice ga gs.length gc,.slice oa on oc] 34)) (by omega) (by omega) (by simp);simp only [World.size_alloc] at this
  exact this
 case round =>
  obtain ⟨k,hk,rfl,⟨g,cap,rfl,hown⟩,q1,q2,hz,hbel⟩:=hrel
  by_cases hk2:k<n
  ·obtain ⟨X,hX⟩:∃X,X=inp / 2^k % 2:=⟨_,rfl⟩
   have hb:=iB inp k X hn hX;have HX:Hid (X=inp / 2^k % 2):=hX;clear hmk hX
   go_wp2_with (at_builtin;refine wpList_append_lies _ rfl (.tmp 21) (.tmp 26) 32 rfl (w.heap.size+1) 3 i0 (.int .i64 0) 1 8 Tryz.underlying32 hi hz0 hz1 hz2 rfl (by omega) _ _ _ rfl (hown.alloc _) ⟨wr.heap.size,0,none⟩ 1 1 [.int .i64 X] rfl rfl (cell_one_new _ _ _) (by simp;rfl) (by omega) (by unfold maxLen;omega) (by omega) (by simp;omega) _ rfl ?_)
   intro g' cap' w1 hown1 hgrow hat hlt1;obtain ⟨e1,e2,e3⟩:=mU hown hz hbel hgrow;have p1:=(e1 1).trans q1;have p2:=(e1 2).trans q2;clear hown hgrow hat e1 q1 q2 hb;go_wp2
   go_roundw
   case rel=>exact ⟨k+1,by omega,by go_num,⟨g',cap',rfl,by rw [qY,aZ,←HX.out];exact hown1⟩,p1,p2,e2,e3⟩
   case measure=>simp [intOf];omega
  ·clear hmk
   obtain rfl:k=n:=(by omega)
   go_wp2
   go_loopw [7,9,32] (fun v _ i wr=>∃j:Nat,j≤ln∧i=.int .i64 j∧(∃g cap,v=.slice (some ⟨g,0,none⟩) (k+j+1) cap∧wr.ownsRow (w.heap.size+1) 3 1 (.slice (some ⟨g,0,none⟩) (k+j+1) cap) (k+j+1) (aP (bP k j st inp)))∧
     wr.cell? ⟨w.heap.size,2,none⟩=some (.slice ga gs.length gc)∧w.heap.size+1≤wr.heap.size∧Below w.heap.size w wr)
    (fun _ _ i _=>ln - (intOf i).toNat)
   case atStart=>exact ⟨0,Nat.zero_le _,rfl,⟨g,cap,rfl,hown⟩,q2,hz,hbel⟩
   case round =>
    clear hown q1 q2 hz hbel;obtain ⟨j,hj,rfl,⟨g,cap,rfl,hown⟩,q2,hz,hbel⟩:=hrel
    by_cases hj2:j<ln
    ·obtain ⟨X,hX⟩:∃X,X=st / 2^j % 2:=⟨_,rfl⟩
     have hb:=iB st j X hs hX;have HX:Hid (X=st / 2^j % 2):=hX;clear hX
     go_wp2_with (at_builtin;refine wpList_append_lies _ rfl (.tmp 35) (.tmp 40) 32 rfl (w.heap.size+1) 3 i0 (.int .i64 0) 1 8 Tryz.underlying32 hi hz0 hz1 hz2 rfl (by omega) _ _ _ rfl (hown.alloc _) ⟨wr.heap.size,0,none⟩ 1 1 [.int .i64 X] rfl rfl (cell_one_new _ _ _) (by simp;rfl) (by omega) (by unfold maxLen;omega) (by omega) (by simp;omega) _ rfl ?_)
     intro g' cap' w1 hown1 hgrow hat hlt1;obtain ⟨e1,e2,e3⟩:=mU hown hz hbel hgrow;have p2:=(e1 2).trans q2;clear hown hgrow hat e1 q2 hb;go_wp2
     go_roundw
     case rel=>exact ⟨j+1,by omega,by go_num,⟨g',cap',rfl,by rw [qZ,aZ,←HX.out];exact hown1⟩,p2,e2,e3⟩
     case measure=>simp [intOf];omega
    ·obtain rfl:j=ln:=by omega
     go_wp2
     rcases hG with rfl | ⟨b,off,rfl,hlt,hc⟩
     ·refine wp_loop_rounds 1 ?_
      rw [rounds_succ];go_wp2
      go_ret
      exact ⟨g,cap,rfl,hown.lower (by omega),hbel⟩
     ·go_loopw [7,11,46] (fun v _ i wr=>∃m:Nat,m≤gs.length∧i=.int .i64 m∧(∃g cap,v=.slice (some ⟨g,0,none⟩) (k+j+m+1) cap∧wr.ownsRow (w.heap.size+1) 3 1 (.slice (some ⟨g,0,none⟩) (k+j+m+1) cap) (k+j+m+1) (aP (cQ gs (bP k j st inp) m)))∧
        w.heap.size+1≤wr.heap.size∧Below w.heap.size w wr)
       (fun _ _ i _=>gs.length - (intOf i).toNat)
      case atStart=>exact ⟨0,Nat.zero_le _,rfl,⟨g,cap,rfl,hown⟩,hz,hbel⟩
      case round =>
       clear hown q2 hz hbel;obtain ⟨m,hm,rfl,⟨g,cap,rfl,hown⟩,hz,hbel⟩:=hrel
       by_cases hm2:m<gs.length
       ·have hcy:wr.cell? ⟨b,off+m*2,none⟩=some (.int .i64 (gs.getD m (0,0)).1):=(hbel.cell (p:=⟨b,_,none⟩) hlt).trans (hc m hm2).1
        have hcz:wr.cell? ⟨b,off+m*2+1,none⟩=some (.int .i64 (gs.getD m (0,0)).2):=(hbel.cell (p:=⟨b,_,none⟩) hlt).trans (hc m hm2).2;have hq:=hg m hm2;obtain ⟨x,hX⟩:∃x,x=gs.getD m (0,0):=⟨_,rfl⟩
        obtain ⟨V,hV⟩:∃V,V=cQ gs (bP k j st inp) m:=⟨_,rfl⟩
        have hVl:V.length=k+j+m+1:=(by rw [hV,jM,jK];omega)
        have hV1:∀x∈V,x≤1:=(by rw [hV];exact lU gs _ (lS _ _ _ _) m)
        rw [←hX] at hcy hcz hq;rw [←hV] at hown;obtain ⟨x1,x2⟩:=x;dsimp only at hcy hcz;obtain ⟨⟨x10,x11⟩,x20,x21⟩:=uE hq;obtain ⟨A,hA⟩:∃A,sigv x1 V=A:=⟨_,rfl⟩
        obtain ⟨C,hC⟩:∃C,sigv x2 V=C:=⟨_,rfl⟩
        have hA1:A≤1:=hA▸dW x1 V;have hC1:C≤1:=hC▸dW x2 V;obtain ⟨Y,hY⟩:∃Y,Y=A*C:=⟨_,rfl⟩
        have hb:bits .and .i64 (A:Int) (C:Int)=(Y:Int):=(by rw [hY];exact aLN A C hA1 hC1)
        have HY:Hid (cQ gs (bP k j st inp) (m+1)=V++[Y]):=by
         show cQ gs (bP k j st inp) m++[_]=_
         rw [←hV,←hX,hY,←hA,←hC]
        have HA:Hid (sigv x1 V=A):=hA;have HC:Hid (sigv x2 V=C):=hC;have hgl:g<wr.heap.size:=(hown.lt g rfl).2;have hl1:x1 / 2<((k+j+m+1:Nat):Int):=(by omega)
        have hl2:x2 / 2<((k+j+m+1:Nat):Int):=(by omega)
        clear hX hV hA hC hY hq hg hc x11 x21;go_wp2
        go_region_held3 (fun w'=>w'.cell? ⟨wr.heap.size,0,none⟩=some (.int .i64 x1)∧w'.cell? ⟨wr.heap.size,1,none⟩=some (.int .i64 x2)) (first | (simp [go_sem,World.cell?_alloc_past];done) | (refine aID hgl ?_ hgrow ?_ ?_<;>simp [go_sem,World.cell?_alloc_past])) (first | (go_at_call_of 78 (Value.int IntKind.i64 x1);refine (lD _ x10 hl1 (by omega) hVl.symm hV1 ((hown.alloc _).drew) HA.out).mono ?_;rintro e w' ⟨rfl,rfl⟩) | (go_at_call_of 78 (Value.int IntKind.i64 x2);refine (lD _ x20 hl2 (by omega) hVl.symm hV1 ((hown.alloc _).drew) HC.out).mono ?_;rintro e w' ⟨rfl,rfl⟩) | (refine step_append_lies _ (by rfl) (.tmp 50) (.tmp 60) 32 (by rfl) (w.heap.size+1) 3 i0 (.int .i64 0) 1 8 Tryz.underlying32 hi hz0 hz1 hz2 rfl (by omega) (.slice (some ⟨g,0,none⟩) (k+j+m+1) cap) (k+j+m+1) (aP V) (by rfl) (((hown.alloc _).alloc _).drew) ⟨wr.heap.size+1,0,none⟩ 1 1 [.int .i64 Y] (by rfl) rfl (aM1 _ _ _ _) (by simp;rfl) (by omega) (by unfold maxLen;omega) (by omega) (by simp;omega) _ rfl ?_;intro g' cap' w1 hown1 hgrow hat hlt1) | fail)
        have hgb:=(hown.lt g rfl).1;obtain ⟨e2,e3⟩:=aFI (((hbel.alloc (by omega) _).alloc (by simp;omega) _).drew) (by simp;omega) hgb hgrow;clear hgrow hown;go_wp2
        go_roundw
        case rel=>exact ⟨m+1,by omega,by go_num,⟨g',cap',rfl,by rw [HY.out,aZ];exact hown1⟩,e2,e3⟩
        case measure=>simp [intOf];omega
       ·clear hc hg
        obtain rfl:m=gs.length:=(by omega)
        go_wp2
        go_ret
        exact ⟨g,cap,rfl,hown.lower (by omega),hbel⟩
theorem xQ (n nl:Nat) (gs:List (Int×Int)) (st inp:Nat):(vals n nl gs st inp).length=n+nl+gs.length+1:=by
 unfold vals;rw [jM,jK];omega
theorem aCB (n nl:Nat) (gs:List (Int×Int)) (st inp:Nat):∀x∈vals n nl gs st inp,x≤1:=lU gs _ (lS _ _ _ _) _
theorem aIV (os:List Int) (vs:List Nat) (k:Nat):dZ os vs k<2^k:=fM _ (fun _=>dW _ _) k
theorem zN (ls:List (Int×Int)) (vs:List Nat) (k:Nat):dB ls vs k<2^k:=fM _ (fun _=>dW _ _) k
theorem qS (n st inp:Nat) (la ga oa:Option Addr) (lc gc oc:Nat) (ls gs:List (Int×Int)) (os:List Int) (w:World) (h1:n≤4) (h2:ls.length≤4) (h3:gs.length≤30) (h4:os.length≤4) (hs:st<16) (hn:inp<16)
  (hL:PairsAt w la ls) (hG:PairsAt w ga gs) (hO:IntsAt w oa os)
  (hg:∀i,i<gs.length→dG (n+ls.length+(i:Nat)) (gs.getD i (0,0))=true)
  (hl:∀i,i<ls.length→inB (ls.getD i (0,0)).1 (2*(n+ls.length+gs.length)+1)=true)
  (ho:∀i,i<os.length→inB (os.getD i 0) (2*(n+ls.length+gs.length)+1)=true) :
  Calls Tryz.prog 51 #[.agg #[.int .i64 n,.slice la ls.length lc,.slice ga gs.length gc,.slice oa os.length oc],.int .i64 st,.int .i64 inp] w fun e w' =>
   e=.returned (.tuple #[.int .i64 (dZ os (vals n ls.length gs st inp) os.length:Nat),.int .i64 (dB ls (vals n ls.length gs st inp) ls.length:Nat)])∧Below w.heap.size w w':=by
 have bel0:Below w.heap.size w (w.alloc (.cells #[.int .i64 n,.slice la ls.length lc,.slice ga gs.length gc,.slice oa os.length oc] 34)):=(Below.refl _ _).alloc (Nat.le_refl _) _;have hG0:=hG.below bel0;obtain ⟨V,hV⟩:∃V,V=vals n ls.length gs st inp:=⟨_,rfl⟩
 have hVl:V.length=n+ls.length+gs.length+1:=by rw [hV,xQ]
 have hV1:∀x∈V,x≤1:=by rw [hV];exact aCB _ _ _ _ _
 rw [←hV];have HV:Hid (V=vals n ls.length gs st inp):=hV;have HVl:Hid (V.length=n+ls.length+gs.length+1):=hVl;clear hV hVl
 go_enter Tryz.func51,Tryz.ntmps51
 go_wp2_with (go_at_call 77;refine (aAM n st inp la ga lc gc oa os.length oc ls.length gs _ h1 h2 h3 hs hn hG0 hg).mono ?_;rintro e w1 ⟨g,cap,rfl,hown,hb1⟩;have c1:=(bZ hb1).1;rw [←HV.out] at hown)
 have z1:w.heap.size<w1.heap.size:=Nat.lt_of_lt_of_le (by simp) hb1.size;have hb0:Below w.heap.size w w1:=bel0.trans (hb1.mono (by simp));have q1:w1.cell? ⟨w.heap.size,1,none⟩=some (.slice la ls.length lc):=by rw [c1 _ _ (by simp)];simp
 clear c1 bel0 hG0 hG hg
 go_loop [6,9,10,20] (fun v _ _ i=>∃k:Nat,k≤os.length∧i=.int .i64 k∧v=.int .i64 (dZ os V k:Nat)) (fun _ _ _ i=>os.length - (intOf i).toNat)
 case atStart=>exact ⟨0,Nat.zero_le _,rfl,rfl⟩
 case round =>
  obtain ⟨k,hk,rfl,rfl⟩:=hrel
  by_cases hk2:k<os.length
  ·obtain ⟨b,off,rfl,hlt,hc⟩:=hO.get (by omega)
   have hcy:w1.cell? ⟨b,off+k,none⟩=some (.int .i64 (os.getD k 0)):=(hb0.cell (p:=⟨b,_,none⟩) hlt).trans (hc k hk2);have hq:=dS (ho k hk2);obtain ⟨x,hX⟩:∃x,x=os.getD k 0:=⟨_,rfl⟩
   rw [←hX] at hcy hq;obtain ⟨x0,x1⟩:=hq;obtain ⟨A,hA⟩:∃A,sigv x V=A:=⟨_,rfl⟩
   have hA1:A≤1:=hA▸dW x V;have hf:(fun i=>sigv (os.getD i 0) V) k=A:=(by show sigv (os.getD k 0) V=A;rw [←hX,hA])
   have HS:Hid (bits .or .i64 (dZ os V k:Nat) (wrap64 ((A:Int)*2^k))=(dZ os V (k+1):Nat)):=sE _ (fun _=>dW _ _) k A (by omega) hf;have HA:Hid (sigv x V=A):=hA;have hl1:x / 2<((n+ls.length+gs.length+1:Nat):Int):=(by omega)
   clear hX hA hf hc ho hl x1
   go_wp2_with (go_at_call 78;refine (lD _ x0 hl1 (by omega) HVl.out.symm hV1 hown HA.out).mono ?_;rintro e w' ⟨rfl,rfl⟩)
   go_round
   case rel=>exact ⟨k+1,by omega,by go_num,congrArg (Value.int .i64) HS.out⟩
   case measure=>simp [intOf];omega
  ·obtain rfl:k=os.length:=by omega
   go_wp2
   go_loopw [7,11,12,36] (fun v _ _ i wr=>∃j:Nat,j≤ls.length∧i=.int .i64 j∧v=.int .i64 (dB ls V j:Nat)∧wr.ownsRow (w.heap.size+1) 3 1 (.slice (some ⟨g,0,none⟩) (n+ls.length+gs.length+1) cap) (n+ls.length+gs.length+1) (aP V)∧w.heap.size<wr.heap.size∧Below w.heap.size w wr)
    (fun _ _ _ i _=>ls.length - (intOf i).toNat)
   case atStart=>exact ⟨0,Nat.zero_le _,rfl,rfl,by simpa using hown,z1,hb0⟩
   case round =>
    clear hown z1 hb0 q1 ho hO hb1;obtain ⟨j,hj,rfl,rfl,hown,hz,hbel⟩:=hrel
    by_cases hj2:j<ls.length
    ·obtain ⟨b,off,rfl,hlt,hc⟩:=hL.get (by omega)
     have hcy:wr.cell? ⟨b,off+j*2,none⟩=some (.int .i64 (ls.getD j (0,0)).1):=(hbel.cell (p:=⟨b,_,none⟩) hlt).trans (hc j hj2).1;have hcz:wr.cell? ⟨b,off+j*2+1,none⟩=some (.int .i64 (ls.getD j (0,0)).2):=(hbel.cell (p:=⟨b,_,none⟩) hlt).trans (hc j hj2).2;have hq:=dS (hl j hj2);obtain ⟨x,hX⟩:∃x,x=ls.getD j (0,0):=⟨_,rfl⟩
     rw [←hX] at hcy hcz hq;obtain ⟨x1,x2⟩:=x;dsimp only at hcy hcz hq;obtain ⟨x0,x1'⟩:=hq;obtain ⟨A,hA⟩:∃A,sigv x1 V=A:=⟨_,rfl⟩
     have hA1:A≤1:=hA▸dW x1 V;have hf:(fun i=>sigv (ls.getD i (0,0)).1 V) j=A:=(by show sigv (ls.getD j (0,0)).1 V=A;rw [←hX,hA])
     have HS:Hid (bits .or .i64 (dB ls V j:Nat) (wrap64 ((A:Int)*2^j))=(dB ls V (j+1):Nat)):=sE _ (fun _=>dW _ _) j A (by omega) hf;have HA:Hid (sigv x1 V=A):=hA;have hl1:x1 / 2<((n+ls.length+gs.length+1:Nat):Int):=(by omega)
     clear hX hA hf hc hl x1'
     go_wp2_with (go_at_call 78;refine (lD _ x0 hl1 (by omega) HVl.out.symm hV1 (hown.alloc _) HA.out).mono ?_;rintro e w' ⟨rfl,rfl⟩)
     go_roundw
     case rel=>exact ⟨j+1,by omega,by go_num,congrArg (Value.int .i64) HS.out,hown.alloc _,by simp;omega,hbel.alloc (by omega) _⟩
     case measure=>simp [intOf];omega
    ·obtain rfl:j=ls.length:=by omega
     go_wp2
     go_ret2
     exact ⟨rfl,hbel⟩
theorem lN {n:Nat}{v1 v2 v3:Value}{ia:Option Addr}{ic:Nat}{ins:List Int}{b:Bool}(w:World) (h1:n≤4) (hm:ins.length≤maxLen) (hI:IntsAt w ia ins) (h:dU n ins=b) :
  Calls Tryz.prog 49 #[.agg #[.int .i64 n,v1,v2,v3],.slice ia ins.length ic] w fun e w' =>
   e=.returned (.bool b)∧Below w.heap.size w w':=by subst h;exact sH n v1 v2 v3 ia ic ins w h1 hm hI

theorem aGR (n:Int) (la ga oa:Option Addr) (lc gc oc:Nat) (ls gs:List (Int×Int)) (os:List Int) (iv:Value) (w:World)
  (hL:PairsAt w la ls) (hG:PairsAt w ga gs) (hO:IntsAt w oa os) (hr:aG n ls gs os=false) :
  Calls Tryz.prog 24 #[.agg #[.int .i64 n,.slice la ls.length lc,.slice ga gs.length gc,.slice oa os.length oc],iv] w fun e w' =>
   e=.returned (.tuple #[.slice none 0 0,.int .i64 2])∧Below w.heap.size w w':=by
 have bel0:Below w.heap.size w (w.alloc (.cells #[.int .i64 n,.slice la ls.length lc,.slice ga gs.length gc,.slice oa os.length oc] 34)):=(Below.refl _ _).alloc (Nat.le_refl _) _;have hL0:=hL.below bel0;have hG0:=hG.below bel0;have hO0:=hO.below bel0
 go_enter Tryz.func24,Tryz.ntmps24
 go_wp2_with (go_at_call 37;refine (cI _ hL0 hG0 hO0 hr).mono ?_;rintro e w1 ⟨rfl,b1⟩)
 go_ret2
 exact ⟨rfl,bel0.trans (b1.mono (by simp))⟩

theorem aEP (n:Nat) (la ga oa ia:Option Addr) (lc gc oc ic:Nat) (ls gs:List (Int×Int)) (os ins:List Int) (w:World) (hm:ins.length≤maxLen)
  (hL:PairsAt w la ls) (hG:PairsAt w ga gs) (hO:IntsAt w oa os) (hI:IntsAt w ia ins) (hr:aG n ls gs os=true) (hi:dU n ins=false) :
  Calls Tryz.prog 24 #[.agg #[.int .i64 n,.slice la ls.length lc,.slice ga gs.length gc,.slice oa os.length oc],.slice ia ins.length ic] w fun e w' =>
   e=.returned (.tuple #[.slice none 0 0,.int .i64 3])∧Below w.heap.size w w':=by
 have bel0:Below w.heap.size w (w.alloc (.cells #[.int .i64 n,.slice la ls.length lc,.slice ga gs.length gc,.slice oa os.length oc] 34)):=(Below.refl _ _).alloc (Nat.le_refl _) _;have hL0:=hL.below bel0;have hG0:=hG.below bel0;have hO0:=hO.below bel0;have hI0:=hI.below bel0;have hn4:n≤4:=by have:=(cD hr).1.2.1;omega
 go_enter Tryz.func24,Tryz.ntmps24
 go_wp2_with (first | (go_at_call 37;refine (cI _ hL0 hG0 hO0 hr).mono ?_;rintro e w1 ⟨rfl,b1⟩;have c1:=(bZ b1).1;have y1:w.heap.size<w1.heap.size:=Nat.lt_of_lt_of_le (by simp) b1.size) | (go_at_call 49;refine (lN _ hn4 hm (hI0.below b1) hi).mono ?_;rintro e w2 ⟨rfl,b2⟩))
 go_ret2
 exact ⟨rfl,(bel0.trans (b1.mono (by simp))).trans (b2.mono (by omega))⟩
end Go.Proofs.YtgpaajdfkekjiaaGreatDoor
