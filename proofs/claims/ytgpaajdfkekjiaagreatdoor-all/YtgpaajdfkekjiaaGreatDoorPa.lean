/-
  A part of the proof of the statement All: texts of ours, made small by program (blanks, names).
-/
import Derived.WalkKit
import Derived.Laws.BitsAllLaws
import Derived.Test.YtgpaajdfkekjiaaGreatDoorRows
import Derived.WalkSpells
import Derived.WalkLawsBesides
import Derived.BigQuiet
import Derived.Deep.QuietTactic
import Derived.Deep.RegionHeld3
import Derived.Deep.DrawnRows
import Derived.Deep.AppendLies
import Derived.Laws.MakeOwn
import Derived.Deep.OwnRows
import Derived.Laws.CopyOwn
namespace Go.Proofs.YtgpaajdfkekjiaaGreatDoor
set_option maxHeartbeats 8000000
set_option maxRecDepth 100000
theorem cZ (n:Int):IntKind.i64.wrap n=(n+9223372036854775808) % 18446744073709551616 - 9223372036854775808:=by
 simp [IntKind.wrap,IntKind.bits,IntKind.signed];omega
theorem aBB (a b:Nat) (ha:a<9223372036854775808) (hb:b<9223372036854775808):bits .and .i64 (a:Int) (b:Int)=((a &&& b:Nat):Int):=by
 have hx:a &&& b<2^63:=Nat.and_lt_two_pow _ (by omega)
 show IntKind.i64.wrap ((BitVec.ofInt 64 (a:Int) &&& BitVec.ofInt 64 (b:Int)).toNat:Int)=_
 rw [BitVec.toNat_and,ofInt_u64 a (by omega),ofInt_u64 b (by omega),cZ]
 omega
theorem aDU (a b:Nat) (ha:a<9223372036854775808) (hb:b<9223372036854775808):bits .or .i64 (a:Int) (b:Int)=((a ||| b:Nat):Int):=by
 have hx:a ||| b<2^63:=Nat.or_lt_two_pow (by omega) (by omega)
 show IntKind.i64.wrap ((BitVec.ofInt 64 (a:Int) ||| BitVec.ofInt 64 (b:Int)).toNat:Int)=_
 rw [BitVec.toNat_or,ofInt_u64 a (by omega),ofInt_u64 b (by omega),cZ]
 omega
theorem eP (a b:Nat) (ha:a<9223372036854775808) (hb:b<9223372036854775808):bits .xor .i64 (a:Int) (b:Int)=((a ^^^ b:Nat):Int):=by
 have hx:a ^^^ b<2^63:=Nat.xor_lt_two_pow (by omega) (by omega)
 show IntKind.i64.wrap ((BitVec.ofInt 64 (a:Int) ^^^ BitVec.ofInt 64 (b:Int)).toNat:Int)=_
 rw [BitVec.toNat_xor,ofInt_u64 a (by omega),ofInt_u64 b (by omega),cZ]
 omega
theorem vY (a:Nat) (ha:a<9223372036854775808):bits .and .i64 (a:Int) 1=((a % 2:Nat):Int):=by
 have:=aBB a 1 ha (by omega);rw [nat_mask1] at this
 simpa using this
def inB (n m:Int):Bool:=decide (0≤n∧n≤m)
theorem dS {n m:Int}(h:inB n m=true):0≤n∧n≤m:=by simpa [inB] using h
theorem iE {n m:Int}(h0:0≤n) (h1:n≤m):inB n m=true:=by simp [inB,h0,h1]
def eJ (i l o g:Int):Bool:=inB i 4&&inB l 4&&inB o 4&&inB g 30
def sigv (s:Int) (vs:List Nat):Nat:=(vs.getD (s / 2).toNat 0+s.toNat % 2) % 2
def cJ (last:Int) (p:Int×Int):Bool:=inB p.1 (2*last+1)&&inB p.2 1
def dG (before:Int) (p:Int×Int):Bool:=inB p.1 (2*before+1)&&inB p.2 (2*before+1)
def gD (last:Int) (ls:List (Int×Int)):Bool:=decide (∀i,i<ls.length→cJ last (ls.getD i (0,0))=true)
def mT (before:Int) (gs:List (Int×Int)):Bool:=decide (∀i,i<gs.length→dG (before+i) (gs.getD i (0,0))=true)
def wT (last:Int) (os:List Int):Bool:=decide (∀i,i<os.length→inB (os.getD i 0) (2*last+1)=true)
def aG (n:Int) (ls gs:List (Int×Int)) (os:List Int):Bool :=
 eJ n ls.length os.length gs.length&&gD (n+ls.length+gs.length) ls&&mT (n+ls.length) gs&&wT (n+ls.length+gs.length) os
theorem tJ {last:Int}{ls:List (Int×Int)}{k:Nat}(hk:k<ls.length) (h:cJ last (ls.getD k (0,0))=false):gD last ls=false:=by
 unfold gD;rw [decide_eq_false_iff_not];intro hh;have:=hh k hk;rw [h] at this;cases this
theorem yS {b:Int}{gs:List (Int×Int)}{k:Nat}(hk:k<gs.length) (h:dG (b+k) (gs.getD k (0,0))=false):mT b gs=false:=by
 unfold mT;rw [decide_eq_false_iff_not];intro hh;have:=hh k hk;rw [h] at this;cases this
theorem aBQ {last:Int}{os:List Int}{k:Nat}(hk:k<os.length) (h:inB (os.getD k 0) (2*last+1)=false):wT last os=false:=by
 unfold wT;rw [decide_eq_false_iff_not];intro hh;have:=hh k hk;rw [h] at this;cases this
def jU (f:Nat→Nat):Nat→Nat
 | 0=>0
 | n+1=>jU f n+f n*2^n
theorem fM (f:Nat→Nat) (hf:∀k,f k≤1) (n:Nat):jU f n<2^n:=by
 induction n with
 | zero=>simp [jU]
 | succ n ih =>
  have:=hf n;simp only [jU,Nat.pow_succ];have h2:f n*2^n≤1*2^n:=Nat.mul_le_mul_right _ this
  omega
theorem aIX (f:Nat→Nat) (hf:∀k,f k≤1) (n:Nat):jU f n ||| f n*2^n=jU f (n+1):=by
 rw [Nat.or_comm,nat_join n (f n*2^n) (jU f n) (Nat.mul_mod_left _ _) (fM f hf n)];simp only [jU];omega
theorem dW (s:Int) (vs:List Nat):sigv s vs≤1:=by unfold sigv;omega
def bP (n:Nat) (nl:Nat) (state inp:Nat):List Nat :=
 0 :: ((List.range n).map (fun k=>inp / 2^k % 2)++ (List.range nl).map (fun k=>state / 2^k % 2))
def cQ (gs:List (Int×Int)) (vs:List Nat):Nat→List Nat
 | 0=>vs
 | k+1=>cQ gs vs k++[sigv (gs.getD k (0,0)).1 (cQ gs vs k)*sigv (gs.getD k (0,0)).2 (cQ gs vs k)]
def vals (n:Nat) (nl:Nat) (gs:List (Int×Int)) (state inp:Nat):List Nat:=cQ gs (bP n nl state inp) gs.length
theorem jK (n nl st inp:Nat):(bP n nl st inp).length=n+nl+1:=by simp [bP]
theorem jM (gs:List (Int×Int)) (vs:List Nat) (k:Nat):(cQ gs vs k).length=vs.length+k:=by
 induction k with
 | zero=>rfl
 | succ k ih=>simp [cQ,ih];omega
theorem lS (n nl st inp:Nat):∀x∈bP n nl st inp,x≤1:=by
 intro x hx;simp only [bP,List.mem_cons,List.mem_append,List.mem_map] at hx
 rcases hx with rfl | ⟨k,_,rfl⟩ | ⟨k,_,rfl⟩<;> omega
theorem lU (gs:List (Int×Int)) (vs:List Nat) (h:∀x∈vs,x≤1) (k:Nat):∀x∈cQ gs vs k,x≤1:=by
 induction k with
 | zero=>exact h
 | succ k ih =>
  intro x hx;simp only [cQ,List.mem_append,List.mem_singleton] at hx
  rcases hx with hx | rfl
  ·exact ih x hx
  ·have a:=dW (gs.getD k (0,0)).1 (cQ gs vs k)
   have b:=dW (gs.getD k (0,0)).2 (cQ gs vs k)
   exact Nat.le_trans (Nat.mul_le_mul a b) (by omega)
def dZ (os:List Int) (vs:List Nat) (k:Nat):Nat:=jU (fun i=>sigv (os.getD i 0) vs) k
def dB (ls:List (Int×Int)) (vs:List Nat) (k:Nat):Nat:=jU (fun i=>sigv (ls.getD i (0,0)).1 vs) k
def cK (ls:List (Int×Int)) (k:Nat):Nat:=jU (fun i=>(ls.getD i (0,0)).2.toNat % 2) k
def fE (n:Nat) (ls gs:List (Int×Int)) (ins:List Int):Nat→Nat
 | 0=>cK ls ls.length
 | k+1=>dB ls (vals n ls.length gs (fE n ls gs ins k) (ins.getD k 0).toNat) ls.length
def wS (n:Nat) (ls gs:List (Int×Int)) (os:List Int) (ins:List Int) (k:Nat):Nat :=
 dZ os (vals n ls.length gs (fE n ls gs ins k) (ins.getD k 0).toNat) os.length
def dU (n:Nat) (ins:List Int):Bool:=decide (ins.length≤50∧∀i,i<ins.length→inB (ins.getD i 0) (2^n - 1)=true)
end Go.Proofs.YtgpaajdfkekjiaaGreatDoor
namespace Go.Proofs.YtgpaajdfkekjiaaGreatDoor
set_option maxHeartbeats 8000000
set_option maxRecDepth 100000
open Go.RowKit
theorem eZ {k:IntKind}{a b:Int}(h:a=b):Ending.returned (.int k a)=.returned (.int k b):=by rw [h]
theorem aU {a b:Bool}(h:a=b):Ending.returned (.bool a)=.returned (.bool b):=by rw [h]
theorem bZ {W w1:World}(hb:Below W.heap.size W w1):(∀b o,b<W.heap.size→w1.cell? ⟨b,o,none⟩=W.cell? ⟨b,o,none⟩)∧(∀b o,b<W.heap.size→w1.frozen? ⟨b,o,none⟩=W.frozen? ⟨b,o,none⟩) :=
 ⟨fun b o h=>hb.cell (p:=⟨b,o,none⟩) h,fun b o h=>hb.frozen (p:=⟨b,o,none⟩) h⟩
theorem lH (n m:Int) (w:World) :
  Calls Tryz.prog 90 #[.int .i64 n,.int .i64 m] w fun e w'=>e=.returned (.bool (inB n m))∧w'=w:=by
 by_cases h:0≤n
 ·by_cases h2:n≤m
  ·go_enter Tryz.func90,Tryz.ntmps90
   go_wp2
   go_ret
   exact ⟨aU (by simp [inB,h,h2]),rfl⟩
  ·go_enter Tryz.func90,Tryz.ntmps90
   go_wp2
   go_ret
   exact ⟨aU (by simp [inB,h2]),rfl⟩
 ·go_enter Tryz.func90,Tryz.ntmps90
  go_wp2
  go_ret
  exact ⟨aU (by simp [inB];omega),rfl⟩
theorem iR (s last:Int) (w:World) (h0:0≤last) (h1:last≤1000000) :
  Calls Tryz.prog 71 #[.int .i64 s,.int .i64 last] w fun e w'=>e=.returned (.bool (inB s (2*last+1)))∧w'=w:=by
 go_enter Tryz.func71,Tryz.ntmps71
 go_wp2_with (go_at_call 90;refine (lH _ _ _).mono ?_;rintro e w' ⟨rfl,rfl⟩)
 go_ret
 exact ⟨rfl,rfl⟩
theorem aI9 (s:Int) (w:World) :
  Calls Tryz.prog 72 #[.int .i64 s] w fun e w'=>e=.returned (.bool (inB s 1))∧w'=w:=by
 go_enter Tryz.func72,Tryz.ntmps72
 go_wp2_with (go_at_call 90;refine (lH _ _ _).mono ?_;rintro e w' ⟨rfl,rfl⟩)
 go_ret
 exact ⟨rfl,rfl⟩
theorem dN {s last:Int}{b:Bool}(w:World) (h0:0≤last) (h1:last≤1000000) (h:inB s (2*last+1)=b) :
  Calls Tryz.prog 71 #[.int .i64 s,.int .i64 last] w fun e w'=>e=.returned (.bool b)∧w'=w:=by
 subst h;exact iR s last w h0 h1
theorem wB {s:Int}{b:Bool}(w:World) (h:inB s 1=b) :
  Calls Tryz.prog 72 #[.int .i64 s] w fun e w'=>e=.returned (.bool b)∧w'=w:=by
 subst h;exact aI9 s w
theorem iY (n:Int) (la ga oa:Option Addr) (ln lc gn gc on oc:Nat) (w:World) (h0:0≤n) (h1:n≤4) (h2:ln≤1000) (h3:gn≤1000) :
  Calls Tryz.prog 68 #[.agg #[.int .i64 n,.slice la ln lc,.slice ga gn gc,.slice oa on oc]] w fun e w' =>
   e=.returned (.int .i64 (n+ln+gn))∧w'=w.alloc (.cells #[.int .i64 n,.slice la ln lc,.slice ga gn gc,.slice oa on oc] 34):=by
 go_enter Tryz.func68,Tryz.ntmps68
 go_wp2
 go_ret
 exact ⟨rfl,rfl⟩
theorem aGU (i l o g:Int) (w:World) :
  Calls Tryz.prog 62 #[.int .i64 i,.int .i64 l,.int .i64 o,.int .i64 g] w fun e w'=>e=.returned (.bool (eJ i l o g))∧w'=w:=by
 cases h1:inB i 4<;>cases h2:inB l 4<;>cases h3:inB o 4<;>cases h4:inB g 30 <;>
 ·go_enter Tryz.func62,Tryz.ntmps62
  go_wp2_with (go_at_call 90;refine (lH _ _ _).mono ?_;rintro e w' ⟨rfl,rfl⟩)
  go_ret
  exact ⟨aU (by simp [eJ,h1,h2,h3,h4]),rfl⟩
end Go.Proofs.YtgpaajdfkekjiaaGreatDoor
namespace Go.Proofs.YtgpaajdfkekjiaaGreatDoor
set_option maxHeartbeats 8000000
set_option maxRecDepth 100000
open Go.RowKit
attribute [local go_sem ↓] Go.wp_at_zero Go.wp_at_succ
def PairsAt (w:World) (a:Option Addr) (ps:List (Int×Int)):Prop :=
 ps=[]∨∃b off,a=some ⟨b,off,none⟩∧b<w.heap.size∧∀i,i<ps.length →
  w.cell? ⟨b,off+i*2,none⟩=some (.int .i64 (ps.getD i (0,0)).1)∧w.cell? ⟨b,off+i*2+1,none⟩=some (.int .i64 (ps.getD i (0,0)).2)
def IntsAt (w:World) (a:Option Addr) (xs:List Int):Prop :=
 xs=[]∨∃b off,a=some ⟨b,off,none⟩∧b<w.heap.size∧∀i,i<xs.length→w.cell? ⟨b,off+i,none⟩=some (.int .i64 (xs.getD i 0))
theorem PairsAt.below {w w':World}{a:Option Addr}{ps:List (Int×Int)}(h:PairsAt w a ps) (hb:Below w.heap.size w w'):PairsAt w' a ps:=by
 rcases h with h | ⟨b,off,ha,hlt,hc⟩
 ·exact .inl h
 ·exact .inr ⟨b,off,ha,Nat.lt_of_lt_of_le hlt hb.size,fun i hi=>⟨(hb.cell (p:=⟨b,_,none⟩) hlt).trans (hc i hi).1,(hb.cell (p:=⟨b,_,none⟩) hlt).trans (hc i hi).2⟩⟩
theorem IntsAt.below {w w':World}{a:Option Addr}{xs:List Int}(h:IntsAt w a xs) (hb:Below w.heap.size w w'):IntsAt w' a xs:=by
 rcases h with h | ⟨b,off,ha,hlt,hc⟩
 ·exact .inl h
 ·exact .inr ⟨b,off,ha,Nat.lt_of_lt_of_le hlt hb.size,fun i hi=>(hb.cell (p:=⟨b,_,none⟩) hlt).trans (hc i hi)⟩
theorem kD {p:Nat→Prop}{k:Nat}(h:∀j,j<k→p j) (hk:p k):∀j,j<k+1→p j:=by
 intro j hj
 rcases Nat.lt_succ_iff_lt_or_eq.1 hj with h' | h'
 ·exact h j h'
 ·rw [h'];exact hk
theorem qB (n:Int) (la ga oa:Option Addr) (ln lc gn gc oc:Nat) (os:List Int) (w:World) (h0:0≤n) (h1:n≤4) (h2:ln≤1000) (h3:gn≤1000) (h4:os.length≤1000)
  (hO:IntsAt w oa os) :
  Calls Tryz.prog 65 #[.agg #[.int .i64 n,.slice la ln lc,.slice ga gn gc,.slice oa os.length oc]] w fun e w' =>
   e=.returned (.bool (wT (n+ln+gn) os))∧Below w.heap.size w w':=by
 rcases hO with rfl | ⟨b,off,rfl,hlt,hc⟩
 ·go_enter Tryz.func65,Tryz.ntmps65
  go_wp2;refine wp_loop_rounds 1 ?_;rw [rounds_succ];go_wp2
  go_ret
  exact ⟨rfl,(Below.refl _ _).alloc (Nat.le_refl _) _⟩
 ·go_enter Tryz.func65,Tryz.ntmps65
  go_wp2
  go_loopw [4,8] (fun _ i wr=>∃k:Nat,k≤os.length∧i=.int .i64 k∧(∀j,j<k→inB (os.getD j 0) (2*(n+ln+gn)+1)=true)∧
    wr.cell? ⟨w.heap.size,0,none⟩=some (.int .i64 n)∧wr.cell? ⟨w.heap.size,1,none⟩=some (.slice la ln lc)∧wr.cell? ⟨w.heap.size,2,none⟩=some (.slice ga gn gc)∧
    wr.cell? ⟨w.heap.size,3,none⟩=some (.slice (some ⟨b,off,none⟩) os.length oc)∧w.heap.size<wr.heap.size∧Below w.heap.size w wr)
   (fun _ i _=>os.length - (intOf i).toNat)
  case atStart=>exact ⟨0,Nat.zero_le _,rfl,fun j hj=>absurd hj (Nat.not_lt_zero j),by simp,by simp,by simp,by simp,by simp,(Below.refl _ _).alloc (Nat.le_refl _) _⟩
  case round =>
   obtain ⟨k,hk,rfl,hall,q0,q1,q2,q3,hz,hbel⟩:=hrel;have HA:Hid (∀j,j<k→inB (os.getD j 0) (2*(n+ln+gn)+1)=true):=hall;clear hall
   by_cases hk2:k<os.length
   ·have hcy:wr.cell? ⟨b,off+k,none⟩=some (.int .i64 (os.getD k 0)):=(hbel.cell (p:=⟨b,_,none⟩) hlt).trans (hc k hk2)
    obtain ⟨x,hX⟩:∃x,x=os.getD k 0:=⟨_,rfl⟩
    rw [←hX] at hcy;have HX:Hid (x=os.getD k 0):=hX;clear hX hc
    cases hq:inB x (2*(n+ln+gn)+1)
    ·go_wp2_with (first | (go_at_call 68;refine (iY n _ _ _ ln _ gn _ _ _ _ h0 h1 h2 h3).mono ?_;rintro e w' ⟨rfl,rfl⟩) | (go_at_call 71;refine (iR _ _ _ (by omega) (by omega)).mono ?_;rintro e w' ⟨rfl,rfl⟩))
     go_ret
     exact ⟨aU (aBQ hk2 (by rw [←HX.out];exact hq)).symm,hbel.alloc (by omega) _⟩
    ·go_wp2_with (first | (go_at_call 68;refine (iY n _ _ _ ln _ gn _ _ _ _ h0 h1 h2 h3).mono ?_;rintro e w' ⟨rfl,rfl⟩) | (go_at_call 71;refine (iR _ _ _ (by omega) (by omega)).mono ?_;rintro e w' ⟨rfl,rfl⟩))
     go_roundw
     case rel=>exact ⟨k+1,by omega,by go_num,kD HA.out (by rw [←HX.out];exact hq),by simp [World.cell?_alloc_past,hz,q0],by simp [World.cell?_alloc_past,hz,q1],by simp [World.cell?_alloc_past,hz,q2],by simp [World.cell?_alloc_past,hz,q3],by simp;omega,hbel.alloc (by omega) _⟩
     case measure=>simp [intOf];omega
   ·clear hc
    go_wp2
    go_ret
    exact ⟨aU (by unfold wT;exact (decide_eq_true (fun i hi=>HA.out i (by omega))).symm),hbel⟩
theorem tU (n:Int) (la ga oa:Option Addr) (ln lc gc on oc:Nat) (gs:List (Int×Int)) (w:World) (h0:0≤n) (h1:n≤4) (h2:ln≤1000) (h3:gs.length≤1000)
  (hG:PairsAt w ga gs) :
  Calls Tryz.prog 64 #[.agg #[.int .i64 n,.slice la ln lc,.slice ga gs.length gc,.slice oa on oc]] w fun e w' =>
   e=.returned (.bool (mT (n+ln) gs))∧Below w.heap.size w w':=by
 rcases hG with rfl | ⟨b,off,rfl,hlt,hc⟩
 ·go_enter Tryz.func64,Tryz.ntmps64
  go_wp2;refine wp_loop_rounds 1 ?_;rw [rounds_succ];go_wp2
  go_ret
  exact ⟨rfl,(Below.refl _ _).alloc (Nat.le_refl _) _⟩
 ·go_enter Tryz.func64,Tryz.ntmps64
  go_wp2
  go_loopw [3,5,15] (fun before _ i wr=>∃k:Nat,k≤gs.length∧i=.int .i64 k∧before=.int .i64 (n+ln+k)∧(∀j,j<k→dG (n+ln+(j:Nat)) (gs.getD j (0,0))=true)∧
    w.heap.size<wr.heap.size∧Below w.heap.size w wr)
   (fun _ _ i _=>gs.length - (intOf i).toNat)
  case atStart=>exact ⟨0,Nat.zero_le _,rfl,by go_num,fun j hj=>absurd hj (Nat.not_lt_zero j),by simp,(Below.refl _ _).alloc (Nat.le_refl _) _⟩
  case round =>
   obtain ⟨k,hk,rfl,rfl,hall,hz,hbel⟩:=hrel;have HA:Hid (∀j,j<k→dG (n+ln+(j:Nat)) (gs.getD j (0,0))=true):=hall;clear hall
   by_cases hk2:k<gs.length
   ·have hcy:wr.cell? ⟨b,off+k*2,none⟩=some (.int .i64 (gs.getD k (0,0)).1):=(hbel.cell (p:=⟨b,_,none⟩) hlt).trans (hc k hk2).1
    have hcz:wr.cell? ⟨b,off+k*2+1,none⟩=some (.int .i64 (gs.getD k (0,0)).2):=(hbel.cell (p:=⟨b,_,none⟩) hlt).trans (hc k hk2).2;obtain ⟨x,hX⟩:∃x,x=gs.getD k (0,0):=⟨_,rfl⟩
    rw [←hX] at hcy hcz;have HX:Hid (x=gs.getD k (0,0)):=hX;obtain ⟨x1,x2⟩:=x;dsimp only at hcy hcz;clear hX hc
    cases hq:inB x1 (2*(n+ln+k)+1)<;> cases hr:inB x2 (2*(n+ln+k)+1)
    case true.true =>
     go_wp2_with (first | (go_at_call 71;refine (iR _ _ _ (by omega) (by omega)).mono ?_;rintro e w' ⟨rfl,rfl⟩))
     go_roundw
     case rel=>exact ⟨k+1,by omega,by go_num,by go_num,kD HA.out (by rw [←HX.out];simp [dG,hq,hr]),by simp;omega,hbel.alloc (by omega) _⟩
     case measure=>simp [intOf];omega
    all_goals
     go_wp2_with (first | (go_at_call 71;refine (iR _ _ _ (by omega) (by omega)).mono ?_;rintro e w' ⟨rfl,rfl⟩))
     go_ret
     exact ⟨aU (yS hk2 (by rw [←HX.out];simp [dG,hq,hr])).symm,hbel.alloc (by omega) _⟩
   ·clear hc
    go_wp2
    go_ret
    exact ⟨aU (by unfold mT;exact (decide_eq_true (fun i hi=>HA.out i (by omega))).symm),hbel⟩
theorem qA (n:Int) (la ga oa:Option Addr) (lc gn gc on oc:Nat) (ls:List (Int×Int)) (w:World) (h0:0≤n) (h1:n≤4) (h2:ls.length≤1000) (h3:gn≤1000)
  (hL:PairsAt w la ls) :
  Calls Tryz.prog 63 #[.agg #[.int .i64 n,.slice la ls.length lc,.slice ga gn gc,.slice oa on oc]] w fun e w' =>
   e=.returned (.bool (gD (n+ls.length+gn) ls))∧Below w.heap.size w w':=by
 rcases hL with rfl | ⟨b,off,rfl,hlt,hc⟩
 ·go_enter Tryz.func63,Tryz.ntmps63
  go_wp2;refine wp_loop_rounds 1 ?_;rw [rounds_succ];go_wp2
  go_ret
  exact ⟨rfl,(Below.refl _ _).alloc (Nat.le_refl _) _⟩
 ·go_enter Tryz.func63,Tryz.ntmps63
  go_wp2
  go_loopw [4,8] (fun _ i wr=>∃k:Nat,k≤ls.length∧i=.int .i64 k∧(∀j,j<k→cJ (n+ls.length+gn) (ls.getD j (0,0))=true)∧
    wr.cell? ⟨w.heap.size,0,none⟩=some (.int .i64 n)∧wr.cell? ⟨w.heap.size,1,none⟩=some (.slice (some ⟨b,off,none⟩) ls.length lc)∧wr.cell? ⟨w.heap.size,2,none⟩=some (.slice ga gn gc)∧
    wr.cell? ⟨w.heap.size,3,none⟩=some (.slice oa on oc)∧w.heap.size<wr.heap.size∧Below w.heap.size w wr)
   (fun _ i _=>ls.length - (intOf i).toNat)
  case atStart=>exact ⟨0,Nat.zero_le _,rfl,fun j hj=>absurd hj (Nat.not_lt_zero j),by simp,by simp,by simp,by simp,by simp,(Below.refl _ _).alloc (Nat.le_refl _) _⟩
  case round =>
   obtain ⟨k,hk,rfl,hall,q0,q1,q2,q3,hz,hbel⟩:=hrel;have HA:Hid (∀j,j<k→cJ (n+ls.length+gn) (ls.getD j (0,0))=true):=hall;clear hall
   by_cases hk2:k<ls.length
   ·have hcy:wr.cell? ⟨b,off+k*2,none⟩=some (.int .i64 (ls.getD k (0,0)).1):=(hbel.cell (p:=⟨b,_,none⟩) hlt).trans (hc k hk2).1
    have hcz:wr.cell? ⟨b,off+k*2+1,none⟩=some (.int .i64 (ls.getD k (0,0)).2):=(hbel.cell (p:=⟨b,_,none⟩) hlt).trans (hc k hk2).2;obtain ⟨x,hX⟩:∃x,x=ls.getD k (0,0):=⟨_,rfl⟩
    rw [←hX] at hcy hcz;have HX:Hid (x=ls.getD k (0,0)):=hX;obtain ⟨x1,x2⟩:=x;dsimp only at hcy hcz;clear hX hc;have hz1:w.heap.size<wr.heap.size+1:=by omega
    cases hq:inB x1 (2*(n+ls.length+gn)+1)<;> cases hr:inB x2 1
    case true.true =>
     go_wp2
     first | go_region_with (first | (go_at_call 68;refine (iY n _ _ _ ls.length _ gn _ _ _ _ h0 h1 h2 h3).mono ?_;rintro e w' ⟨rfl,rfl⟩) | (go_at_call 71;refine (dN _ (by omega) (by omega) hq).mono ?_;rintro e w' ⟨rfl,rfl⟩) | (go_at_call 72;refine (wB _ hr).mono ?_;rintro e w' ⟨rfl,rfl⟩)) | fail
     all_goals
      go_wp2
      go_roundw
      case rel=>exact ⟨k+1,by omega,by go_num,kD HA.out (by rw [←HX.out];simp [cJ,hq,hr]),by simp [World.cell?_alloc_past,hz,hz1,q0],by simp [World.cell?_alloc_past,hz,hz1,q1],by simp [World.cell?_alloc_past,hz,hz1,q2],by simp [World.cell?_alloc_past,hz,hz1,q3],by simp;omega,((hbel.alloc (by omega) _).alloc (by simp;omega) _).drew⟩
      case measure=>simp [intOf];omega
    all_goals
     go_wp2
     first | go_region_with (first | (go_at_call 68;refine (iY n _ _ _ ls.length _ gn _ _ _ _ h0 h1 h2 h3).mono ?_;rintro e w' ⟨rfl,rfl⟩) | (go_at_call 71;refine (dN _ (by omega) (by omega) hq).mono ?_;rintro e w' ⟨rfl,rfl⟩) | (go_at_call 72;refine (wB _ hr).mono ?_;rintro e w' ⟨rfl,rfl⟩)) | fail
     all_goals
      go_wp2
      go_ret
      exact ⟨aU (tJ hk2 (by rw [←HX.out];simp [cJ,hq,hr])).symm,((hbel.alloc (by omega) _).alloc (by simp;omega) _).drew⟩
   ·clear hc
    go_wp2
    go_ret
    exact ⟨aU (by unfold gD;exact (decide_eq_true (fun i hi=>HA.out i (by omega))).symm),hbel⟩
end Go.Proofs.YtgpaajdfkekjiaaGreatDoor
namespace Go.Proofs.YtgpaajdfkekjiaaGreatDoor
set_option maxHeartbeats 8000000
set_option maxRecDepth 100000
open Go.RowKit
theorem qR {i l o g:Int}{b:Bool}(w:World) (h:eJ i l o g=b) :
  Calls Tryz.prog 62 #[.int .i64 i,.int .i64 l,.int .i64 o,.int .i64 g] w fun e w'=>e=.returned (.bool b)∧w'=w:=by
 subst h;exact aGU i l o g w
theorem oS {i l o g:Int}(h:eJ i l o g=true):0≤i∧i≤4∧l≤4∧o≤4∧g≤30:=by
 simp only [eJ,Bool.and_eq_true] at h;have a:=dS h.1.1.1;have b:=dS h.1.1.2;have c:=dS h.1.2;have d:=dS h.2
 omega
theorem sK {n:Int}{la ga oa:Option Addr}{ln lc gn gc oc:Nat}{os:List Int}{b:Bool}(w:World) (h0:0≤n) (h1:n≤4) (h2:ln≤1000) (h3:gn≤1000) (h4:os.length≤1000)
  (hO:IntsAt w oa os) (h:wT (n+ln+gn) os=b) :
  Calls Tryz.prog 65 #[.agg #[.int .i64 n,.slice la ln lc,.slice ga gn gc,.slice oa os.length oc]] w fun e w' =>
   e=.returned (.bool b)∧Below w.heap.size w w':=by subst h;exact qB n la ga oa ln lc gn gc oc os w h0 h1 h2 h3 h4 hO
theorem wZ {n:Int}{la ga oa:Option Addr}{ln lc gc on oc:Nat}{gs:List (Int×Int)}{b:Bool}(w:World) (h0:0≤n) (h1:n≤4) (h2:ln≤1000) (h3:gs.length≤1000)
  (hG:PairsAt w ga gs) (h:mT (n+ln) gs=b) :
  Calls Tryz.prog 64 #[.agg #[.int .i64 n,.slice la ln lc,.slice ga gs.length gc,.slice oa on oc]] w fun e w' =>
   e=.returned (.bool b)∧Below w.heap.size w w':=by subst h;exact tU n la ga oa ln lc gc on oc gs w h0 h1 h2 h3 hG
theorem sJ {n:Int}{la ga oa:Option Addr}{lc gn gc on oc:Nat}{ls:List (Int×Int)}{b:Bool}(w:World) (h0:0≤n) (h1:n≤4) (h2:ls.length≤1000) (h3:gn≤1000)
  (hL:PairsAt w la ls) (h:gD (n+ls.length+gn) ls=b) :
  Calls Tryz.prog 63 #[.agg #[.int .i64 n,.slice la ls.length lc,.slice ga gn gc,.slice oa on oc]] w fun e w' =>
   e=.returned (.bool b)∧Below w.heap.size w w':=by subst h;exact qA n la ga oa lc gn gc on oc ls w h0 h1 h2 h3 hL
theorem aGL (n:Int) (la ga oa:Option Addr) (lc gc oc:Nat) (ls gs:List (Int×Int)) (os:List Int) (w:World)
  (hL:PairsAt w la ls) (hG:PairsAt w ga gs) (hO:IntsAt w oa os) :
  Calls Tryz.prog 37 #[.agg #[.int .i64 n,.slice la ls.length lc,.slice ga gs.length gc,.slice oa os.length oc]] w fun e w' =>
   e=.returned (.bool (aG n ls gs os))∧Below w.heap.size w w':=by
 cases hs:eJ n ls.length os.length gs.length
 ·go_enter Tryz.func37,Tryz.ntmps37
  go_wp2_with (go_at_call 62;refine (qR _ hs).mono ?_;rintro e w' ⟨rfl,rfl⟩)
  go_ret
  exact ⟨aU (by simp [aG,hs]),(Below.refl _ _).alloc (Nat.le_refl _) _⟩
 ·obtain ⟨n0,n4,l4,o4,g30⟩:=oS hs
  have bel0:Below w.heap.size w (w.alloc (.cells #[.int .i64 n,.slice la ls.length lc,.slice ga gs.length gc,.slice oa os.length oc] 34)):=(Below.refl _ _).alloc (Nat.le_refl _) _
  cases h1:gD (n+ls.length+gs.length) ls<;>cases h2:mT (n+ls.length) gs<;>cases h3:wT (n+ls.length+gs.length) os <;>
  ·go_enter Tryz.func37,Tryz.ntmps37
   go_wp2_with (first | (go_at_call 62;refine (qR _ hs).mono ?_;rintro e w' ⟨rfl,rfl⟩) | (go_at_call 63;refine (sJ _ n0 n4 (by omega) (by omega) (hL.below bel0) h1).mono ?_;rintro e w1 ⟨rfl,b1⟩;have c1:=(bZ b1).1;have y1:w.heap.size<w1.heap.size:=Nat.lt_of_lt_of_le (by simp) b1.size) | (go_at_call 64;refine (wZ _ n0 n4 (by omega) (by omega) ((hG.below bel0).below b1) h2).mono ?_;rintro e w2 ⟨rfl,b2⟩;have c2:=(bZ b2).1) | (go_at_call 65;refine (sK _ n0 n4 (by omega) (by omega) (by omega) (((hO.below bel0).below b1).below b2) h3).mono ?_;rintro e w3 ⟨rfl,b3⟩))
   go_ret
   first
    | exact ⟨aU (by simp [aG,hs,h1,h2,h3]),((bel0.trans (b1.mono (by simp))).trans (b2.mono (by omega))).trans (b3.mono (Nat.le_trans (by omega) b2.size))⟩
    | exact ⟨aU (by simp [aG,hs,h1,h2]),(bel0.trans (b1.mono (by simp))).trans (b2.mono (by omega))⟩
    | exact ⟨aU (by simp [aG,hs,h1]),bel0.trans (b1.mono (by simp))⟩
theorem cD {n:Int}{ls gs:List (Int×Int)}{os:List Int}(h:aG n ls gs os=true) :
  (0≤n∧n≤4∧ls.length≤4∧os.length≤4∧gs.length≤30)∧(∀i,i<ls.length→cJ (n+ls.length+gs.length) (ls.getD i (0,0))=true)∧
  (∀i,i<gs.length→dG (n+ls.length+(i:Nat)) (gs.getD i (0,0))=true)∧(∀i,i<os.length→inB (os.getD i 0) (2*(n+ls.length+gs.length)+1)=true):=by
 simp only [aG,Bool.and_eq_true] at h;obtain ⟨⟨⟨hs,hl⟩,hg⟩,ho⟩:=h;obtain ⟨a,b,c,d,e⟩:=oS hs
 exact ⟨⟨a,b,by omega,by omega,by omega⟩,of_decide_eq_true hl,of_decide_eq_true hg,of_decide_eq_true ho⟩
theorem cI {n:Int}{la ga oa:Option Addr}{lc gc oc:Nat}{ls gs:List (Int×Int)}{os:List Int}{b:Bool}(w:World)
  (hL:PairsAt w la ls) (hG:PairsAt w ga gs) (hO:IntsAt w oa os) (h:aG n ls gs os=b) :
  Calls Tryz.prog 37 #[.agg #[.int .i64 n,.slice la ls.length lc,.slice ga gs.length gc,.slice oa os.length oc]] w fun e w' =>
   e=.returned (.bool b)∧Below w.heap.size w w':=by subst h;exact aGL n la ga oa lc gc oc ls gs os w hL hG hO
def aP (vs:List Nat):List Value:=vs.map fun x=>.int .i64 ((x:Nat):Int)
theorem iH (vs:List Nat):(aP vs).length=vs.length:=by simp [aP]
theorem aZ (vs:List Nat) (x:Nat):aP (vs++[x])=aP vs++[.int .i64 ((x:Nat):Int)]:=by simp [aP]
theorem nE {w:World}{base g len cap:Nat}{vs:List Nat}(h:w.ownsRow base 3 1 (.slice (some ⟨g,0,none⟩) len cap) len (aP vs)) :
  ∀j,j<len→w.cell? ⟨g,0+j,none⟩=some (.int .i64 ((vs.getD j 0:Nat):Int)):=by
 intro j hj;have hl:vs.length=len:=by have:=h.1;rw [iH] at this;omega
 rw [Nat.zero_add,h.cellAt j (by omega)];have:j<vs.length:=by omega
 simp [aP,this]
theorem _root_.Go.World.ownsRow.lower {w:World}{base base' e size:Nat}{v:Value}{n:Nat}{xs:List Value}(h:w.ownsRow base e size v n xs) (hb:base'≤base):w.ownsRow base' e size v n xs:=by
 refine ⟨h.1,?_⟩
 rcases h.2 with h' | ⟨g,cap,cur,hv,hbg,hr⟩
 ·exact .inl h'
 ·exact .inr ⟨g,cap,cur,hv,Nat.le_trans hb hbg,hr⟩
theorem Tryz.infoInt:(Tryz.prog.info? 3).map (fun i=>(i.zero,i.size,i.bytes))=some (some (.int .i64 0),1,8):=by kernel_rfl
theorem pM (z:Value) (n:Nat):madeCells #[z] n=(List.replicate n z).toArray:=by
 apply Array.toList_inj.1;rw [toList_madeCells_one]
theorem zU {w w':World}{base e size g len cap:Nat}{xs:List Value}(h:w.ownsRow base e size (.slice (some ⟨g,0,none⟩) len cap) len xs) (hb:Below w.heap.size w w') :
  w'.ownsRow base e size (.slice (some ⟨g,0,none⟩) len cap) len xs:=by
 have hg:=(h.lt g rfl).2;refine ⟨h.1,?_⟩
 rcases h.2 with ⟨h',_⟩ | ⟨g',cap',cur,h',hbg,hr,hrest⟩
 ·simp at h'
 ·simp only [Value.slice.injEq,Option.some.injEq,Addr.mk.injEq,and_true,true_and] at h'
  obtain ⟨rfl,rfl⟩:=h'
  exact .inr ⟨g,cap,cur,rfl,hbg,by rw [hb.block g hg];exact hr,hrest⟩
theorem IntsAt.get {w:World}{a:Option Addr}{xs:List Int}(h:IntsAt w a xs) (hx:0<xs.length) :
  ∃b off,a=some ⟨b,off,none⟩∧b<w.heap.size∧∀i,i<xs.length→w.cell? ⟨b,off+i,none⟩=some (.int .i64 (xs.getD i 0)):=by
 rcases h with rfl | h
 ·simp at hx
 ·exact h
theorem PairsAt.get {w:World}{a:Option Addr}{ps:List (Int×Int)}(h:PairsAt w a ps) (hx:0<ps.length) :
  ∃b off,a=some ⟨b,off,none⟩∧b<w.heap.size∧∀i,i<ps.length →
  w.cell? ⟨b,off+i*2,none⟩=some (.int .i64 (ps.getD i (0,0)).1)∧w.cell? ⟨b,off+i*2+1,none⟩=some (.int .i64 (ps.getD i (0,0)).2):=by
 rcases h with rfl | h
 ·simp at hx
 ·exact h
structure Span (lo hi:Nat) (w w':World):Prop where
 os:w'.os=w.os
 tape:w'.tape=w.tape
 output:w'.output=w.output
 size:w.heap.size≤w'.heap.size
 block:∀k,k<w.heap.size→(k<lo∨hi≤k)→w'.heap[k]?=w.heap[k]?
theorem Span.refl (lo hi:Nat) (w:World):Span lo hi w w:=⟨rfl,rfl,rfl,Nat.le_refl _,fun _ _ _=>rfl⟩
theorem Span.trans {lo hi:Nat}{a b c:World}(h:Span lo hi a b) (k:Span lo hi b c):Span lo hi a c :=
 ⟨k.os.trans h.os,k.tape.trans h.tape,k.output.trans h.output,Nat.le_trans h.size k.size,fun i hi ho=>(k.block i (Nat.lt_of_lt_of_le hi h.size) ho).trans (h.block i hi ho)⟩
theorem Span.mono {lo hi lo' hi':Nat}{a b:World}(h:Span lo hi a b) (h1:lo'≤lo) (h2:hi≤hi'):Span lo' hi' a b :=
 ⟨h.os,h.tape,h.output,h.size,fun k hk ho=>h.block k hk (by omega)⟩
theorem Span.of_below {lo hi:Nat}{a b:World}(h:Below a.heap.size a b):Span lo hi a b:=⟨h.os,h.tape,h.output,h.size,fun k hk _=>h.block k hk⟩
theorem Span.below {lo hi B:Nat}{a b:World}(h:Span lo hi a b) (hB:B≤lo) (hs:B≤a.heap.size):Below B a b:=⟨h.os,h.tape,h.output,h.size,fun k hk=>h.block k (by omega) (.inl (by omega))⟩
theorem Span.cell {lo hi:Nat}{a b:World}(h:Span lo hi a b){p:Addr}(h1:p.block<a.heap.size) (h2:p.block<lo∨hi≤p.block):b.cell? p=a.cell? p:=World.cell?_of_block (w:=a) (h.block _ h1 h2)
theorem Span.alloc {lo hi:Nat}{a b:World}(h:Span lo hi a b) (o:Obj):Span lo hi a (b.alloc o):=h.trans (Span.of_below ((Below.refl _ _).alloc (Nat.le_refl _) o))
theorem Span.drew {lo hi:Nat}{a b:World}(h:Span lo hi a b):Span lo hi a b.drew:=⟨h.os,h.tape,h.output,h.size,h.block⟩
theorem Span.setCell {lo hi:Nat}{a b:World}(h:Span lo hi a b){p:Addr}(h1:lo≤p.block) (h2:p.block<hi) (v:Value):Span lo hi a (b.setCell p v) :=
 h.trans ⟨rfl,rfl,rfl,by rw [Deep.nblk_setCell];exact Nat.le_refl _,fun k _ ho=>Deep.blk_setCell_other _ _ _ _ (by omega)⟩
def IntsIn (B:Nat) (w:World) (a:Option Addr) (xs:List Int):Prop :=
 xs=[]∨∃b off,a=some ⟨b,off,none⟩∧b<B∧b<w.heap.size∧∀i,i<xs.length→w.cell? ⟨b,off+i,none⟩=some (.int .i64 (xs.getD i 0))
theorem IntsAt.into {w:World}{a:Option Addr}{xs:List Int}(h:IntsAt w a xs):IntsIn w.heap.size w a xs:=by
 rcases h with h | ⟨b,off,ha,hlt,hc⟩
 ·exact .inl h
 ·exact .inr ⟨b,off,ha,hlt,hlt,hc⟩
theorem aDI (w:World) (o:Obj) (B:Nat) (hB:B=w.heap.size):(w.alloc o).heap[B]?=some o:=by subst hB;exact heap_alloc_new w o
theorem IntsIn.mono {B B':Nat}{w:World}{a:Option Addr}{xs:List Int}(h:IntsIn B w a xs) (hB:B≤B'):IntsIn B' w a xs:=by
 rcases h with h | ⟨b,off,ha,hb,hr⟩
 ·exact .inl h
 ·exact .inr ⟨b,off,ha,Nat.lt_of_lt_of_le hb hB,hr⟩
theorem IntsIn.get {B:Nat}{w:World}{a:Option Addr}{xs:List Int}(h:IntsIn B w a xs) (hx:0<xs.length) :
  ∃b off,a=some ⟨b,off,none⟩∧b<B∧b<w.heap.size∧∀i,i<xs.length→w.cell? ⟨b,off+i,none⟩=some (.int .i64 (xs.getD i 0)):=by
 rcases h with rfl | h
 ·simp at hx
 ·exact h
theorem IntsIn.span {B lo hi:Nat}{w w':World}{a:Option Addr}{xs:List Int}(h:IntsIn B w a xs) (hs:Span lo hi w w') (hB:B≤lo):IntsIn B w' a xs:=by
 rcases h with h | ⟨b,off,ha,hb,hlt,hc⟩
 ·exact .inl h
 ·exact .inr ⟨b,off,ha,hb,Nat.lt_of_lt_of_le hlt hs.size,fun i hi=>(hs.cell (p:=⟨b,_,none⟩) hlt (.inl (Nat.lt_of_lt_of_le hb hB))).trans (hc i hi)⟩
theorem IntsIn.below {B:Nat}{w w':World}{a:Option Addr}{xs:List Int}(h:IntsIn B w a xs) (hs:Below w.heap.size w w'):IntsIn B w' a xs:=by
 rcases h with h | ⟨b,off,ha,hb,hlt,hc⟩
 ·exact .inl h
 ·exact .inr ⟨b,off,ha,hb,Nat.lt_of_lt_of_le hlt hs.size,fun i hi=>(hs.cell (p:=⟨b,_,none⟩) hlt).trans (hc i hi)⟩
def PairsIn (B:Nat) (w:World) (a:Option Addr) (ps:List (Int×Int)):Prop :=
 ps=[]∨∃b off,a=some ⟨b,off,none⟩∧b<B∧b<w.heap.size∧∀i,i<ps.length →
  w.cell? ⟨b,off+i*2,none⟩=some (.int .i64 (ps.getD i (0,0)).1)∧w.cell? ⟨b,off+i*2+1,none⟩=some (.int .i64 (ps.getD i (0,0)).2)
theorem PairsAt.into {w:World}{a:Option Addr}{ps:List (Int×Int)}(h:PairsAt w a ps):PairsIn w.heap.size w a ps:=by
 rcases h with h | ⟨b,off,ha,hlt,hc⟩
 ·exact .inl h
 ·exact .inr ⟨b,off,ha,hlt,hlt,hc⟩
theorem PairsIn.mono {B B':Nat}{w:World}{a:Option Addr}{ps:List (Int×Int)}(h:PairsIn B w a ps) (hB:B≤B'):PairsIn B' w a ps:=by
 rcases h with h | ⟨b,off,ha,hb,hr⟩
 ·exact .inl h
 ·exact .inr ⟨b,off,ha,Nat.lt_of_lt_of_le hb hB,hr⟩
theorem PairsIn.get {B:Nat}{w:World}{a:Option Addr}{ps:List (Int×Int)}(h:PairsIn B w a ps) (hx:0<ps.length) :
  ∃b off,a=some ⟨b,off,none⟩∧b<B∧b<w.heap.size∧∀i,i<ps.length →
  w.cell? ⟨b,off+i*2,none⟩=some (.int .i64 (ps.getD i (0,0)).1)∧w.cell? ⟨b,off+i*2+1,none⟩=some (.int .i64 (ps.getD i (0,0)).2):=by
 rcases h with rfl | h
 ·simp at hx
 ·exact h
theorem PairsIn.span {B lo hi:Nat}{w w':World}{a:Option Addr}{ps:List (Int×Int)}(h:PairsIn B w a ps) (hs:Span lo hi w w') (hB:B≤lo):PairsIn B w' a ps:=by
 rcases h with h | ⟨b,off,ha,hb,hlt,hc⟩
 ·exact .inl h
 ·exact .inr ⟨b,off,ha,hb,Nat.lt_of_lt_of_le hlt hs.size,fun i hi=>⟨(hs.cell (p:=⟨b,_,none⟩) hlt (.inl (Nat.lt_of_lt_of_le hb hB))).trans (hc i hi).1,(hs.cell (p:=⟨b,_,none⟩) hlt (.inl (Nat.lt_of_lt_of_le hb hB))).trans (hc i hi).2⟩⟩
theorem PairsIn.below {B:Nat}{w w':World}{a:Option Addr}{ps:List (Int×Int)}(h:PairsIn B w a ps) (hs:Below w.heap.size w w'):PairsIn B w' a ps:=by
 rcases h with h | ⟨b,off,ha,hb,hlt,hc⟩
 ·exact .inl h
 ·exact .inr ⟨b,off,ha,hb,Nat.lt_of_lt_of_le hlt hs.size,fun i hi=>⟨(hs.cell (p:=⟨b,_,none⟩) hlt).trans (hc i hi).1,(hs.cell (p:=⟨b,_,none⟩) hlt).trans (hc i hi).2⟩⟩
theorem aD {w w':World}{b n:Nat}{t:TypeId}{f:Nat→Value}(h:w.rowIs b t n f) (hb:Below w.heap.size w w'):w'.rowIs b t n f:=h.of_block (hb.block b h.lt)
theorem uY {lo hi:Nat}{w w':World}{b n:Nat}{t:TypeId}{f:Nat→Value}(h:w.rowIs b t n f) (hs:Span lo hi w w') (ho:b<lo∨hi≤b):w'.rowIs b t n f:=h.of_block (hs.block b h.lt ho)
theorem nI {w:World}{b:Nat}{t:TypeId}{cs:List Value}{f:Nat→Value}(h:w.heap[b]?=some (.cells cs.toArray t (0,0))) (hf:∀i,i<cs.length→cs[i]?=some (f i)):w.rowIs b t cs.length f :=
 ⟨cs.toArray,h,by simp,fun i hi=>by simpa using hf i hi⟩
def hInt (xs:List Int) (i:Nat):Value:=.int .i64 (if i<xs.length then xs.getD i 0 else -5)
end Go.Proofs.YtgpaajdfkekjiaaGreatDoor
