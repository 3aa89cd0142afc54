/-
  A part of the proof of the statement All: texts of ours, made small by program (blanks, names).
-/
import Derived.Laws.FloatArith
namespace Go.Proofs.YtgpaajdfkekjiaaGreatDoor
set_option maxHeartbeats 8000000
set_option maxRecDepth 100000
open Ieee
def flw (N:Nat):Nat:=double.nearest false N (-1074)
theorem gJ (m q:Nat) (hm:m≠0):(m*2^q).log2=m.log2+q:=by
 have h0:m*2^q≠0:=Nat.mul_ne_zero hm (Nat.ne_of_gt (Nat.two_pow_pos q));have a:m.log2+q≤(m*2^q).log2:=(Nat.le_log2 h0).2 (by rw [Nat.pow_add];exact Nat.mul_le_mul_right _ ((Nat.le_log2 hm).1 (Nat.le_refl _)));have b:(m*2^q).log2<m.log2+q+1:=(Nat.log2_lt h0).2 (by
  rw [show m.log2+q+1=(m.log2+1)+q by omega,Nat.pow_add]
  exact Nat.mul_lt_mul_of_pos_right ((Nat.log2_lt hm).1 (Nat.lt_succ_self _)) (Nat.two_pow_pos q))
 omega
theorem yM (m d q:Nat) (hm:m≠0):Toward.even.cut false (m*2^q) (d+q)=Toward.even.cut false m d:=by
 unfold Toward.cut;dsimp only;rw [gJ m q hm,show min (d+q) (m.log2+q+2)=min d (m.log2+2)+q by omega];obtain ⟨e,he⟩:∃e,e=min d (m.log2+2):=⟨_,rfl⟩
 rw [←he];have hg:1 <<< (e+q)=1 <<< e*2^q:=by rw [Nat.shiftLeft_eq,Nat.shiftLeft_eq,Nat.pow_add,Nat.one_mul,Nat.one_mul]
 have hp:=Nat.two_pow_pos q;have hge:0<1 <<< e:=by rw [Nat.shiftLeft_eq,Nat.one_mul];exact Nat.two_pow_pos e
 obtain ⟨gap,hgap⟩:∃g,g=1 <<< e:=⟨_,rfl⟩
 rw [hg,←hgap,Nat.mul_div_mul_right _ _ hp,Nat.mul_mod_mul_right]
 congr 2
 have c1:decide (gap*2^q<2*(m % gap*2^q))=decide (gap<2*(m % gap)):=by
  apply decide_eq_decide.2
  rw [←Nat.mul_assoc]
  exact Nat.mul_lt_mul_right hp
 have c2:(gap*2^q==2*(m % gap*2^q))=(gap==2*(m % gap)):=by
  rw [←Nat.mul_assoc]
  apply Bool.eq_iff_iff.2
  simp only [beq_iff_eq]
  exact ⟨fun h=>Nat.eq_of_mul_eq_mul_right hp h,fun h=>congrArg (·*2^q) h⟩
 rw [c1,c2]
theorem aCO (k:Nat):Toward.even.cut false k 0=k:=by
 unfold Toward.cut;have:min 0 (k.log2+2)=0:=by omega
 simp [this,Nat.mod_one]
theorem yK (k d:Nat):Toward.even.cut false (k*2^d) d=k:=by
 by_cases h:k=0
 ·subst h
  simp [Toward.cut]
 ·have:=yM k 0 d h
  rw [Nat.zero_add] at this;rw [this,aCO]
theorem rZ (m:Nat) (p:Int) (hp:-1074≤p):double.nearest false m p=flw (m*2^(p+1074).toNat):=by
 unfold flw Format.nearest
 by_cases hm:m=0
 ·subst hm;simp
 obtain ⟨q,hq⟩:∃q:Nat,q=(p+1074).toNat:=⟨_,rfl⟩
 have h0:m*2^q≠0:=Nat.mul_ne_zero hm (Nat.ne_of_gt (Nat.two_pow_pos q));rw [←hq,if_neg hm,if_neg h0];have hlp:double.leastPlace=-1074:=by decide
 have hfb:(double.fractionBits:Int)=52:=rfl;dsimp only;rw [gJ m q hm,hlp,hfb];obtain ⟨last,hlast⟩:∃last:Int,last=max (p+(m.log2:Int) - 52) (-1074):=⟨_,rfl⟩
 have hl2:max (-1074+((m.log2+q:Nat):Int) - 52) (-1074)=last:=by rw [hlast];omega
 rw [hl2,←hlast];have hge:-1074≤last:=by omega
 have e0:((-1074:Int) - last).toNat=0:=by omega
 have key:Toward.even.cut false (m <<< (p - last).toNat) (last - p).toNat=Toward.even.cut false ((m*2^q)<<< ((-1074:Int) - last).toNat) (last - -1074).toNat:=by
  rw [e0,Nat.shiftLeft_zero]
  by_cases hc:p≤last
  ·have e1:(p - last).toNat=0:=by omega
   have e2:(last - -1074).toNat=(last - p).toNat+q:=(by omega)
   rw [e1,Nat.shiftLeft_zero,e2,yM _ _ _ hm]
  ·have e1:(last - p).toNat=0:=by omega
   obtain ⟨u,hu⟩:∃u,u=(p - last).toNat:=⟨_,rfl⟩
   obtain ⟨v,hv⟩:∃v,v=(last - -1074).toNat:=⟨_,rfl⟩
   have e2:q=u+v:=(by omega)
   rw [e1,←hu,←hv,Nat.shiftLeft_eq,e2,Nat.pow_add,←Nat.mul_assoc,yK,aCO]
 rw [key]
def uP (q:Nat):Nat:=2^q
theorem vK (q:Nat):0<uP q:=Nat.two_pow_pos q
theorem tD (p q:Nat):uP (p+q)=uP p*uP q:=Nat.pow_add 2 p q
theorem aE3 {A q:Nat}(h0:A≠0) (h:uP q≤A):q≤A.log2:=(Nat.le_log2 h0).2 h
theorem uJ (m:Nat) (p:Int) (hp:-1074≤p):double.nearest false m p=flw (m*uP (p+1074).toNat):=rZ m p hp
theorem qE:flw 0=0:=by simp [flw,Format.nearest,Format.word]
theorem aA3:double.read (flw 0)=.number false 0 (-1074):=by rw [qE];decide
def FitU (N:Nat):Prop:=∃k j,N=k*2^j∧k<2^53∧j≤1100
theorem aEQ (B d k:Nat) (hB:0<B) (h1:B≤k) (h2:k<2*B):(d*B+k) / B=d+1∧(d*B+k) % B=k - B:=by
 have e:d*B+k=B*(d+1)+(k - B):=by rw [Nat.mul_add,Nat.mul_comm B d];omega
 rw [e,Nat.mul_add_div hB,Nat.mul_add_mod,Nat.div_eq_of_lt (by omega),Nat.mod_eq_of_lt (by omega)]
 exact ⟨by omega,rfl⟩
theorem vV:∃B:Nat,double.binade=B∧double.infRung=2047*B∧double.signWeight=2048*B∧0<B∧(∀k:Nat,k≠0→k.log2<53→k<2*B)∧(∀k:Nat,k≠0→52≤k.log2→B≤k) :=
 ⟨4503599627370496,by decide,by decide,by decide,by decide,fun k h0 h=>(Nat.log2_lt (k:=53) h0).1 h,fun k h0 h=>(Nat.le_log2 (k:=52) h0).1 h⟩
theorem wV {N:Nat}(h0:N≠0){k d:Nat}(hd:d=N.log2 - 52) (hN:N=k*2^d) (hb:d≤1900):double.read (flw N)=.number false k (-1074+d):=by
 have hlp:double.leastPlace=-1074:=by decide
 have hfb:(double.fractionBits:Int)=52:=rfl;obtain ⟨B,hbin,hinf,hsw,hB,hB2,hB1⟩:=vV;have hk0:k≠0:=fun e=>h0 (by rw [hN,e,Nat.zero_mul])
 have hlog:N.log2=k.log2+d:=by rw [hN];exact gJ k d hk0
 have hk53:k<2*B:=hB2 k hk0 (by omega);have hk52:0<d→B≤k:=fun h=>hB1 k hk0 (by omega)
 have hX:d*B≤1900*B:=Nat.mul_le_mul_right B hb;have hw:flw N=min (d*B+k) (2047*B):=by
  unfold flw Format.nearest;rw [if_neg h0];dsimp only;rw [hlp,hfb,hbin,hinf];have hl:max (-1074+(N.log2:Int) - 52) (-1074)=-1074+(d:Int):=by omega
  rw [hl];have e0:((-1074:Int) - (-1074+(d:Int))).toNat=0:=by omega
  have e1:(-1074+(d:Int) - -1074).toNat=d:=by omega
  rw [e0,e1,Nat.shiftLeft_zero];have:Toward.even.cut false N d=k:=by rw [hN];exact yK k d
  rw [this,Format.word,if_neg (by decide)]
 rw [Nat.min_eq_left (by omega)] at hw;rw [hw];unfold Format.read;rw [hsw,hbin,hinf,hlp];dsimp only;have e1:(d*B+k) % (2048*B)=d*B+k:=Nat.mod_eq_of_lt (by omega);have e2:(d*B+k) / (2048*B)=0:=Nat.div_eq_of_lt (by omega);rw [e1,e2]
 by_cases hs:d*B+k<B
 ·rw [if_pos hs]
  have hd0:d=0:=by
   rcases Nat.eq_zero_or_pos d with h | h
   ·exact h
   ·have:=hk52 h;omega
  subst hd0
  simp
 ·rw [if_neg hs,if_pos (show d*B+k<2047*B by omega)]
  have hk:B≤k:=by
   by_cases h:0<d
   ·exact hk52 h
   ·obtain rfl:d=0:=by omega
    omega
  obtain ⟨e3,e4⟩:=aEQ B d k hB hk hk53;rw [e3,e4];have e5:B+(k - B)=k:=by omega
  rw [e5]
  simp
theorem FitU.read {N:Nat}(h:FitU N):∃(m:Nat) (p:Int),double.read (flw N)=.number false m p∧-1074≤p∧m*2^(p+1074).toNat=N:=by
 obtain ⟨k,j,hN,hk,hj⟩:=h
 by_cases h0:N=0
 ·subst h0
  exact ⟨0,-1074,aA3,by omega,by simp⟩
 ·have hk0:k≠0:=fun e=>h0 (by rw [hN,e,Nat.zero_mul])
  have hlog:N.log2=k.log2+j:=by rw [hN];exact gJ k j hk0
  have hkl:k.log2<53:=(Nat.log2_lt hk0).2 hk;obtain ⟨d,hd⟩:∃d,d=N.log2 - 52:=⟨_,rfl⟩
  have hdj:d≤j:=by omega
  have hN2:N=(k*2^(j - d))*2^d:=by rw [hN,Nat.mul_assoc,←Nat.pow_add,Nat.sub_add_cancel hdj]
  refine ⟨_,_,wV h0 hd hN2 (by omega),by omega,?_⟩;rw [show (-1074+(d:Int)+1074).toNat=d by omega,←hN2]
theorem aKP {A B:Nat}(hA:FitU A) (hB:FitU B):double.add (flw A) (flw B)=some (flw (A+B)):=by
 obtain ⟨m,i,r1,p1,e1⟩:=hA.read;obtain ⟨n,j,r2,p2,e2⟩:=hB.read;unfold Format.add;rw [r1,r2];unfold Datum.sum;dsimp only;obtain ⟨base,hbase⟩:∃b,b=min i j:=⟨_,rfl⟩
 rw [←hbase];obtain ⟨T,hT⟩:∃T:Nat,T=m*2^(i - base).toNat+n*2^(j - base).toNat:=⟨_,rfl⟩
 have hs:signed false m (i - base).toNat+signed false n (j - base).toNat=(T:Int):=by
  rw [hT];simp only [signed,Bool.false_eq_true,if_false,Nat.shiftLeft_eq]
  omega
 rw [hs];have hn:(if (T:Int)=0 then (false&&false) else decide ((T:Int)<0))=false:=by
  split
  ·rfl
  ·exact decide_eq_false (by omega)
 rw [hn];simp only [Option.map_some,Format.write,Int.natAbs_natCast];rw [rZ T base (by omega)]
 congr 2
 rw [hT,Nat.add_mul,Nat.mul_assoc,Nat.mul_assoc,←Nat.pow_add,←Nat.pow_add];rw [show (i - base).toNat+(base+1074).toNat=(i+1074).toNat by omega,show (j - base).toNat+(base+1074).toNat=(j+1074).toNat by omega,e1,e2]
theorem aFD {A B:Nat}(hA:FitU A) (hB:FitU B):double.order (flw A) (flw B)=some (compare A B):=by
 obtain ⟨m,i,r1,p1,e1⟩:=hA.read;obtain ⟨n,j,r2,p2,e2⟩:=hB.read;unfold Format.order;rw [r1,r2];unfold Datum.order;dsimp only;obtain ⟨base,hbase⟩:∃b,b=min i j:=⟨_,rfl⟩
 rw [←hbase]
 congr 1
 simp only [signed,Bool.false_eq_true,if_false,Nat.shiftLeft_eq];have a1:A=(m*2^(i - base).toNat)*2^(base+1074).toNat:=by
  rw [Nat.mul_assoc,←Nat.pow_add,show (i - base).toNat+(base+1074).toNat=(i+1074).toNat by omega,e1]
 have a2:B=(n*2^(j - base).toNat)*2^(base+1074).toNat:=by
  rw [Nat.mul_assoc,←Nat.pow_add,show (j - base).toNat+(base+1074).toNat=(j+1074).toNat by omega,e2]
 have hp:=Nat.two_pow_pos (base+1074).toNat;rw [a1,a2];obtain ⟨x,hx⟩:∃x,x=m*2^(i - base).toNat:=⟨_,rfl⟩
 obtain ⟨y,hy⟩:∃y,y=n*2^(j - base).toNat:=⟨_,rfl⟩
 rw [←hx,←hy];simp only [compare,compareOfLessAndEq]
 rcases Nat.lt_trichotomy x y with h | h | h
 ·rw [if_pos (by omega),if_pos (Nat.mul_lt_mul_of_pos_right h hp)]
 ·subst h;simp
 ·have h2:=Nat.mul_lt_mul_of_pos_right h hp
  rw [if_neg (by omega),if_neg (by omega),if_neg (by omega),if_neg (by omega)]
theorem aG7 (n:Nat):floatOfInt .f64 (n:Int)=flw (n*uP 1074):=by
 unfold floatOfInt FloatKind.nearest FloatKind.encode
 show double.write (.number (decide ((n:Int)<0)) (n:Int).natAbs 0)=_
 rw [decide_eq_false (by omega),Int.natAbs_natCast];have h:=uJ n 0 (by omega);rw [show ((0:Int)+1074).toNat=1074 by omega] at h
 exact h
theorem aJ4 (a:Nat) (ha:a≤60):double.read (flw (uP a*uP 1074))=.number false 4503599627370496 ((a:Int) - 52):=by
 have h0:uP a*uP 1074≠0:=Nat.mul_ne_zero (Nat.ne_of_gt (vK a)) (Nat.ne_of_gt (vK 1074));have hl:(uP a*uP 1074).log2=a+1074:=by rw [←tD,uP,Nat.log2_two_pow]
 have h52:(4503599627370496:Nat)=uP 52:=by decide
 have:=wV (N:=uP a*uP 1074) (k:=uP 52) (d:=a+1022) h0 (by omega) (by rw [←tD];show _=uP 52*uP (a+1022);rw [←tD];exact congrArg uP (by omega)) (by omega);have e:(-1074+((a+1022:Nat):Int))=(a:Int) - 52:=by omega
 rw [this,e,←h52]
theorem aKQ {A B a:Nat}(ha:a≤60) (hA:FitU A) (hAB:A=B*uP a) (hbig:A=0∨uP 900≤A):double.div (flw A) (flw (uP a*uP 1074))=some (flw B):=by
 unfold Format.div;rw [aJ4 a ha];have hfb:double.fractionBits=52:=rfl;have l52:Nat.log2 4503599627370496=52:=Nat.log2_two_pow (n:=52)
 by_cases h0:A=0
 ·subst h0
  have hB:B=0:=by
   rcases Nat.mul_eq_zero.1 hAB.symm with h | h
   ·exact h
   ·exact absurd h (Nat.ne_of_gt (vK a))
  subst hB;rw [aA3];unfold Datum.quotient;dsimp only;rw [if_neg (by decide)]
  simp [Format.write,Format.nearest,flw,Nat.shiftLeft_eq]
 ·obtain ⟨k,j,hN,hk,hj⟩:=hA
  have hk0:k≠0:=fun e=>h0 (by rw [hN,e,Nat.zero_mul])
  have hlog:A.log2=k.log2+j:=by rw [hN];exact gJ k j hk0
  have hkl:k.log2<53:=(Nat.log2_lt hk0).2 hk;have hbl:900≤A.log2:=aE3 h0 (hbig.resolve_left h0);obtain ⟨d,hd⟩:∃d,d=A.log2 - 52:=⟨_,rfl⟩
  have hdj:d≤j:=by omega
  obtain ⟨m,hm⟩:∃m,m=k*2^(j - d):=⟨_,rfl⟩
  have hN2:A=m*2^d:=by rw [hm,hN,Nat.mul_assoc,←Nat.pow_add,Nat.sub_add_cancel hdj]
  have hm0:m≠0:=fun e=>h0 (by rw [hN2,e,Nat.zero_mul])
  have hml:m.log2=52:=by
   have:=gJ m d hm0;rw [←hN2] at this
   omega
  rw [wV h0 hd hN2 (by omega),hfb];unfold Datum.quotient;dsimp only;rw [if_neg (by decide),hml,l52];have e1:m <<< (52+2+52 - 52)=(m*4)*4503599627370496:=by
   rw [Nat.shiftLeft_eq]
   omega
  rw [e1,Nat.mul_div_cancel _ (by decide),Nat.mul_mod_left];simp only [bne_self_eq_false,Bool.toNat_false,Nat.add_zero,Option.map_some,Format.write];rw [uJ _ _ (by omega)];refine congrArg (fun x=>some (flw x)) ?_;have hB:B*uP a=m*uP d:=by rw [←hAB,hN2,uP]
  apply Nat.eq_of_mul_eq_mul_right (vK a)
  rw [hB];rw [Nat.mul_assoc,←tD,show 2*(m*4)=m*uP 3 by rw [show uP 3=8 by decide];omega,Nat.mul_assoc,←tD];refine congrArg (fun q=>m*uP q) ?_
  omega
end Go.Proofs.YtgpaajdfkekjiaaGreatDoor
namespace Go.Proofs.YtgpaajdfkekjiaaGreatDoor
set_option maxHeartbeats 8000000
set_option maxRecDepth 100000
def sumN (f:Nat→Nat):Nat→Nat
 | 0=>0
 | k+1=>sumN f k+f k
theorem eE {f g:Nat→Nat}:∀k,(∀i,i<k→f i=g i)→sumN f k=sumN g k
 | 0,_=>rfl
 | k+1,h=>by rw [sumN,sumN,eE k (fun i hi=>h i (by omega)),h k (by omega)]
theorem aC7 {f g:Nat→Nat}:∀k,(∀i,i<k→f i≤g i)→sumN f k≤sumN g k
 | 0,_=>Nat.le_refl _
 | k+1,h=>by rw [sumN,sumN];exact Nat.add_le_add (aC7 k (fun i hi=>h i (by omega))) (h k (by omega))
theorem nV:∀k,sumN (fun _=>0) k=0
 | 0=>rfl
 | k+1=>by rw [sumN,nV k]
theorem oZ (c:Nat):∀k,sumN (fun _=>c) k=k*c
 | 0=>by simp [sumN]
 | k+1=>by rw [sumN,oZ c k,Nat.succ_mul]
theorem aDE (f g:Nat→Nat):∀k,sumN (fun i=>f i+g i) k=sumN f k+sumN g k
 | 0=>rfl
 | k+1=>by rw [sumN,sumN,sumN,aDE f g k];omega
theorem xH (f:Nat→Nat) (c:Nat):∀k,sumN (fun i=>c*f i) k=c*sumN f k
 | 0=>by simp [sumN]
 | k+1=>by rw [sumN,sumN,xH f c k,Nat.mul_add]
theorem sU (f:Nat→Nat→Nat) (b:Nat):∀a,sumN (fun i=>sumN (fun j=>f i j) b) a=sumN (fun j=>sumN (fun i=>f i j) a) b
 | 0=>by simp only [sumN];rw [nV]
 | a+1=>by rw [sumN,sU f b a,←aDE];rfl
theorem pB (f:Nat→Nat) (a:Nat):∀b,sumN f (b+a)=sumN f b+sumN (fun i=>f (b+i)) a:=by
 induction a with
 | zero=>intro b;simp [sumN]
 | succ a ih=>intro b;rw [show b+(a+1)=(b+a)+1 by omega,sumN,ih,sumN];omega
theorem aAH (f:Nat→Nat){a b:Nat}(h:a≤b):sumN f a≤sumN f b:=by
 obtain ⟨c,rfl⟩:∃c,b=a+c:=⟨b - a,by omega⟩
 rw [pB];omega
theorem xI (c t:Nat):∀k,sumN (fun s=>if t=s then c else 0) k=if t<k then c else 0
 | 0=>by simp [sumN]
 | k+1=>by
  rw [sumN,xI c t k]
  by_cases h:t<k
  ·rw [if_pos h,if_neg (by omega),if_pos (by omega)];omega
  ·by_cases e:t=k
   ·subst e;simp
   ·rw [if_neg h,if_neg e,if_neg (by omega)]
theorem aE7 (f:Nat→Nat){t k:Nat}(h:t<k):f t≤sumN f k:=by
 have:=pB f (k - t) t;rw [show t+(k - t)=k by omega] at this;have h2:f (t+0)≤sumN (fun i=>f (t+i)) (k - t):=by
  obtain ⟨c,hc⟩:∃c,k - t=1+c:=⟨k - t - 1,by omega⟩
  rw [hc,pB]
  simp [sumN]
 simp at h2
 omega
section
variable (nx:Nat→Nat→Nat) (I:Nat)
def mE (f:Nat→Nat) (t:Nat):Nat:=sumN (fun s=>sumN (fun i=>if nx s i=t then f s else 0) I) 16
def fH (f:Nat→Nat) (s i t:Nat):Nat:=sumN (fun s'=>sumN (fun j=>if nx s' j=t then f s' else 0) I) s+sumN (fun j=>if nx s j=t then f s else 0) i
theorem uV (f:Nat→Nat) (t:Nat):fH nx I f 0 0 t=0:=rfl
theorem uU (f:Nat→Nat) (s i t:Nat):fH nx I f s (i+1) t=fH nx I f s i t+if nx s i=t then f s else 0:=by unfold fH;rw [sumN];omega
theorem uS (f:Nat→Nat) (s t:Nat):fH nx I f s I t=fH nx I f (s+1) 0 t:=by unfold fH;simp [sumN]
theorem aA0 (f:Nat→Nat) (t:Nat):fH nx I f 16 0 t=mE nx I f t:=by unfold fH mE;simp [sumN]
theorem uT (f:Nat→Nat) (s t:Nat) (h:f s=0):fH nx I f (s+1) 0 t=fH nx I f s 0 t:=by
 have:sumN (fun j=>if nx s j=t then f s else 0) I=0:=by rw [eE I (g:=fun _=>0) (fun j _=>by simp [h]),nV]
 unfold fH;simp only [sumN,this]
def ways (st:Nat):Nat→Nat→Nat
 | 0,t=>if t=st then 1 else 0
 | k+1,t=>mE nx I (ways st k) t
def fF (g:Nat→Nat→Nat) (f:Nat→Nat) (s i:Nat):Nat:=sumN (fun s'=>sumN (fun j=>g s' j*f s') I) s+sumN (fun j=>g s j*f s) i
def allG (g:Nat→Nat→Nat) (f:Nat→Nat):Nat:=sumN (fun s=>sumN (fun j=>g s j*f s) I) 16
theorem uO (g:Nat→Nat→Nat) (f:Nat→Nat) (s i:Nat):fF I g f s (i+1)=fF I g f s i+g s i*f s:=by unfold fF;rw [sumN];omega
theorem uM (g:Nat→Nat→Nat) (f:Nat→Nat) (s:Nat):fF I g f s I=fF I g f (s+1) 0:=by unfold fF;simp [sumN]
theorem zZ (g:Nat→Nat→Nat) (f:Nat→Nat):fF I g f 16 0=allG I g f:=by unfold fF allG;simp [sumN]
theorem uN (g:Nat→Nat→Nat) (f:Nat→Nat) (s:Nat) (h:f s=0):fF I g f (s+1) 0=fF I g f s 0:=by
 have:sumN (fun j=>g s j*f s) I=0:=by rw [eE I (g:=fun _=>0) (fun j _=>by simp [h]),nV]
 unfold fF;simp only [sumN,this]
theorem aL2 (f:Nat→Nat) (s i t:Nat):fH nx I f s i t=fF I (fun s i=>if nx s i=t then 1 else 0) f s i:=by
 unfold fH fF;rw [eE s (fun s _=>eE I (fun i _=>show (if nx s i=t then f s else 0)=(if nx s i=t then 1 else 0)*f s by by_cases e:nx s i=t<;>simp [e])),
  eE i (fun i _=>show (if nx s i=t then f s else 0)=(if nx s i=t then 1 else 0)*f s by by_cases e:nx s i=t<;>simp [e])]
theorem aKE {g:Nat→Nat→Nat}(hg:∀s i,g s i≤1) (f:Nat→Nat):allG I g f≤I*sumN f 16:=by
 unfold allG;rw [←xH];refine aC7 16 (fun s _=>?_);rw [←oZ (f s) I]
 exact aC7 I (fun i _=>by have:=hg s i;calc g s i*f s≤1*f s:=Nat.mul_le_mul_right _ this
                           _=f s:=Nat.one_mul _)
theorem aIY {g:Nat→Nat→Nat}{f:Nat→Nat}{s i:Nat}(hs:s<16) (hi:i≤I):fF I g f s i≤allG I g f:=by
 unfold allG;have h1:sumN (fun j=>g s j*f s) i≤sumN (fun j=>g s j*f s) I:=aAH _ hi;have h2:sumN (fun s'=>sumN (fun j=>g s' j*f s') I) (s+1)≤sumN (fun s'=>sumN (fun j=>g s' j*f s') I) 16:=aAH _ (by omega);rw [sumN] at h2;unfold fF
 omega
theorem xT (hnx:∀s i,nx s i<16) (st:Nat) (hst:st<16):∀k,sumN (ways nx I st k) 16=I^k
 | 0=>by
  have:sumN (ways nx I st 0) 16=sumN (fun t=>if st=t then 1 else 0) 16:=eE _ (fun t _=>by simp [ways,eq_comm]);rw [this,xI,if_pos hst,Nat.pow_zero]
 | k+1=>by
  have e:sumN (ways nx I st (k+1)) 16=sumN (fun t=>sumN (fun s=>sumN (fun i=>if nx s i=t then ways nx I st k s else 0) I) 16) 16:=rfl;rw [e,sU];have:sumN (fun s=>sumN (fun t=>sumN (fun i=>if nx s i=t then ways nx I st k s else 0) I) 16) 16=sumN (fun s=>I*ways nx I st k s) 16:=by
   refine eE _ (fun s _=>?_);rw [sU,←oZ];refine eE _ (fun i _=>?_);rw [xI,if_pos (hnx s i)]
  rw [this,xH,xT hnx st hst k,Nat.pow_succ,Nat.mul_comm]
theorem aLI (hnx:∀s i,nx s i<16) (st:Nat) (hst:st<16) (k t:Nat) (ht:t<16):ways nx I st k t≤I^k:=by
 rw [←xT nx I hnx st hst k]
 exact aE7 _ ht
end
def fq (k e:Nat):Nat:=flw (k*uP (1074 - e))
theorem aFC {k e:Nat}(hk:k<9007199254740992):FitU (k*uP (1074 - e)):=⟨k,1074 - e,rfl,hk,by omega⟩
theorem aK1 {k l e:Nat}(hk:k<9007199254740992) (hl:l<9007199254740992):Ieee.double.add (fq k e) (fq l e)=some (fq (k+l) e):=by
 unfold fq;rw [aKP (aFC hk) (aFC hl),Nat.add_mul]
theorem vW {k l e:Nat}(hk:k<9007199254740992) (hl:l<9007199254740992):Ieee.double.order (fq k e) (fq l e)=some (compare k l):=by
 unfold fq;rw [aFD (aFC hk) (aFC hl)];have hp:=vK (1074 - e)
 congr 1
 simp only [compare,compareOfLessAndEq]
 rcases Nat.lt_trichotomy k l with h | h | h
 ·rw [if_pos h,if_pos (Nat.mul_lt_mul_of_pos_right h hp)]
 ·subst h;simp
 ·have h2:=Nat.mul_lt_mul_of_pos_right h hp
  rw [if_neg (by omega),if_neg (by omega),if_neg (by omega),if_neg (by omega)]
theorem aCR (n:Nat):floatOfInt .f64 (n:Int)=fq n 0:=aG7 n
theorem aFE {k e a:Nat}(ha:a≤60) (he:e+a≤100) (hk:k<9007199254740992):Ieee.double.div (fq k e) (fq (2^a) 0)=some (fq k (e+a)):=by
 unfold fq;refine aKQ ha (aFC hk) ?_ ?_
 ·rw [Nat.mul_assoc,←tD]
  exact congrArg (fun q=>k*uP q) (by omega)
 ·rcases Nat.eq_zero_or_pos k with h | h
  ·exact .inl (by rw [h,Nat.zero_mul])
  ·refine .inr ?_
   rw [show 1074 - e=900+(174 - e) by omega,tD];obtain ⟨U,hU⟩:∃U,U=uP 900:=⟨_,rfl⟩
   rw [←hU];have h1:1*(U*1)≤k*(U*uP (174 - e)):=Nat.mul_le_mul h (Nat.mul_le_mul_left U (vK (174 - e)))
   omega
end Go.Proofs.YtgpaajdfkekjiaaGreatDoor
namespace Go.Proofs.YtgpaajdfkekjiaaGreatDoor
set_option maxHeartbeats 8000000
set_option maxRecDepth 100000
structure Duo where
 K:Nat
 p0:Nat×Nat
 step:Nat×Nat→Nat→Nat×Nat
 dif:Nat×Nat→Nat→Nat
namespace Duo
variable (M:Duo)
def run (u:List Nat):Nat×Nat:=u.foldl M.step M.p0
def difL (u:List Nat):Nat:=if u=[] then 0 else M.dif (M.run u.dropLast) (u.getLast?.getD 0)
def Valid (u:List Nat):Prop:=∀i∈u,i<M.K
def Reach (p:Nat×Nat):Prop:=∃u,M.Valid u∧M.run u=p
theorem run_snoc (u:List Nat) (i:Nat):M.run (u++[i])=M.step (M.run u) i:=by simp [run]
theorem difL_snoc (u:List Nat) (i:Nat):M.difL (u++[i])=M.dif (M.run u) i:=by simp [difL]
theorem run_app {u v:List Nat}(h:M.run u=M.run v) (r:List Nat):M.run (u++r)=M.run (v++r):=by
 unfold run at *;rw [List.foldl_append,List.foldl_append,h]
theorem valid_nil:M.Valid []:=fun i h=>by cases h
theorem valid_snoc {u:List Nat}{i:Nat}:M.Valid (u++[i])↔M.Valid u∧i<M.K:=by
 unfold Valid;simp only [List.mem_append,List.mem_singleton]
 exact ⟨fun h=>⟨fun j hj=>h j (.inl hj),h i (.inr rfl)⟩,fun h j hj=>hj.elim (h.1 j) (fun e=>e▸h.2)⟩
end Duo
theorem cO {α:Type}(u:List α):u=[]∨∃q i,u=q++[i]:=by
 rcases List.eq_nil_or_concat u with h | ⟨q,i,h⟩
 ·exact .inl h
 ·exact .inr ⟨q,i,by rw [h];simp⟩
def code (u:List Nat):Nat:=u.foldl (fun a i=>a*16+i) 1
theorem cE (u:List Nat) (i:Nat):code (u++[i])=code u*16+i:=by simp [code]
theorem aCN:code []=1:=rfl
def Dig (u:List Nat):Prop:=∀i∈u,i<16
theorem dig_snoc {u:List Nat}{i:Nat}:Dig (u++[i])↔Dig u∧i<16:=by
 unfold Dig;simp only [List.mem_append,List.mem_singleton]
 exact ⟨fun h=>⟨fun j hj=>h j (.inl hj),h i (.inr rfl)⟩,fun h j hj=>hj.elim (h.1 j) (fun e=>e▸h.2)⟩
theorem vS:∀(n:Nat) (u:List Nat),u.length=n→Dig u→16^n≤code u∧code u<2*16^n:=by
 intro n
 induction n with
 | zero=>intro u hu _;obtain rfl:=List.length_eq_zero_iff.1 hu;decide
 | succ n ih =>
  intro u hu hd
  rcases cO u with rfl | ⟨q,i,rfl⟩
  ·simp at hu
  ·obtain ⟨hd1,hi⟩:=dig_snoc.1 hd
   have hq:q.length=n:=(by simpa using hu)
   have:=ih q hq hd1;rw [cE,Nat.pow_succ]
   omega
theorem aCM:∀(n:Nat) (u v:List Nat),u.length=n→Dig u→Dig v→code u=code v→u=v:=by
 intro n
 induction n with
 | zero =>
  intro u v hu _ hv h;obtain rfl:=List.length_eq_zero_iff.1 hu
  rcases cO v with rfl | ⟨q,i,rfl⟩
  ·rfl
  ·obtain ⟨hd1,hi⟩:=dig_snoc.1 hv
   have:=vS _ q rfl hd1;have h16:1≤16^q.length:=Nat.pos_of_ne_zero (by simp);rw [cE,aCN] at h
   omega
 | succ n ih =>
  intro u v hu hdu hdv h
  rcases cO u with rfl | ⟨q,i,rfl⟩
  ·simp at hu
  rcases cO v with rfl | ⟨r,j,rfl⟩
  ·obtain ⟨hd1,hi⟩:=dig_snoc.1 hdu
   have:=vS _ q rfl hd1;have h16:1≤16^q.length:=Nat.pos_of_ne_zero (by simp);rw [cE,aCN] at h
   omega
  obtain ⟨hq,hi⟩:=dig_snoc.1 hdu;obtain ⟨hr,hj⟩:=dig_snoc.1 hdv;rw [cE,cE] at h;have e1:code q=code r:=by omega
  have e2:i=j:=by omega
  rw [ih q r (by simpa using hu) hq hr e1,e2]
theorem aHW (u:List Nat):1≤code u:=by
 suffices h:∀n (u:List Nat),u.length=n→1≤code u from h _ u rfl
 intro n
 induction n with
 | zero=>intro u hu;obtain rfl:=List.length_eq_zero_iff.1 hu;decide
 | succ n ih =>
  intro u hu
  rcases cO u with rfl | ⟨q,i,rfl⟩
  ·decide
  ·have:=ih q (by simpa using hu)
   rw [cE];omega
theorem aB1 {u v:List Nat}(h:code u<code v) (r:List Nat):code (u++r)<code (v++r):=by
 suffices hh:∀n (r:List Nat),r.length=n→code (u++r)<code (v++r) from hh _ r rfl
 intro n
 induction n with
 | zero=>intro r hr;obtain rfl:=List.length_eq_zero_iff.1 hr;simpa using h
 | succ n ih =>
  intro r hr
  rcases cO r with rfl | ⟨q,i,rfl⟩
  ·simp at hr
  ·have:=ih q (by simpa using hr)
   rw [←List.append_assoc,←List.append_assoc,cE,cE];omega
theorem rB {u v:List Nat}(h:u <+: v):code u≤code v:=by
 obtain ⟨r,rfl⟩:=h
 suffices hh:∀n (r:List Nat),r.length=n→code u≤code (u++r) from hh _ r rfl
 intro n
 induction n with
 | zero=>intro r hr;obtain rfl:=List.length_eq_zero_iff.1 hr;simp
 | succ n ih =>
  intro r hr
  rcases cO r with rfl | ⟨q,i,rfl⟩
  ·simp
  ·have:=ih q (by simpa using hr)
   rw [←List.append_assoc,cE];omega
theorem pE {u v:List Nat}(hu:Dig u) (hv:Dig v) (h:u.length<v.length):code u<code v:=by
 have a:=vS _ u rfl hu;have b:=vS _ v rfl hv;have:16^(u.length+1)≤16^v.length:=Nat.pow_le_pow_right (by omega) h;rw [Nat.pow_succ] at this
 omega
namespace Duo
variable {M:Duo}
def Least (M:Duo) (v:List Nat):Prop:=M.Valid v∧M.difL v≠0∧∀x,M.Valid x→M.difL x≠0→code v≤code x
theorem pF {v:List Nat}(hv:M.Valid v) (hd:M.difL v≠0):∃x,M.Least x:=by
 suffices h:∀n (v:List Nat),code v≤n→M.Valid v→M.difL v≠0→∃x,M.Least x from h _ v (Nat.le_refl _) hv hd
 intro n
 induction n with
 | zero=>intro v hc;have:=aHW v;omega
 | succ n ih =>
  intro v hc hv hd
  by_cases h:∃x,M.Valid x∧M.difL x≠0∧code x<code v
  ·obtain ⟨x,h1,h2,h3⟩:=h
   exact ih x (by omega) h1 h2
  ·exact ⟨v,hv,hd,fun x h1 h2=>Nat.le_of_not_lt (fun h3=>h ⟨x,h1,h2,h3⟩)⟩
structure Search (M:Duo) (E:List (List Nat)) (T:List Nat→Prop):Prop where
 valid:∀u∈E,M.Valid u
 nodup:(E.map M.run).Nodup
 first:T []∨(M.difL []=0∧∃u∈E,code u≤code []∧M.run u=M.run [])
 next:∀u∈E,∀i,i<M.K→T (u++[i])∨(M.difL (u++[i])=0∧∃x∈E,code x≤code (u++[i])∧M.run x=M.run (u++[i]))
theorem dig_of_valid {u:List Nat}(hK:M.K≤16) (h:M.Valid u):Dig u:=fun i hi=>Nat.lt_of_lt_of_le (h i hi) hK
theorem Search.some_left {E:List (List Nat)}{T:List Nat→Prop}(S:Search M E T) (hK:M.K≤16){v:List Nat}(hv:M.Least v):∃x,x <+: v∧T x:=by
 obtain ⟨hval,hdif,hmin⟩:=hv;have key:∀n (p:List Nat),p.length=n→p <+: v→(∃x,x <+: v∧T x)∨(M.difL p=0∧∃u∈E,code u≤code p∧M.run u=M.run p):=by
  intro n
  induction n with
  | zero =>
   intro p hp hpv;obtain rfl:=List.length_eq_zero_iff.1 hp
   rcases S.first with h | h
   ·exact .inl ⟨[],hpv,h⟩
   ·exact .inr h
  | succ n ih =>
   intro p hp hpv
   rcases cO p with rfl | ⟨q,i,rfl⟩
   ·simp at hp
   have hqv:q <+: v:=(List.prefix_append q [i]).trans hpv
   rcases ih q (by simpa using hp) hqv with h | ⟨_,u,hu,hle,hrun⟩
   ·exact .inl h
   have hpval:M.Valid (q++[i]):=fun j hj=>hval j (hpv.subset hj)
   obtain ⟨hq,hi⟩:=M.valid_snoc.1 hpval;have hne:¬code u<code q:=by
    intro hlt;obtain ⟨r,hr⟩:=hpv;have hr':v=q++([i]++ r):=(by rw [←hr];simp)
    have hlt2:code (u++([i]++ r))<code v:=(by rw [hr'];exact aB1 hlt _)
    have hval2:M.Valid (u++([i]++ r)):=fun j hj=>by
     rcases List.mem_append.1 hj with h | h
     ·exact S.valid u hu j h
     ·exact hval j (by rw [hr'];exact List.mem_append.2 (.inr h))
    have hd2:M.difL (u++([i]++ r))=M.difL v:=by
     rcases cO r with rfl | ⟨t,k,rfl⟩
     ·rw [hr'];simp only [List.append_nil,M.difL_snoc,hrun]
     ·rw [hr']
      rw [show u++([i]++ (t++[k]))=(u++([i]++ t))++ [k] by simp,show q++([i]++ (t++[k]))=(q++([i]++ t))++ [k] by simp,M.difL_snoc,M.difL_snoc,M.run_app hrun]
    have:=hmin _ hval2 (by rw [hd2];exact hdif)
    omega
   obtain rfl:u=q:=aCM _ u q rfl (dig_of_valid hK (S.valid u hu)) (dig_of_valid hK hq) (by omega)
   rcases S.next u hu i hi with h | h
   ·exact .inl ⟨_,hpv,h⟩
   ·exact .inr h
 rcases key _ v rfl (List.prefix_refl v) with h | ⟨h,_⟩
 ·exact h
 ·exact absurd h hdif
def Says (M:Duo) (same:Bool) (reached:Nat) (trace:List Nat) (d:Nat):Prop :=
 (same=true∧trace=[]∧d=0∧(∀v,M.Valid v→M.difL v=0)∧∃L:List (Nat×Nat),L.Nodup∧L.length=reached∧∀p,p∈L↔M.Reach p)∨
 (same=false∧reached=0∧M.Least trace∧d=M.difL trace)
theorem Search.differs {E:List (List Nat)}{T:List Nat→Prop}(S:Search M E T) (hK:M.K≤16){x:List Nat}(hx:M.Valid x) (hd:M.difL x≠0) (hmin:∀y,T y→code x≤code y):M.Says false 0 x (M.difL x):=by
 refine .inr ⟨rfl,rfl,⟨hx,hd,fun v hv hdv=>?_⟩,rfl⟩;obtain ⟨z,hz⟩:=pF hv hdv;obtain ⟨y,hy,hT⟩:=S.some_left hK hz
 exact Nat.le_trans (hmin y hT) (Nat.le_trans (rB hy) (hz.2.2 v hv hdv))
theorem Search.same {E:List (List Nat)}{T:List Nat→Prop}(S:Search M E T) (hK:M.K≤16) (hT:∀y,¬T y):M.Says true E.length [] 0:=by
 refine .inl ⟨rfl,rfl,rfl,fun v hv=>?_,E.map M.run,S.nodup,by simp,fun p=>⟨fun h=>?_,fun ⟨u,hu,hp⟩=>?_⟩⟩
 ·by_cases hd:M.difL v=0
  ·exact hd
  ·obtain ⟨z,hz⟩:=pF hv hd
   obtain ⟨y,_,h⟩:=S.some_left hK hz
   exact absurd h (hT y)
 ·obtain ⟨u,hu,rfl⟩:=List.mem_map.1 h
  exact ⟨u,S.valid u hu,rfl⟩
 ·subst hp
  suffices h:∀n (u:List Nat),u.length=n→M.Valid u→∃x∈E,M.run x=M.run u by
   obtain ⟨x,hx,e⟩:=h _ u rfl hu
   exact List.mem_map.2 ⟨x,hx,e⟩
  intro n
  induction n with
  | zero =>
   intro u hn _;obtain rfl:=List.length_eq_zero_iff.1 hn
   rcases S.first with h | ⟨_,x,hx,_,e⟩
   ·exact absurd h (hT _)
   ·exact ⟨x,hx,e⟩
  | succ n ih =>
   intro u hn hu
   rcases cO u with rfl | ⟨q,i,rfl⟩
   ·simp at hn
   obtain ⟨hq,hi⟩:=M.valid_snoc.1 hu;obtain ⟨x,hx,e⟩:=ih q (by simpa using hn) hq
   rcases S.next x hx i hi with h | ⟨_,y,hy,_,e2⟩
   ·exact absurd h (hT _)
   ·exact ⟨y,hy,by rw [e2,M.run_snoc,M.run_snoc,e]⟩
theorem says_one (hK:M.K≤16){s s':Bool}{r r':Nat}{t t':List Nat}{d d':Nat}(h:M.Says s r t d) (h':M.Says s' r' t' d'):s=s'∧r=r'∧t=t'∧d=d':=by
 rcases h with ⟨rfl,rfl,rfl,hall,L,hL,rfl,hm⟩ | ⟨rfl,rfl,hl,rfl⟩<;> rcases h' with ⟨rfl,rfl,rfl,hall',L',hL',rfl,hm'⟩ | ⟨rfl,rfl,hl',rfl⟩
 ·refine ⟨rfl,?_,rfl,rfl⟩
  have p:List.Perm L L':=(List.perm_ext_iff_of_nodup hL hL').2 fun a=>(hm a).trans (hm' a).symm
  exact p.length_eq
 ·exact absurd (hall _ hl'.1) hl'.2.1
 ·exact absurd (hall' _ hl.1) hl.2.1
 ·have e:t=t':=aCM _ t t' rfl (dig_of_valid hK hl.1) (dig_of_valid hK hl'.1) (Nat.le_antisymm (hl.2.2 _ hl'.1 hl'.2.1) (hl'.2.2 _ hl.1 hl.2.1))
  exact ⟨rfl,rfl,e,by rw [e]⟩
end Duo
end Go.Proofs.YtgpaajdfkekjiaaGreatDoor
