/-
  A part of the proof of the statement All: texts of ours, made small by program (blanks, names).
-/
import Derived.Test.YtgpaajdfkekjiaaGreatDoorQm
import Derived.Test.YtgpaajdfkekjiaaGreatDoorPj
import Derived.Test.YtgpaajdfkekjiaaGreatDoorPi
import Derived.Test.YtgpaajdfkekjiaaGreatDoorPg
namespace Go.Proofs.YtgpaajdfkekjiaaGreatDoor
set_option maxHeartbeats 8000000
set_option maxRecDepth 100000
open Go.RowKit
theorem hidN {p:Prop}(h:p):Hid p:=h
theorem kF (R:List UInt8) (a b:Nat):(⟨R.toArray⟩:ByteArray).extract a b=⟨((R.drop a).take (b - a)).toArray⟩:=by
 apply ByteArray.ext
 rw [ByteArray.data_extract]
 show R.toArray.extract a b=_
 simp [List.extract_eq_take_drop]
theorem aKN (R:List UInt8) (a b:Nat) (hb:R.length≤b):(⟨R.toArray⟩:ByteArray).extract a b=⟨(R.drop a).toArray⟩:=by
 rw [kF,List.take_of_length_le (by rw [List.length_drop];omega)]
theorem dA {w:World}{base e size:Nat}{v:Value}{n:Nat}{xs:List Value}(h:w.ownsRow base e size v n xs):∃a c,v=.slice a n c:=by
 rcases h.2 with ⟨h',h0⟩ | ⟨g,cap,cur,hv,_⟩
 ·exact ⟨none,0,by rw [h',h0]⟩
 ·exact ⟨_,_,hv⟩
def aKD (M:List UInt8) (c:Nat) (R:List UInt8) (line rb:Nat) (w:World) (e:Ending) (w':World):Prop :=
 Span rb (rb+1) w w'∧((∃(ns:List Nat) (a:Option Addr) (cap:Nat) (R':List UInt8),Got M c R ns R'∧(∀n∈ns,n<1000000)∧RdAt w' rb R' (line+1)∧R'.length≤R.length∧e=.returned (.tuple #[.slice a ns.length cap,.bool true])∧w'.ownsRow w.heap.size 3 1 (.slice a ns.length cap) ns.length (aP ns))∨
  (∃(R':List UInt8) (a:Option Addr) (n cap:Nat),dC M c R=none∧RdAt w' rb R' (line+1)∧e=.returned (.tuple #[.slice a n cap,.bool false])))
def Gone (l:List UInt8) (j fr:Nat) (outs:List Nat):Prop :=
 (j≤l.length∧fr≤j∧l.take fr=pre outs∧(32:UInt8) ∉ (l.drop fr).take (j - fr))∨(j=l.length+1∧∃ps n,outs=ps++[n]∧l=pre ps++Lib.decDigits n)
theorem iT {l:List UInt8}{fr j:Nat}(h:fr≤j):l.take j=l.take fr++(l.drop fr).take (j - fr):=by
 rw [←List.take_append_drop fr (l.take j),List.take_take,Nat.min_eq_left h,List.drop_take]
theorem aFG {l:List UInt8}{j fr:Nat}{outs:List Nat}(hj:j<l.length) (hf:fr≤j) (ht:l.take fr=pre outs) (h32:(32:UInt8) ∉ (l.drop fr).take (j - fr)) (hne:l[j]≠32):Gone l (j+1) fr outs:=by
 refine .inl ⟨by omega,by omega,ht,?_⟩;rw [show j+1 - fr=(j - fr)+1 by omega,List.take_add_one];simp only [List.mem_append,not_or];refine ⟨h32,?_⟩;rw [List.getElem?_drop,show fr+(j - fr)=j by omega,List.getElem?_eq_getElem hj]
 simpa using Ne.symm hne
theorem aFH {l:List UInt8}{j fr:Nat}{outs:List Nat}{n:Nat}(hj:j<l.length) (hf:fr≤j) (ht:l.take fr=pre outs) (hX:(l.drop fr).take (j - fr)=Lib.decDigits n) (h32:l[j]=32):Gone l (j+1) (j+1) (outs++[n]):=by
 refine .inl ⟨by omega,by omega,?_,by simp⟩;rw [List.take_add_one,iT hf,ht,hX,aD4,List.getElem?_eq_getElem hj,h32]
 rfl
theorem aFF {l:List UInt8}{j fr:Nat}{outs:List Nat}{n:Nat}(hj:j=l.length) (hf:fr≤j) (ht:l.take fr=pre outs) (hX:(l.drop fr).take (j - fr)=Lib.decDigits n) (fr':Nat):Gone l (j+1) fr' (outs++[n]):=by
 subst hj;refine .inr ⟨rfl,outs,n,rfl,?_⟩;rw [←ht,←hX,←iT hf,List.take_length]
theorem aHB {l:List UInt8}{j fr:Nat}{outs:List Nat}(hj:j≤l.length) (hf:fr≤j) (ht:l.take fr=pre outs) (hb:∀h:j<l.length,l[j]=32):l=pre outs++(l.drop fr).take (j - fr)∨∃b,l=pre outs++(l.drop fr).take (j - fr)++ 32 :: b:=by
 by_cases h:j<l.length
 ·refine .inr ⟨l.drop (j+1),?_⟩
  rw [←ht,←iT hf,←hb h,←List.drop_eq_getElem_cons h,List.take_append_drop]
 ·refine .inl ?_
  rw [←ht,←iT hf,List.take_of_length_le (by omega)]
theorem aII {M R:List UInt8}{k:Nat}(hk:k<R.length) (h10:R[k]=10) (hM:M.length≤k) (hm:R.take M.length=M):R=M++(R.drop M.length).take (k - M.length)++ 10 :: R.drop (k+1):=by
 have h1:=iT (l:=R) hM;rw [hm] at h1;rw [←h1,←h10,←List.drop_eq_getElem_cons hk,List.take_append_drop]
theorem gV (M R:List UInt8) (c line rb:Nat) (w:World) (hr:RdAt w rb R line) (hR:R.length≤1000) (hM:M.length≤4) (hM10:(10:UInt8) ∉ M) (hc:0<c) (hl:line≤100) :
  Calls Tryz.prog 45 #[.pointer (some ⟨rb,0,none⟩),.string ⟨M.toArray⟩,.int .i64 c] w (aKD M c R line rb w):=by
 have hcast:((line+1:Nat):Int)=(line:Int)+1:=by omega
 obtain ⟨w1,hw1⟩:∃w1,w1=w.setCell ⟨rb,1,none⟩ (.int .i64 ((line:Int)+1)):=⟨_,rfl⟩
 have hn:RdAt w1 rb R (line+1):=by rw [hw1,←hcast];exact hr.next
 have hsp:Span rb (rb+1) w w1:=by rw [hw1];exact Span.set1 _ _ _ _
 have s1:w1.heap.size=w.heap.size:=by rw [hw1,Deep.nblk_setCell]
 have c0:=hr.c0;have c1:=hr.c1;have f1:=hr.f1;have hcR:((⟨R.toArray⟩:ByteArray).size:Int)=R.length:=by rw [rA]
 have hcM:((⟨M.toArray⟩:ByteArray).size:Int)=M.length:=by rw [rA]
 clear hcast
 go_enter Tryz.func45,Tryz.ntmps45
 go_wp2_with fail
 rw [←hw1];clear hw1 c0 c1 f1 hr;have hn0:=hn.c0;have hf0:=hn.f0
 go_loopw [8] (fun i wr=>∃k:Nat,k≤R.length∧i=.int .i64 k∧(10:UInt8) ∉ R.take k∧wr=w1) (fun i _=>R.length - (intOf i).toNat)
 case atStart=>exact ⟨0,Nat.zero_le _,rfl,by simp,rfl⟩
 case round =>
  obtain ⟨k,hk,rfl,hno,hwr⟩:=hrel;subst hwr
  by_cases hk2:k<R.length
  ·by_cases h10:R[k]=10
   ·have g1:((((⟨R.toArray⟩:ByteArray)[k]'(by show k<R.toArray.size;simpa using hk2)).toNat:Int) != 10)=false:=by rw [bget hk2,h10];rfl
    have HR0:R=R.take k++10 :: R.drop (k+1):=by rw [←h10,←List.drop_eq_getElem_cons hk2,List.take_append_drop]
    by_cases hkM:k<M.length
    ·have LN:Hid (dC M c R=none):=by
      show _=_
      rw [HR0];refine lK hc hM10 hno (fun e=>?_);have:=congrArg List.length e;rw [List.length_take,List.length_take] at this
      omega
     clear HR0 h10 hno;go_wp2
     go_ret2
     exact ⟨hsp,.inr ⟨R,none,0,0,LN.out,hn,rfl⟩⟩
    ·by_cases hmk:R.take M.length=M
     ·have HR1:=hidN (aII hk2 h10 (by omega) hmk)
      obtain ⟨l,hl0⟩:∃l,l=(R.drop M.length).take (k - M.length):=⟨_,rfl⟩
      obtain ⟨rest,hrest⟩:∃r,r=R.drop (k+1):=⟨_,rfl⟩
      have lenl:l.length≤1000:=(by rw [hl0,List.length_take,List.length_drop];omega)
      have lenr:rest.length≤R.length:=(by rw [hrest,List.length_drop];omega)
      have no10:(10:UInt8) ∉ l:=fun h=>hno (List.mem_of_mem_drop (i:=M.length) (by rw [List.drop_take,←hl0];exact h))
      have N10:=hidN no10;have hE0:(⟨R.toArray⟩:ByteArray).extract 0 M.length=⟨(R.take M.length).toArray⟩:=(by rw [kF];simp)
      have hEq:(R.take M.length==M)=true:=(by simp [hmk])
      have hE1:(⟨R.toArray⟩:ByteArray).extract M.length k=⟨l.toArray⟩:=(by rw [kF,hl0])
      have hE2:(⟨R.toArray⟩:ByteArray).extract (k+1) R.length=⟨rest.toArray⟩:=(by rw [aKN _ _ _ (Nat.le_refl _),hrest])
      have hcl:((⟨l.toArray⟩:ByteArray).size:Int)=l.length:=(by rw [rA])
      rw [←hl0,←hrest] at HR1;have hkR:((k:Int)==(R.length:Int))=false:=(by simp;omega)
      have hkR2:¬(k:Int)=(R.length:Int):=(by omega)
      have hMR:M.length≤R.length:=(by omega)
      clear HR0 h10 hno hmk hl0 hrest no10
      go_wp2_with fail
      clear hkR hkR2 hMR;obtain ⟨wa,rfl⟩:∃wa,wa=wr:=⟨_,rfl⟩
      obtain ⟨w3,hw3⟩:∃w3,w3=wa.setCell ⟨rb,0,none⟩ (.string ⟨rest.toArray⟩):=⟨_,rfl⟩
      have hn3:RdAt w3 rb rest (line+1):=(by rw [hw3];exact hn.left)
      have hsp3:Span rb (rb+1) w w3:=(by rw [hw3];exact hsp.trans (Span.set1 _ _ _ _))
      have s3:w3.heap.size=w.heap.size:=(by rw [hw3,Deep.nblk_setCell,s1])
      obtain ⟨iO,hiO,zO0,zO1,zO2⟩:=info_parts Tryz.infoInt;rw [←hw3];clear hw3 hE0 hE1 hE2 hEq g1 hcM hn hsp hn0 hf0 s1
      go_loopw [10,11,12] (fun v f i wr=>∃(j fr:Nat) (outs:List Nat),j≤l.length+1∧i=.int .i64 j∧f=.int .i64 fr∧fr≤j∧Gone l j fr outs∧outs.length≤j∧(∀n∈outs,n<1000000)∧wr.ownsRow w.heap.size 3 1 v outs.length (aP outs)∧Below w3.heap.size w3 wr) (fun _ _ i _=>l.length+1 - (intOf i).toNat)
      case atStart=>exact ⟨0,0,[],by omega,rfl,rfl,Nat.le_refl _,.inl ⟨by omega,Nat.le_refl _,by simp [pre],by simp⟩,Nat.le_refl _,by simp,⟨rfl,.inl ⟨rfl,rfl⟩⟩,Below.refl _ _⟩
      case round =>
       obtain ⟨j,fr,outs,hj,rfl,rfl,hfr,hG,hol,hsm,own,bel⟩:=hrel;obtain ⟨v,hv⟩:∃v,v=u10:=⟨_,rfl⟩
       subst hv
       by_cases hj1:j≤l.length
       ·obtain ⟨ht,h32⟩:l.take fr=pre outs∧(32:UInt8) ∉ (l.drop fr).take (j - fr):=by
         rcases hG with ⟨_,_,h1,h2⟩ | ⟨h,_⟩
         ·exact ⟨h1,h2⟩
         ·omega
        by_cases hj2:j<l.length
        ·by_cases hb:l[j]=32
         ·have g1:((((⟨l.toArray⟩:ByteArray)[j]'(by show j<l.toArray.size;simpa using hj2)).toNat:Int) != 32)=false:=by rw [bget hj2,hb];rfl
          obtain ⟨X,hX⟩:∃X,X=(l.drop fr).take (j - fr):=⟨_,rfl⟩
          rw [←hX] at h32;have hEX:(⟨l.toArray⟩:ByteArray).extract fr j=⟨X.toArray⟩:=(by rw [kF,hX])
          have lenX:X.length≤2000:=(by rw [hX,List.length_take,List.length_drop];omega)
          have W1:=hidN (aHB hj1 hfr ht (fun _=>hb));rw [←hX] at W1;have H32:=hidN h32;have HG:Hid (∀n,X=Lib.decDigits n→Gone l (j+1) (j+1) (outs++[n])):=fun n hn=>aFH hj2 hfr ht (hX▸hn) hb
          have HS:=hidN hsm;clear ht h32 hX hG hsm
          go_wp2_with fail
          refine (nG X wr lenX).mono ?_;rintro e w' ⟨⟨d,rfl⟩,hres⟩;have own4:(wr.drewN d).ownsRow w.heap.size 3 1 v outs.length (aP outs):=aL own (fun q hq=>rfl);have bel4:Below w3.heap.size w3 (wr.drewN d):=below_drewN bel d
          rcases hres with ⟨n,hXn,hn6,rfl⟩ | ⟨rfl,hno⟩
          ·have HG1:=hidN (HG.out n hXn)
           have hn0:¬((n:Int)<0):=(by omega)
           have own5:=own4.alloc (.cells #[.int .i64 (n:Int)] 3);obtain ⟨w4,hw4⟩:∃w4,w4=wr.drewN d:=⟨_,rfl⟩
           rw [←hw4] at own4 own5 bel4;rw [←hw4];have s4:=bel4.size;clear hw4 hXn HG own bel
           go_wp2_with (at_builtin;refine wpList_append_lies _ rfl (.tmp 104) (.tmp 106) 32 rfl w.heap.size 3 iO (.int .i64 0) 1 8 Tryz.underlying32 hiO zO0 zO1 zO2 rfl (by omega) _ _ _ rfl own5 ⟨w4.heap.size,0,none⟩ 1 1 [.int .i64 (n:Int)] rfl rfl (cell_one_new _ _ _) (by simp;rfl) (by omega) (by unfold maxLen;omega) (by omega) (by simp;omega) _ rfl ?_)
           intro g' cap' w5 hown5 hgrow hat hlt5;have B5:Below w3.heap.size w3 w5:=(bel4.alloc bel4.size _).grown hgrow (by simp;omega) (fun q hq=>by have:=(own4.lt q hq).1;omega);have O5:Hid (w5.ownsRow w.heap.size 3 1 (.slice (some ⟨g',0,none⟩) (outs.length+1) cap') (outs++[n]).length (aP (outs++[n]))):=by
            show _
            rw [aZ,List.length_append]
            exact hown5
           clear hgrow hat hlt5 hown5 own4 own5;go_wp2
           go_roundw
           case rel =>
            refine ⟨j+1,j+1,outs++[n],by omega,by go_num,by go_num,Nat.le_refl _,HG1.out,by rw [List.length_append];simp;omega,fun m hm=>?_,O5.out,B5⟩
            rcases List.mem_append.1 hm with h | h
            ·exact HS.out m h
            ·simp only [List.mem_singleton] at h
             subst h
             exact hn6
           case measure=>simp [intOf];omega
          ·have LN:Hid (dC M c R=none):=by
            show _=_
            rw [HR1.out]
            exact lM hc N10.out W1.out H32.out hno
           go_wp2
           go_ret2
           exact ⟨hsp3.trans (Span.of_below bel4),.inr ⟨rest,none,0,0,LN.out,hn3.below bel4,rfl⟩⟩
         ·have g1:((((⟨l.toArray⟩:ByteArray)[j]'(by show j<l.toArray.size;simpa using hj2)).toNat:Int) != 32)=true:=by
           rw [bget hj2,bne_iff_ne];intro e
           exact hb (UInt8.toNat_inj.1 (by show l[j].toNat=32;omega))
          have HG:=hidN (aFG hj2 hfr ht h32 hb);have HS:=hidN hsm;clear ht h32 hG hb hsm;go_wp2
          go_roundw
          case rel=>exact ⟨j+1,fr,outs,by omega,by go_num,rfl,by omega,HG.out,by omega,HS.out,own,bel⟩
          case measure=>simp [intOf];omega
        ·have hjl:j=l.length:=by omega
         obtain ⟨X,hX⟩:∃X,X=(l.drop fr).take (j - fr):=⟨_,rfl⟩
         rw [←hX] at h32;have hEX:(⟨l.toArray⟩:ByteArray).extract fr j=⟨X.toArray⟩:=(by rw [kF,hX])
         have lenX:X.length≤2000:=(by rw [hX,List.length_take,List.length_drop];omega)
         have W1:=hidN (aHB hj1 hfr ht (fun h=>absurd h hj2));rw [←hX] at W1;have H32:=hidN h32;have HG:Hid (∀n,X=Lib.decDigits n→Gone l (j+1) (j+1) (outs++[n])):=fun n hn=>aFF hjl hfr ht (hX▸hn) _
         have HS:=hidN hsm;clear ht h32 hX hG hsm hjl
         go_wp2_with fail
         refine (nG X wr lenX).mono ?_;rintro e w' ⟨⟨d,rfl⟩,hres⟩;have own4:(wr.drewN d).ownsRow w.heap.size 3 1 v outs.length (aP outs):=aL own (fun q hq=>rfl);have bel4:Below w3.heap.size w3 (wr.drewN d):=below_drewN bel d
         rcases hres with ⟨n,hXn,hn6,rfl⟩ | ⟨rfl,hno⟩
         ·have HG1:=hidN (HG.out n hXn)
          have hn0:¬((n:Int)<0):=(by omega)
          have own5:=own4.alloc (.cells #[.int .i64 (n:Int)] 3);obtain ⟨w4,hw4⟩:∃w4,w4=wr.drewN d:=⟨_,rfl⟩
          rw [←hw4] at own4 own5 bel4;rw [←hw4];have s4:=bel4.size;clear hw4 hXn HG own bel
          go_wp2_with (at_builtin;refine wpList_append_lies _ rfl (.tmp 104) (.tmp 106) 32 rfl w.heap.size 3 iO (.int .i64 0) 1 8 Tryz.underlying32 hiO zO0 zO1 zO2 rfl (by omega) _ _ _ rfl own5 ⟨w4.heap.size,0,none⟩ 1 1 [.int .i64 (n:Int)] rfl rfl (cell_one_new _ _ _) (by simp;rfl) (by omega) (by unfold maxLen;omega) (by omega) (by simp;omega) _ rfl ?_)
          intro g' cap' w5 hown5 hgrow hat hlt5;have B5:Below w3.heap.size w3 w5:=(bel4.alloc bel4.size _).grown hgrow (by simp;omega) (fun q hq=>by have:=(own4.lt q hq).1;omega);have O5:Hid (w5.ownsRow w.heap.size 3 1 (.slice (some ⟨g',0,none⟩) (outs.length+1) cap') (outs++[n]).length (aP (outs++[n]))):=by
           show _
           rw [aZ,List.length_append]
           exact hown5
          clear hgrow hat hlt5 hown5 own4 own5;go_wp2
          go_roundw
          case rel =>
           refine ⟨j+1,j+1,outs++[n],by omega,by go_num,by go_num,Nat.le_refl _,HG1.out,by rw [List.length_append];simp;omega,fun m hm=>?_,O5.out,B5⟩
           rcases List.mem_append.1 hm with h | h
           ·exact HS.out m h
           ·simp only [List.mem_singleton] at h
            subst h
            exact hn6
          case measure=>simp [intOf];omega
         ·have LN:Hid (dC M c R=none):=by
           show _=_
           rw [HR1.out]
           exact lM hc N10.out W1.out H32.out hno
          go_wp2
          go_ret2
          exact ⟨hsp3.trans (Span.of_below bel4),.inr ⟨rest,none,0,0,LN.out,hn3.below bel4,rfl⟩⟩
       ·obtain ⟨ps,m,ho,hl9⟩:∃ps m,outs=ps++[m]∧l=pre ps++Lib.decDigits m:=by
         rcases hG with ⟨h,_⟩ | ⟨_,h⟩
         ·omega
         ·exact h
        have hol2:Hid (outs.length=ps.length+1):=(by show _=_;rw [ho];simp)
        have HO:=hidN ho;have HL:=hidN hl9;have HS:=hidN hsm;obtain ⟨oa,oc,rfl⟩:=dA own;clear hG ho hl9 hsm
        by_cases hcnt:outs.length=c
        ·have hcI:((outs.length:Int)==(c:Int))=true:=by simp;omega
         go_wp2
         go_ret2
         refine ⟨hsp3.trans (Span.of_below bel),.inl ⟨outs,oa,oc,rest,⟨hcnt,?_⟩,HS.out,hn3.below bel,lenr,rfl,own⟩⟩;rw [HR1.out,HO.out]
         exact aCV HL.out
        ·have hcI:((outs.length:Int)==(c:Int))=false:=by simp;omega
         have LN:Hid (dC M c R=none):=by
          show _=_
          rw [HR1.out]
          exact rV hc HL.out (by rw [←hol2.out];exact hcnt)
         go_wp2
         go_ret2
         exact ⟨hsp3.trans (Span.of_below bel),.inr ⟨rest,oa,_,oc,LN.out,hn3.below bel,rfl⟩⟩
     ·have LN:Hid (dC M c R=none):=by
       show _=_
       rw [HR0];refine lK hc hM10 hno (fun e=>hmk ?_);rw [List.take_take,Nat.min_eq_left (by omega)] at e
       exact e
      have hE0:(⟨R.toArray⟩:ByteArray).extract 0 M.length=⟨(R.take M.length).toArray⟩:=(by rw [kF];simp)
      have hNe:(R.take M.length==M)=false:=(by simp [hmk])
      clear HR0 h10 hno hmk;go_wp2
      go_ret2
      exact ⟨hsp,.inr ⟨R,none,0,0,LN.out,hn,rfl⟩⟩
   ·have g1:((((⟨R.toArray⟩:ByteArray)[k]'(by show k<R.toArray.size;simpa using hk2)).toNat:Int) != 10)=true:=by
     rw [bget hk2,bne_iff_ne];intro e
     exact h10 (UInt8.toNat_inj.1 (by show R[k].toNat=10;omega))
    have HNO:Hid ((10:UInt8) ∉ R.take (k+1)):=by
     show (10:UInt8) ∉ _
     rw [List.take_add_one,List.getElem?_eq_getElem hk2];simp only [Option.toList_some,List.mem_append,List.mem_singleton,not_or]
     exact ⟨hno,fun e=>h10 e.symm⟩
    clear h10 hno;go_wp2
    go_roundw
    case rel=>exact ⟨k+1,by omega,by go_num,HNO.out,trivial⟩
    case measure=>simp [intOf];omega
  ·have hkR:R.take k=R:=List.take_of_length_le (by omega)
   rw [hkR] at hno;have LN:=hidN (wK (mark:=M) (count:=c) hno);clear hkR hno;obtain rfl:k=R.length:=(by omega)
   go_wp2
   go_ret2
   exact ⟨hsp,.inr ⟨R,none,0,0,LN.out,hn,rfl⟩⟩
end Go.Proofs.YtgpaajdfkekjiaaGreatDoor
namespace Go.Proofs.YtgpaajdfkekjiaaGreatDoor
set_option maxHeartbeats 8000000
set_option maxRecDepth 100000
open Go.RowKit
theorem Tryz.infoLq:(Tryz.prog.info? 54).map (fun i=>(i.zero,i.size,i.bytes))=some (some (.agg #[.int .i64 0,.int .i64 0]),2,16):=by kernel_rfl
theorem Tryz.infoGq:(Tryz.prog.info? 56).map (fun i=>(i.zero,i.size,i.bytes))=some (some (.agg #[.int .i64 0,.int .i64 0]),2,16):=by kernel_rfl
theorem aK3 (w:World) (u v:Value) (t:TypeId):∀j x,[u,v][j]?=some x→(w.alloc (.cells #[u,v] t)).drew.cell? ((⟨w.heap.size,0,none⟩:Addr).add j)=some x :=
 fun j x hx=>World.news_of_block (w:=(w.alloc (.cells #[u,v] t)).drew) (heap_alloc_new w _) j x hx
theorem aLZ (w:World) (v:Value) (t:TypeId):∀j x,[v][j]?=some x→(w.alloc (.cells #[v] t)).drew.cell? ((⟨w.heap.size,0,none⟩:Addr).add j)=some x :=
 fun j x hx=>World.news_of_block (w:=(w.alloc (.cells #[v] t)).drew) (heap_alloc_new w _) j x hx
structure QInv (wr:World) (C B:Nat) (a:Value) (lv gv ov:Value) (ls gs:List (Int×Int)) (os:List Int):Prop where
 cb:C<B
 bs:B≤wr.heap.size
 boxC:wr.heap[C]?=some (.cells #[a,lv,gv,ov] 34 (0,0))
 ownL:wr.ownsRow B 54 2 lv ls.length (flat ls)
 ownG:wr.ownsRow B 56 2 gv gs.length (flat gs)
 ownO:wr.ownsRow B 3 1 ov os.length (ivs os)
 lg:∀q,lv.ownBlock=some q→gv.ownBlock≠some q
 lo:∀q,lv.ownBlock=some q→ov.ownBlock≠some q
 go':∀q,gv.ownBlock=some q→ov.ownBlock≠some q
section
variable {wr wr':World}{C B:Nat}{a lv gv ov:Value}{ls gs:List (Int×Int)}{os:List Int}
theorem gE {base e size:Nat}{v:Value}{n:Nat}{xs:List Value}(hA:C<base) (h:wr'.ownsRow base e size v n xs) (i:Nat) (x:Value):(wr'.setCell ⟨C,i,none⟩ x).ownsRow base e size v n xs :=
 aL h (fun q hq=>Deep.blk_setCell_other _ _ _ _ (show q≠C by have:=h.lt q hq;omega))
theorem QInv.addL (I:QInv wr C B a lv gv ov ls gs os){g' cap':Nat}{x y:Int}(own':wr'.ownsRow B 54 2 (.slice (some ⟨g',0,none⟩) (ls.length+1) cap') (ls.length+1) (flat ls++[.int .i64 x,.int .i64 y])) (G:Grew wr wr' lv g') :
  QInv (wr'.setCell ⟨C,1,none⟩ (.slice (some ⟨g',0,none⟩) (ls.length+1) cap')) C B a (.slice (some ⟨g',0,none⟩) (ls.length+1) cap') gv ov (ls++[(x,y)]) gs os:=by
 have h1:=I.cb;have h2:=I.bs;have hs:=G.grow.size;refine ⟨I.cb,by rw [Deep.nblk_setCell];omega,aM ((G.blk C (by omega) (fun e=>by have:=(I.ownL.lt _ e).1;omega)).trans I.boxC) _ _,?_,gE h1 (dE I.ownG G (fun q e e'=>I.lg q e' e)) _ _,gE h1 (dE I.ownO G (fun q e e'=>I.lo q e' e)) _ _,?_,?_,I.go'⟩
 ·rw [fS,List.length_append];exact gE h1 own' _ _
 ·intro q hq
  simp only [Value.ownBlock,Option.some.injEq] at hq;subst hq
  exact apart I.ownG G (fun q e e'=>I.lg q e' e)
 ·intro q hq
  simp only [Value.ownBlock,Option.some.injEq] at hq;subst hq
  exact apart I.ownO G (fun q e e'=>I.lo q e' e)
theorem QInv.addG (I:QInv wr C B a lv gv ov ls gs os){g' cap':Nat}{x y:Int}(own':wr'.ownsRow B 56 2 (.slice (some ⟨g',0,none⟩) (gs.length+1) cap') (gs.length+1) (flat gs++[.int .i64 x,.int .i64 y])) (G:Grew wr wr' gv g') :
  QInv (wr'.setCell ⟨C,2,none⟩ (.slice (some ⟨g',0,none⟩) (gs.length+1) cap')) C B a lv (.slice (some ⟨g',0,none⟩) (gs.length+1) cap') ov ls (gs++[(x,y)]) os:=by
 have h1:=I.cb;have h2:=I.bs;have hs:=G.grow.size;refine ⟨I.cb,by rw [Deep.nblk_setCell];omega,aM ((G.blk C (by omega) (fun e=>by have:=(I.ownG.lt _ e).1;omega)).trans I.boxC) _ _,gE h1 (dE I.ownL G I.lg) _ _,?_,gE h1 (dE I.ownO G (fun q e e'=>I.go' q e' e)) _ _,?_,I.lo,?_⟩
 ·rw [fS,List.length_append];exact gE h1 own' _ _
 ·intro q hq e
  simp only [Value.ownBlock,Option.some.injEq] at e;subst e
  exact apart I.ownL G I.lg hq
 ·intro q hq
  simp only [Value.ownBlock,Option.some.injEq] at hq;subst hq
  exact apart I.ownO G (fun q e e'=>I.go' q e' e)
theorem QInv.addO (I:QInv wr C B a lv gv ov ls gs os){g' cap':Nat}{x:Int}(own':wr'.ownsRow B 3 1 (.slice (some ⟨g',0,none⟩) (os.length+1) cap') (os.length+1) (ivs os++[.int .i64 x])) (G:Grew wr wr' ov g') :
  QInv (wr'.setCell ⟨C,3,none⟩ (.slice (some ⟨g',0,none⟩) (os.length+1) cap')) C B a lv gv (.slice (some ⟨g',0,none⟩) (os.length+1) cap') ls gs (os++[x]):=by
 have h1:=I.cb;have h2:=I.bs;have hs:=G.grow.size;refine ⟨I.cb,by rw [Deep.nblk_setCell];omega,aM ((G.blk C (by omega) (fun e=>by have:=(I.ownO.lt _ e).1;omega)).trans I.boxC) _ _,gE h1 (dE I.ownL G I.lo) _ _,gE h1 (dE I.ownG G I.go') _ _,?_,I.lg,?_,?_⟩
 ·rw [wF,List.length_append];exact gE h1 own' _ _
 ·intro q hq e
  simp only [Value.ownBlock,Option.some.injEq] at e;subst e
  exact apart I.ownL G I.lo hq
 ·intro q hq e
  simp only [Value.ownBlock,Option.some.injEq] at e;subst e
  exact apart I.ownG G I.go' hq
end
end Go.Proofs.YtgpaajdfkekjiaaGreatDoor
namespace Go.Proofs.YtgpaajdfkekjiaaGreatDoor
set_option maxHeartbeats 8000000
set_option maxRecDepth 100000
open Go.RowKit
theorem aA2 {w:World}{b:Nat}{tmps:Array Value}{v0 v1 v2 v3 x y:Value}(h:w.heap[b]?=some (.cells #[v0,v1,v2,v3] 34 (0,0)))
  (h2:tmps[2]?.getD undef=.pointer (some ⟨b,0,none⟩)) (h3:tmps[3]?.getD undef=x) (h4:tmps[4]?.getD undef=y) :
  (results Tryz.f16 tmps).run Tryz.prog w=.ok (.tuple #[.agg #[v0,v1,v2,v3],x,y]) w:=by
 obtain ⟨c0,c1,c2,c3⟩:=aK h
 simp [results,Tryz.results16,go_sem,h2,h3,h4,c0,c1,c2,c3]
theorem oQ {tmps:Array Value}{Q:Ending→World→Prop}{w:World}{b:Nat}{v0 v1 v2 v3 x y:Value}(h:w.heap[b]?=some (.cells #[v0,v1,v2,v3] 34 (0,0)))
  (h2:tmps[2]?.getD undef=.pointer (some ⟨b,0,none⟩)) (h3:tmps[3]?.getD undef=x) (h4:tmps[4]?.getD undef=y) (hQ:Q (.returned (.tuple #[.agg #[v0,v1,v2,v3],x,y])) w) :
  bodyPost Tryz.prog Tryz.f16 Q Exit.ret ⟨tmps,[]⟩ w:=bodyPost_ret (aA2 h h2 h3 h4) rfl hQ
theorem oH {w:World}{b:Nat}{tmps:Array Value}{v0 v1 v2 v3 x y:Value}(h:w.heap[b]?=some (.cells #[v0,v1,v2,v3] 34 (0,0)))
  (h2:tmps[2]?.getD undef=.pointer (some ⟨b,0,none⟩)) (h3:tmps[3]?.getD undef=x) (h4:tmps[4]?.getD undef=y) :
  (results Tryz.f10 tmps).run Tryz.prog w=.ok (.tuple #[.agg #[v0,v1,v2,v3],x,y]) w:=by
 obtain ⟨c0,c1,c2,c3⟩:=aK h
 simp [results,Tryz.results10,go_sem,h2,h3,h4,c0,c1,c2,c3]
theorem jQ {tmps:Array Value}{Q:Ending→World→Prop}{w:World}{b:Nat}{v0 v1 v2 v3 x y:Value}(h:w.heap[b]?=some (.cells #[v0,v1,v2,v3] 34 (0,0)))
  (h2:tmps[2]?.getD undef=.pointer (some ⟨b,0,none⟩)) (h3:tmps[3]?.getD undef=x) (h4:tmps[4]?.getD undef=y) (hQ:Q (.returned (.tuple #[.agg #[v0,v1,v2,v3],x,y])) w) :
  bodyPost Tryz.prog Tryz.f10 Q Exit.ret ⟨tmps,[]⟩ w:=bodyPost_ret (oH h h2 h3 h4) rfl hQ
end Go.Proofs.YtgpaajdfkekjiaaGreatDoor
