/-
  A part of the proof of the statement All: texts of ours, made small by program (blanks, names).
-/
import Derived.Test.YtgpaajdfkekjiaaGreatDoorQr
import Derived.Test.YtgpaajdfkekjiaaGreatDoorQu
import Derived.Test.YtgpaajdfkekjiaaGreatDoorPf
import Derived.Test.YtgpaajdfkekjiaaGreatDoorPi
import Derived.Deep.RegionHeld3
import Derived.Test.YtgpaajdfkekjiaaGreatDoorPg
import Derived.Test.YtgpaajdfkekjiaaGreatDoorPq
import Derived.Test.YtgpaajdfkekjiaaGreatDoorQb
import Derived.Test.YtgpaajdfkekjiaaGreatDoorQk
import Derived.Test.YtgpaajdfkekjiaaGreatDoorQs
import Derived.Test.YtgpaajdfkekjiaaGreatDoorQt
namespace Go.Proofs.YtgpaajdfkekjiaaGreatDoor
set_option maxHeartbeats 8000000
set_option maxRecDepth 100000
open Go.RowKit
theorem tT (n:Int) (la ga oa:Option Addr) (lc gc oc:Nat) (ls gs:List (Int×Int)) (os:List Int) (w:World)
  (hL:PairsAt w la ls) (hG:PairsAt w ga gs) (hO:IntsAt w oa os) (fL:∀i,i<ls.length→Fits (ls.getD i (0,0)).1) (fG:∀i,i<gs.length→Fits (gs.getD i (0,0)).1∧Fits (gs.getD i (0,0)).2) (fO:∀i,i<os.length→Fits (os.getD i 0)) (hr:aG n ls gs os=false) :
  Calls Tryz.prog 23 #[.agg #[.int .i64 n,.slice la ls.length lc,.slice ga gs.length gc,.slice oa os.length oc]] w fun e w' =>
   e=.returned (.tuple #[.string ⟨#[]⟩,.int .i64 2])∧Below w.heap.size w w':=by
 have bel0:Below w.heap.size w (w.alloc (.cells #[.int .i64 n,.slice la ls.length lc,.slice ga gs.length gc,.slice oa os.length oc] 34)):=(Below.refl _ _).alloc (Nat.le_refl _) _;have hL0:=hL.below bel0;have hG0:=hG.below bel0;have hO0:=hO.below bel0
 go_enter Tryz.func23,Tryz.ntmps23
 go_wp2_with (go_at_call 46;refine (eA _ hL0 hG0 hO0 fL fG fO hr).mono ?_;rintro e w1 ⟨rfl,b1⟩)
 go_ret2
 exact ⟨rfl,bel0.trans (b1.mono (by simp))⟩
theorem qX (l:List UInt8):(⟨l.toArray⟩:ByteArray).size=l.length:=by simp [ByteArray.size]
theorem rU (nb:Nat) (ns:List Nat) (xs:Array Value) (m:Nat) (V:World) (hn:V.heap[nb]?=some (.cells xs 3 (0,0))) (hxs:xs.toList=aP ns) (hm:m=ns.length)
  (h100:∀i,i<ns.length→ns.getD i 0<100) (h5:ns.length≤5) :
  Calls Tryz.prog 47 #[.slice (some ⟨nb,0,none⟩) m m] V fun e w'=>e=.returned (.string ⟨(dV ns).toArray⟩)∧Below V.heap.size V w':=by
 subst hm;have hx:xs=(aP ns).toArray:=by rw [←hxs]
 subst hx;refine aIH _ _ ns V ?_ h100 h5;refine .inr ⟨nb,0,rfl,(Array.getElem?_eq_some_iff.1 hn).1,fun i hi=>?_⟩;simp only [List.length_map] at hi;rw [Nat.zero_add,uF hn i hi]
 simp [hi]
theorem aBY (n:Nat) (la ga oa:Option Addr) (lc gc oc:Nat) (ls gs:List (Int×Int)) (os:List Int) (w:World)
  (hL:PairsAt w la ls) (hG:PairsAt w ga gs) (hO:IntsAt w oa os) (fL:∀i,i<ls.length→Fits (ls.getD i (0,0)).1) (fG:∀i,i<gs.length→Fits (gs.getD i (0,0)).1∧Fits (gs.getD i (0,0)).2) (fO:∀i,i<os.length→Fits (os.getD i 0)) (hr:aG n ls gs os=true) (s:Small n ls gs os) :
  Calls Tryz.prog 23 #[.agg #[.int .i64 n,.slice la ls.length lc,.slice ga gs.length gc,.slice oa os.length oc]] w fun e w' =>
   e=.returned (.tuple #[.string ⟨(txt n ls gs os).toArray⟩,.int .i64 0])∧Below w.heap.size w w':=by
 obtain ⟨W0,hW0⟩:∃W0,W0=w.alloc (.cells #[.int .i64 n,.slice la ls.length lc,.slice ga gs.length gc,.slice oa os.length oc] 34):=⟨_,rfl⟩
 have bel0:Below w.heap.size w W0:=by rw [hW0];exact (Below.refl _ _).alloc (Nat.le_refl _) _
 have s0:W0.heap.size=w.heap.size+1:=by rw [hW0];simp
 have HC0:Hid (∀i,W0.cell? ⟨w.heap.size,i,none⟩=#[.int .i64 n,.slice la ls.length lc,.slice ga gs.length gc,.slice oa os.length oc][i]?):=fun i=>by rw [hW0];exact cell_of_row _ _ _ _ _ _ (aB _ _ _ rfl)
 have hS:=eA W0 (lc:=lc) (gc:=gc) (oc:=oc) (hL.below bel0) (hG.below bel0) (hO.below bel0) fL fG fO hr;have hn4:=s.n4;have hl4:=s.l4;have ho4:=s.o4;have hg30:=s.g30;rw [hW0] at hS
 go_enter Tryz.func23,Tryz.ntmps23
 go_wp2_with fail
 refine hS.mono ?_;rw [←hW0];rintro e w1 ⟨rfl,b1⟩;clear hS hW0;have z1:w.heap.size<w1.heap.size:=by have:=b1.size;omega
 have HC1:Hid (∀i,w1.cell? ⟨w.heap.size,i,none⟩=#[.int .i64 n,.slice la ls.length lc,.slice ga gs.length gc,.slice oa os.length oc][i]?):=fun i=>((bZ b1).1 _ i (by omega)).trans (HC0.out i)
 have m0:=HC1.out 0;have m1:=HC1.out 1;have m2:=HC1.out 2;have m3:=HC1.out 3;obtain ⟨H0,hH0⟩:∃H0,H0=dV [n+ls.length+gs.length,n,ls.length,os.length,gs.length]:=⟨_,rfl⟩
 have hH0l:H0.length≤16:=by rw [hH0];exact eG [n+ls.length+gs.length,n,ls.length,os.length,gs.length] (all5 (by omega) (by omega) (by omega) (by omega) (by omega))
 have hWL:Calls Tryz.prog 47 #[.slice (some ⟨w1.heap.size+1,0,none⟩) 5 5] ((w1.alloc (.cells #[.int .i64 n,.slice la ls.length lc,.slice ga gs.length gc,.slice oa os.length oc] 34)).alloc (.cells #[.int .i64 (↑n+↑ls.length+↑gs.length),.int .i64 n,.int .i64 ls.length,.int .i64 os.length,.int .i64 gs.length] 3)).drew fun e w' =>
   e=.returned (.string ⟨H0.toArray⟩)∧Below w1.heap.size w1 w':=by
  rw [hH0];refine (rU (w1.heap.size+1) [n+ls.length+gs.length,n,ls.length,os.length,gs.length] #[.int .i64 (↑n+↑ls.length+↑gs.length),.int .i64 n,.int .i64 ls.length,.int .i64 os.length,.int .i64 gs.length] 5 ((w1.alloc (.cells #[.int .i64 n,.slice la ls.length lc,.slice ga gs.length gc,.slice oa os.length oc] 34)).alloc (.cells #[.int .i64 (↑n+↑ls.length+↑gs.length),.int .i64 n,.int .i64 ls.length,.int .i64 os.length,.int .i64 gs.length] 3)).drew (aB (w1.alloc _) _ _ (by simp)) (by simp [aP]) rfl (all5 (by omega) (by omega) (by omega) (by omega) (by omega)) (by simp)).mono ?_;rintro e w3 ⟨rfl,b3⟩
  exact ⟨rfl,(((Below.refl _ _).alloc (Nat.le_refl _) _).alloc (by simp) _).drew.trans (b3.mono (by show _≤(World.alloc _ _).heap.size;simp;omega))⟩
 have HT:Hid (txt n ls gs os=[97,97,103,32]++ H0++gH n++aT n ls ls.length++cM os os.length++bK (n+ls.length) gs gs.length):=by rw [hH0];rfl
 clear hH0;have hadd:∀w',(Op.stringOp .add ⟨#[97,97,103,32]⟩ ⟨H0.toArray⟩).run Tryz.prog w'=.ok (.string ((⟨#[97,97,103,32]⟩:ByteArray)++ ⟨H0.toArray⟩)) w':=fun w'=>run_string_add_sum w' _ _ (by show 4+(⟨H0.toArray⟩:ByteArray).size≤_;rw [qX];omega)
 go_wp2
 go_region_held3 (fun w'=>w'.cell? ⟨w.heap.size,0,none⟩=some (.int .i64 n)∧w'.cell? ⟨w.heap.size,1,none⟩=some (.slice la ls.length lc)∧w'.cell? ⟨w.heap.size,2,none⟩=some (.slice ga gs.length gc)∧w'.cell? ⟨w.heap.size,3,none⟩=some (.slice oa os.length oc)) (first | exact ⟨k0,k1,k2,k3⟩ | (simp [go_sem,m0,m1,m2,m3];done) | (simp [go_sem,World.cell?_alloc_past, *];done)) (first | (go_at_call 48;refine (aH6 n _ _ _ ls.length _ gs.length _ _ _ _ (by omega) (by omega) (by omega) (by omega)).mono ?_;rintro e w2 ⟨rfl,hw2⟩;have hw2:=hw2.symm;subst hw2) | (go_at_call 47;refine hWL.mono ?_;rintro e w3 ⟨rfl,b13⟩;have k0:=(b13.cell (p:=⟨w.heap.size,0,none⟩) z1).trans m0;have k1:=(b13.cell (p:=⟨w.heap.size,1,none⟩) z1).trans m1;have k2:=(b13.cell (p:=⟨w.heap.size,2,none⟩) z1).trans m2;have k3:=(b13.cell (p:=⟨w.heap.size,3,none⟩) z1).trans m3) | fail)
 go_wp2;obtain ⟨H,hH⟩:∃H,H=[97,97,103,32]++ H0:=⟨_,rfl⟩
 have hHs:(⟨#[97,97,103,32]⟩:ByteArray)++ ⟨H0.toArray⟩=⟨H.toArray⟩:=by rw [hH];exact iD [97,97,103,32] H0
 have hHl:H.length≤20:=by rw [hH];simp;omega
 rw [←hH] at HT;rw [hHs];clear hH hHs hadd hWL hH0l
 go_loopw [5,6,7] (fun st sg i wr=>∃k:Nat,k≤n∧i=.int .i64 k∧sg=.int .i64 (2*(k:Int)+2)∧st=.string ⟨(H++gH k).toArray⟩∧Below w1.heap.size w1 wr)
  (fun _ _ i _=>n - (intOf i).toNat)
 case atStart=>exact ⟨0,Nat.zero_le _,rfl,rfl,by simp [gH],b13⟩
 case round =>
  obtain ⟨k,hk,rfl,rfl,rfl,bel⟩:=hrel;clear b13 k0 k1 k2 k3;have hzr:w1.heap.size≤wr.heap.size:=bel.size;have q0:=(bel.cell (p:=⟨w.heap.size,0,none⟩) z1).trans m0;have hil:=tC k (by omega)
  by_cases hk2:k<n
  ·have hll:(dV [2*k+2]).length≤4:=eG [2*k+2] (all1 (by omega))
   have HX:Hid (H++gH (k+1)=H++gH k++dV [2*k+2]):=(by unfold Hid;simp [gH])
   obtain ⟨A,hA⟩:∃A,A=H++gH k:=⟨_,rfl⟩
   have hAl:A.length≤100:=(by rw [hA,List.length_append];omega)
   rw [←hA];rw [←hA] at HX;clear hA
   go_wp2_with (go_at_call 47;refine (rU wr.heap.size [2*k+2] #[.int .i64 (2*(k:Int)+2)] 1 _ (aB wr _ _ rfl) (by simp [aP]) rfl (all1 (by omega)) (by simp)).mono ?_;rintro e w4 ⟨rfl,b4⟩)
   go_roundw
   case rel=>exact ⟨k+1,by omega,by go_num,by go_num,by rw [HX.out,←iD],(bel.alloc hzr _).trans (b4.mono (by simp;omega))⟩
   case measure=>simp [intOf];omega
  ·obtain rfl:n=k:=by omega
   have q1:=(bel.cell (p:=⟨w.heap.size,1,none⟩) z1).trans m1;go_wp2;obtain ⟨H2,hH2⟩:∃H2,H2=H++gH n:=⟨_,rfl⟩
   have hHl2:H2.length≤40:=(by rw [hH2,List.length_append];omega)
   rw [←hH2];rw [←hH2] at HT;clear hH2 hil
   go_loopw [5,6,8] (fun st sg i wx=>∃k:Nat,k≤ls.length∧i=.int .i64 k∧sg=.int .i64 (2*((n:Int)+k)+2)∧st=.string ⟨(H2++aT n ls k).toArray⟩∧Below w1.heap.size w1 wx)
    (fun _ _ i _=>ls.length - (intOf i).toNat)
   case atStart=>exact ⟨0,Nat.zero_le _,rfl,by simp,by simp [aT],bel⟩
   case round =>
    clear hzr bel q0 q1;obtain ⟨k,hk,rfl,rfl,rfl,bel⟩:=hrel
    rename World=>wx
    have hzr:w1.heap.size≤wx.heap.size:=bel.size;have belw:Below w.heap.size w wx:=(bel0.trans (b1.mono (by omega))).trans (bel.mono (by omega));have q1:=(bel.cell (p:=⟨w.heap.size,1,none⟩) z1).trans m1;have hil:=jZ s k hk
    by_cases hk2:k<ls.length
    ·obtain ⟨b,off,rfl,hlt,hc⟩:=hL.get (by omega)
     obtain ⟨X,hX⟩:∃X:Nat,X=(ls.getD k (0,0)).1.toNat:=⟨_,rfl⟩
     obtain ⟨Y,hY⟩:∃Y:Nat,Y=(ls.getD k (0,0)).2.toNat:=⟨_,rfl⟩
     have hX1:X<100:=(by rw [hX];exact (s.l1 k hk2).2)
     have hY1:Y<100:=(by rw [hY];exact (s.l2 k hk2).2)
     have hc1:wx.cell? ⟨b,off+k*2,none⟩=some (.int .i64 (X:Int)):=(by rw [hX,(s.l1 k hk2).1];exact (belw.cell (p:=⟨b,_,none⟩) hlt).trans (hc k hk2).1)
     have hc2:wx.cell? ⟨b,off+k*2+1,none⟩=some (.int .i64 (Y:Int)):=(by rw [hY,(s.l2 k hk2).1];exact (belw.cell (p:=⟨b,_,none⟩) hlt).trans (hc k hk2).2)
     have HX:Hid (H2++aT n ls (k+1)=H2++aT n ls k++dV [2*(n+k)+2,X,Y]):=(by unfold Hid;simp [aT,hX,hY])
     clear hX hY hc;obtain ⟨A,hA⟩:∃A,A=H2++aT n ls k:=⟨_,rfl⟩
     have hAl:A.length≤100:=(by rw [hA,List.length_append];omega)
     obtain ⟨Z,hZ⟩:∃Z,Z=dV [2*(n+k)+2,X,Y]:=⟨_,rfl⟩
     have hll:Z.length≤10:=(by rw [hZ];exact eG [2*(n+k)+2,X,Y] (all3 (by omega) hX1 hY1))
     have hadd:∀w',(Op.stringOp .add ⟨A.toArray⟩ ⟨Z.toArray⟩).run Tryz.prog w'=.ok (.string ((⟨A.toArray⟩:ByteArray)++ ⟨Z.toArray⟩)) w':=fun w'=>run_string_add_sum w' _ _ (by rw [qX,qX];omega)
     have hbx:b<wx.heap.size:=Nat.lt_of_lt_of_le hlt belw.size;have hWL:Calls Tryz.prog 47 #[.slice (some ⟨wx.heap.size,0,none⟩) 3 3] (wx.alloc (.cells #[.int .i64 (2*((n:Int)+k)+2),.int .i64 X,.int .i64 Y] 3)).drew fun e w'=>e=.returned (.string ⟨Z.toArray⟩)∧Below wx.heap.size wx w':=by
      rw [hZ];refine (rU wx.heap.size [2*(n+k)+2,X,Y] #[.int .i64 (2*((n:Int)+k)+2),.int .i64 X,.int .i64 Y] 3 (wx.alloc (.cells #[.int .i64 (2*((n:Int)+k)+2),.int .i64 X,.int .i64 Y] 3)).drew (aB wx _ _ rfl) (by simp [aP]) rfl (all3 (by omega) hX1 hY1) (by simp)).mono ?_;rintro e w3 ⟨rfl,b3⟩
      exact ⟨rfl,((Below.refl _ _).alloc (Nat.le_refl _) _).drew.trans (b3.mono (by show _≤(World.alloc _ _).heap.size;simp))⟩
     rw [←hA];rw [←hA,←hZ] at HX;clear hA hZ;have zx:w.heap.size<wx.heap.size:=(by omega)
     go_wp2
     go_region_held3 (fun w'=>w'.cell? ⟨w.heap.size,1,none⟩=some (.slice (some ⟨b,off,none⟩) ls.length lc)∧w'.cell? ⟨b,off+k*2,none⟩=some (.int .i64 (X:Int))∧w'.cell? ⟨b,off+k*2+1,none⟩=some (.int .i64 (Y:Int))) (first | exact ⟨k0,k1,k2⟩ | (simp [go_sem,q1,hc1,hc2];done) | (simp [go_sem,World.cell?_alloc_past, *];done)) (first | (go_at_call 47;refine hWL.mono ?_;rintro e w4 ⟨rfl,b4⟩;have k0:=(b4.cell (p:=⟨w.heap.size,1,none⟩) zx).trans q1;have k1:=(b4.cell (p:=⟨b,_,none⟩) hbx).trans hc1;have k2:=(b4.cell (p:=⟨b,_,none⟩) hbx).trans hc2) | fail)
     go_wp2
     go_roundw
     case rel=>exact ⟨k+1,by omega,by go_num,by go_num,by rw [HX.out,←iD],bel.trans (b4.mono hzr)⟩
     case measure=>simp [intOf];omega
    ·obtain rfl:k=ls.length:=by omega
     have q3:=(bel.cell (p:=⟨w.heap.size,3,none⟩) z1).trans m3;go_wp2;obtain ⟨H3,hH3⟩:∃H3,H3=H2++aT n ls ls.length:=⟨_,rfl⟩
     have hHl3:H3.length≤80:=(by rw [hH3,List.length_append];omega)
     rw [←hH3];rw [←hH3] at HT;clear hH3 hil
     go_loopw [5,9] (fun st i wy=>∃k:Nat,k≤os.length∧i=.int .i64 k∧st=.string ⟨(H3++cM os k).toArray⟩∧Below w1.heap.size w1 wy)
      (fun _ i _=>os.length - (intOf i).toNat)
     case atStart=>exact ⟨0,Nat.zero_le _,rfl,by simp [cM],bel⟩
     case round =>
      clear hzr bel belw q1 q3;obtain ⟨k,hk,rfl,rfl,bel⟩:=hrel
      rename World=>wy
      have hzr:w1.heap.size≤wy.heap.size:=bel.size;have belw:Below w.heap.size w wy:=(bel0.trans (b1.mono (by omega))).trans (bel.mono (by omega));have q3:=(bel.cell (p:=⟨w.heap.size,3,none⟩) z1).trans m3;have hil:=pD s k hk
      by_cases hk2:k<os.length
      ·obtain ⟨b,off,rfl,hlt,hc⟩:=hO.get (by omega)
       obtain ⟨X,hX⟩:∃X:Nat,X=(os.getD k 0).toNat:=⟨_,rfl⟩
       have hX1:X<100:=(by rw [hX];exact (s.o1 k hk2).2)
       have hc1:wy.cell? ⟨b,off+k,none⟩=some (.int .i64 (X:Int)):=(by rw [hX,(s.o1 k hk2).1];exact (belw.cell (p:=⟨b,_,none⟩) hlt).trans (hc k hk2))
       have HX:Hid (H3++cM os (k+1)=H3++cM os k++dV [X]):=(by unfold Hid;simp [cM,hX])
       clear hX hc;have hll:(dV [X]).length≤4:=eG [X] (all1 hX1);obtain ⟨A,hA⟩:∃A,A=H3++cM os k:=⟨_,rfl⟩
       have hAl:A.length≤200:=(by rw [hA,List.length_append];omega)
       rw [←hA];rw [←hA] at HX;clear hA
       go_wp2_with (go_at_call 47;refine (rU wy.heap.size [X] #[.int .i64 X] 1 _ (aB wy _ _ rfl) (by simp [aP]) rfl (all1 hX1) (by simp)).mono ?_;rintro e w4 ⟨rfl,b4⟩)
       go_roundw
       case rel=>exact ⟨k+1,by omega,by go_num,by rw [HX.out,←iD],(bel.alloc hzr _).trans (b4.mono (by simp;omega))⟩
       case measure=>simp [intOf];omega
      ·obtain rfl:k=os.length:=by omega
       have q2:=(bel.cell (p:=⟨w.heap.size,2,none⟩) z1).trans m2;go_wp2;obtain ⟨H4,hH4⟩:∃H4,H4=H3++cM os os.length:=⟨_,rfl⟩
       have hHl4:H4.length≤120:=(by rw [hH4,List.length_append];omega)
       rw [←hH4];rw [←hH4] at HT;clear hH4 hil
       go_loopw [5,6,10] (fun st sg i wz=>∃k:Nat,k≤gs.length∧i=.int .i64 k∧sg=.int .i64 (2*((n:Int)+ls.length+k)+2)∧st=.string ⟨(H4++bK (n+ls.length) gs k).toArray⟩∧Below w1.heap.size w1 wz)
        (fun _ _ i _=>gs.length - (intOf i).toNat)
       case atStart=>exact ⟨0,Nat.zero_le _,rfl,by simp,by simp [bK],bel⟩
       case round =>
        clear hzr bel belw q2 q3;obtain ⟨k,hk,rfl,rfl,rfl,bel⟩:=hrel
        rename World=>wz
        have hzr:w1.heap.size≤wz.heap.size:=bel.size;have belw:Below w.heap.size w wz:=(bel0.trans (b1.mono (by omega))).trans (bel.mono (by omega));have q2:=(bel.cell (p:=⟨w.heap.size,2,none⟩) z1).trans m2;have hil:=sZ s k hk
        by_cases hk2:k<gs.length
        ·obtain ⟨b,off,rfl,hlt,hc⟩:=hG.get (by omega)
         obtain ⟨X,hX⟩:∃X:Nat,X=(gs.getD k (0,0)).1.toNat:=⟨_,rfl⟩
         obtain ⟨Y,hY⟩:∃Y:Nat,Y=(gs.getD k (0,0)).2.toNat:=⟨_,rfl⟩
         have hX1:X<100:=(by rw [hX];exact (s.g1 k hk2).2)
         have hY1:Y<100:=(by rw [hY];exact (s.g2 k hk2).2)
         have hc1:wz.cell? ⟨b,off+k*2,none⟩=some (.int .i64 (X:Int)):=(by rw [hX,(s.g1 k hk2).1];exact (belw.cell (p:=⟨b,_,none⟩) hlt).trans (hc k hk2).1)
         have hc2:wz.cell? ⟨b,off+k*2+1,none⟩=some (.int .i64 (Y:Int)):=(by rw [hY,(s.g2 k hk2).1];exact (belw.cell (p:=⟨b,_,none⟩) hlt).trans (hc k hk2).2)
         have HX:Hid (H4++bK (n+ls.length) gs (k+1)=H4++bK (n+ls.length) gs k++dV [2*(n+ls.length+k)+2,X,Y]):=(by unfold Hid;simp [bK,hX,hY])
         clear hX hY hc;obtain ⟨A,hA⟩:∃A,A=H4++bK (n+ls.length) gs k:=⟨_,rfl⟩
         have hAl:A.length≤1000:=(by rw [hA,List.length_append];omega)
         obtain ⟨Z,hZ⟩:∃Z,Z=dV [2*(n+ls.length+k)+2,X,Y]:=⟨_,rfl⟩
         have hll:Z.length≤10:=(by rw [hZ];exact eG [2*(n+ls.length+k)+2,X,Y] (all3 (by omega) hX1 hY1))
         have hadd:∀w',(Op.stringOp .add ⟨A.toArray⟩ ⟨Z.toArray⟩).run Tryz.prog w'=.ok (.string ((⟨A.toArray⟩:ByteArray)++ ⟨Z.toArray⟩)) w':=fun w'=>run_string_add_sum w' _ _ (by rw [qX,qX];omega)
         have hbx:b<wz.heap.size:=Nat.lt_of_lt_of_le hlt belw.size;have hWL:Calls Tryz.prog 47 #[.slice (some ⟨wz.heap.size,0,none⟩) 3 3] (wz.alloc (.cells #[.int .i64 (2*((n:Int)+ls.length+k)+2),.int .i64 X,.int .i64 Y] 3)).drew fun e w'=>e=.returned (.string ⟨Z.toArray⟩)∧Below wz.heap.size wz w':=by
          rw [hZ];refine (rU wz.heap.size [2*(n+ls.length+k)+2,X,Y] #[.int .i64 (2*((n:Int)+ls.length+k)+2),.int .i64 X,.int .i64 Y] 3 (wz.alloc (.cells #[.int .i64 (2*((n:Int)+ls.length+k)+2),.int .i64 X,.int .i64 Y] 3)).drew (aB wz _ _ rfl) (by simp [aP]) rfl (all3 (by omega) hX1 hY1) (by simp)).mono ?_;rintro e w3 ⟨rfl,b3⟩
          exact ⟨rfl,((Below.refl _ _).alloc (Nat.le_refl _) _).drew.trans (b3.mono (by show _≤(World.alloc _ _).heap.size;simp))⟩
         rw [←hA];rw [←hA,←hZ] at HX;clear hA hZ;have zx:w.heap.size<wz.heap.size:=(by omega)
         go_wp2
         go_region_held3 (fun w'=>w'.cell? ⟨w.heap.size,2,none⟩=some (.slice (some ⟨b,off,none⟩) gs.length gc)∧w'.cell? ⟨b,off+k*2,none⟩=some (.int .i64 (X:Int))∧w'.cell? ⟨b,off+k*2+1,none⟩=some (.int .i64 (Y:Int))) (first | exact ⟨k0,k1,k2⟩ | (simp [go_sem,q2,hc1,hc2];done) | (simp [go_sem,World.cell?_alloc_past, *];done)) (first | (go_at_call 47;refine hWL.mono ?_;rintro e w4 ⟨rfl,b4⟩;have k0:=(b4.cell (p:=⟨w.heap.size,2,none⟩) zx).trans q2;have k1:=(b4.cell (p:=⟨b,_,none⟩) hbx).trans hc1;have k2:=(b4.cell (p:=⟨b,_,none⟩) hbx).trans hc2) | fail)
         go_wp2
         go_roundw
         case rel=>exact ⟨k+1,by omega,by go_num,by go_num,by rw [HX.out,←iD],bel.trans (b4.mono hzr)⟩
         case measure=>simp [intOf];omega
        ·obtain rfl:k=gs.length:=by omega
         go_wp2
         go_ret2
         exact ⟨by rw [HT.out];rfl,belw⟩
theorem aA8 (n:Int) (la ga oa:Option Addr) (lc gc oc:Nat) (ls gs:List (Int×Int)) (os:List Int) (w:World)
  (hL:PairsAt w la ls) (hG:PairsAt w ga gs) (hO:IntsAt w oa os) (fL:∀i,i<ls.length→Fits (ls.getD i (0,0)).1) (fG:∀i,i<gs.length→Fits (gs.getD i (0,0)).1∧Fits (gs.getD i (0,0)).2) (fO:∀i,i<os.length→Fits (os.getD i 0)) :
  Calls Tryz.prog 23 #[.agg #[.int .i64 n,.slice la ls.length lc,.slice ga gs.length gc,.slice oa os.length oc]] w fun e w' =>
   e=.returned (.tuple #[.string ⟨(wrS n ls gs os).toArray⟩,.int .i64 (wrE n ls gs os)])∧Below w.heap.size w w':=by
 cases hr:aG n ls gs os
 ·have e1:wrS n ls gs os=[]:=by simp [wrS,hr]
  have e2:wrE n ls gs os=2:=by simp [wrE,hr]
  rw [e1,e2]
  exact tT n la ga oa lc gc oc ls gs os w hL hG hO fL fG fO hr
 ·have e2:wrE n ls gs os=0:=by simp [wrE,hr]
  have e1:wrS n ls gs os=txt n.toNat ls gs os:=by simp [wrS,hr]
  rw [e1,e2];obtain ⟨N,rfl⟩:=Int.eq_ofNat_of_zero_le (cD hr).1.1
  exact aBY N la ga oa lc gc oc ls gs os w hL hG hO fL fG fO hr (aDB hr)
structure aF0 (R:Nat→Nat) (c:CallD):Prop where
 sL:∀b o,c.la=some ⟨b,o,none⟩→c.ls≠[]→¬R b<6
 sG:∀b o,c.ga=some ⟨b,o,none⟩→c.gs≠[]→¬R b<6
 sO:∀b o,c.oa=some ⟨b,o,none⟩→c.os≠[]→¬R b<6
 rL:∀b o,c.lb=some ⟨b,o,none⟩→c.lt≠[]→¬R b<6
 rG:∀b o,c.gb=some ⟨b,o,none⟩→c.gt≠[]→¬R b<6
 rO:∀b o,c.ob=some ⟨b,o,none⟩→c.ot≠[]→¬R b<6
 sI:∀b o,c.ia=some ⟨b,o,none⟩→c.ins≠[]→¬R b<6
theorem aLC (n:Int) (la ga oa ia:Option Addr) (lc gc oc ic:Nat) (ls gs:List (Int×Int)) (os ins:List Int) (w:World) (hm:ins.length≤maxLen)
  (hL:PairsAt w la ls) (hG:PairsAt w ga gs) (hO:IntsAt w oa os) (hI:IntsAt w ia ins) :
  Calls Tryz.prog 24 #[.agg #[.int .i64 n,.slice la ls.length lc,.slice ga gs.length gc,.slice oa os.length oc],.slice ia ins.length ic] w fun e w' =>
   ∃a c,e=.returned (.tuple #[.slice a (runL n ls gs os ins).length c,.int .i64 (runE n ls gs os ins)])∧w'.ownsRow w.heap.size 3 1 (.slice a (runL n ls gs os ins).length c) (runL n ls gs os ins).length (aP (runL n ls gs os ins))∧Below w.heap.size w w':=by
 cases hr:aG n ls gs os
 ·have e1:runL n ls gs os ins=[]:=by unfold runL;rw [if_neg (by rw [hr];decide)]
  have e2:runE n ls gs os ins=2:=by unfold runE;rw [if_neg (by rw [hr];decide)]
  rw [e1,e2]
  exact (aGR n la ga oa lc gc oc ls gs os _ w hL hG hO hr).mono fun e w' h=>⟨none,0,h.1,World.ownsRow_nil _ _ _ _,h.2⟩
 ·obtain ⟨N,rfl⟩:=Int.eq_ofNat_of_zero_le (cD hr).1.1
  cases hi:dU N ins
  ·have e1:runL N ls gs os ins=[]:=by unfold runL;rw [if_pos hr,if_neg (by rw [Int.toNat_natCast,hi];decide)]
   have e2:runE N ls gs os ins=3:=(by unfold runE;rw [if_pos hr,if_neg (by rw [Int.toNat_natCast,hi];decide)])
   rw [e1,e2]
   exact (aEP N la ga oa ia lc gc oc ic ls gs os ins w hm hL hG hO hI hr hi).mono fun e w' h=>⟨none,0,h.1,World.ownsRow_nil _ _ _ _,h.2⟩
  ·have e1:runL N ls gs os ins=outs N ls gs os ins:=by unfold runL;rw [if_pos hr,if_pos (by rw [Int.toNat_natCast];exact hi),Int.toNat_natCast]
   have e2:runE N ls gs os ins=0:=(by unfold runE;rw [if_pos hr,if_pos (by rw [Int.toNat_natCast];exact hi)])
   have el:(outs N ls gs os ins).length=ins.length:=(by simp [outs])
   rw [e1,e2,el];refine (aM3 N la ga oa ia lc gc oc ic ls gs os ins w hm hL hG hO hI hr hi).mono fun e w' h=>?_
   obtain ⟨g,he,hown,hb⟩:=h
   exact ⟨_,_,he,hown,hb⟩
theorem aKZ (R:Nat→Nat) (P N:Nat) (v:Nat→Value) (es:Nat→List Entry) (c:CallD) (w:World) (hB:Book2 R w P v es N) (hN:N≤690000000000) (hLib:Lib0 w) (hdb:TabDB w) (ok:CallOk w c) (sp:aF0 R c) :
  Calls Tryz.prog 13 #[.pointer (some ⟨P,0,none⟩),.agg c.cells] w fun e w'=>e=.returned (.bool true)∧jH R w P N w':=by
 obtain ⟨k,S,n,la,ls,lc,ga,gs,gc,oa,os,oc,m,lb,lt,ld,gb,gt,gd,ob,ot,od,ia,ins,ic,nn⟩:=c;unfold CallD.cells
 by_cases h1:k=1
 ·subst h1
  obtain ⟨S',hS'⟩:∃S',S'=S.data.toList:=⟨_,rfl⟩
  have hSe:S=⟨S'.toArray⟩:=by rw [hS']
  have hsz:S'.length<9223372036854775808:=by
   have h:=ok.hS;dsimp only at h;rw [hSe,rA] at h
   exact h
  dsimp only;rw [hSe]
  exact aBO R P N v es (.string ⟨S'.toArray⟩) n m nn la ga oa lb gb ob ia lc gc oc ld gd od ic ls gs os lt gt ot ins w hB hN ok.hml ok.hmg ok.hmo ok.hnl ok.hng ok.hno ok.hmi ok.hL ok.hG ok.hO ok.kL ok.kG ok.kO ok.hI sp.sL sp.sG sp.sO sp.rL sp.rG sp.rO sp.sI (RdIs S') (aJ3 S') (aJ2 S') (fun W hW=>wJ S' W (hLib.below hW) hsz) (fun W _=>aBW S' W hsz)
 by_cases h2:k=2
 ·subst h2
  exact zS R P N v es _ n m nn la ga oa lb gb ob ia lc gc oc ld gd od ic ls gs os lt gt ot ins w hB hN ok.hml ok.hmg ok.hmo ok.hnl ok.hng ok.hno ok.hmi ok.hL ok.hG ok.hO ok.kL ok.kG ok.kO ok.hI sp.sL sp.sG sp.sO sp.rL sp.rG sp.rO sp.sI ⟨(wrS n ls gs os).toArray⟩ (wrE n ls gs os)
   (fun W la1 ga1 oa1 lc1 gc1 oc1 _ h1 h2 h3=>aHE n la1 ga1 oa1 lc1 gc1 oc1 ls gs os W h1 h2 h3)
   (fun W hW=>aA8 n la ga oa lc gc oc ls gs os W (ok.hL.below hW) (ok.hG.below hW) (ok.hO.below hW) ok.fL ok.fG ok.fO)
 by_cases h3:k=3
 ·subst h3
  have hm:ins.length≤maxLen:=by have:=ok.hmi;dsimp only at this;unfold maxLen;omega
  exact aEE R P N v es _ n m nn la ga oa lb gb ob ia lc gc oc ld gd od ic ls gs os lt gt ot ins w hB hN ok.hml ok.hmg ok.hmo ok.hnl ok.hng ok.hno ok.hmi ok.hL ok.hG ok.hO ok.kL ok.kG ok.kO ok.hI sp.sL sp.sG sp.sO sp.rL sp.rG sp.rO sp.sI (runL n ls gs os ins) (runE n ls gs os ins) (Nat.le_trans (aJ8 n ls gs os ins) (by omega))
   (fun W la1 ga1 oa1 ia1 lc1 gc1 oc1 ic1 _ h1 h2 h3 h4=>aLC n la1 ga1 oa1 ia1 lc1 gc1 oc1 ic1 ls gs os ins W hm h1 h2 h3 h4)
   (fun W hW=>aEN n la ga oa ia lc gc oc ic ls gs os ins W hm (ok.hL.below hW) (ok.hG.below hW) (ok.hO.below hW) (ok.hI.below hW) ok.fL ok.fG ok.fO)
 by_cases h4:k=4
 ·subst h4
  exact aIU R P N v es _ n m nn la ga oa lb gb ob ia lc gc oc ld gd od ic ls gs os lt gt ot ins w hB hN ok.hml ok.hmg ok.hmo ok.hnl ok.hng ok.hno ok.hmi ok.hL ok.hG ok.hO ok.kL ok.kG ok.kO ok.hI ok.fL ok.fG ok.fO sp.sL sp.sG sp.sO sp.rL sp.rG sp.rO sp.sI
 by_cases h5:k=5
 ·subst h5
  exact aBN R P N v es _ n m nn la ga oa lb gb ob ia lc gc oc ld gd od ic ls gs os lt gt ot ins w hB hN ok.hml ok.hmg ok.hmo ok.hnl ok.hng ok.hno ok.hmi ok.hL ok.hG ok.hO ok.kL ok.kG ok.kO ok.hI ok.fL ok.fG ok.fO sp.sL sp.sG sp.sO sp.rL sp.rG sp.rO sp.sI
 by_cases h6:k=6
 ·subst h6
  exact aG8 R P N v es _ n m nn la ga oa lb gb ob ia lc gc oc ld gd od ic ls gs os lt gt ot ins w hB hN hdb ok.hml ok.hmg ok.hmo ok.hnl ok.hng ok.hno ok.hmi ok.hL ok.hG ok.hO ok.kL ok.kG ok.kO ok.hI ok.fL ok.fG ok.fO ok.gL ok.gG ok.gO sp.sL sp.sG sp.sO sp.rL sp.rG sp.rO sp.sI
 exact aIT R P N v es _ n m nn la ga oa lb gb ob ia lc gc oc ld gd od ic ls gs os lt gt ot ins w hB hN ok.hml ok.hmg ok.hmo ok.hnl ok.hng ok.hno ok.hmi ok.hL ok.hG ok.hO ok.kL ok.kG ok.kO ok.hI sp.sL sp.sG sp.sO sp.rL sp.rG sp.rO sp.sI k ⟨h1,h2,h3,h4,h5,h6⟩
theorem CallOk.below {w W:World}{c:CallD}(h:CallOk w c) (hb:Below w.heap.size w W):CallOk W c :=
 ⟨h.hS,h.hml,h.hmg,h.hmo,h.hnl,h.hng,h.hno,h.hmi,h.hL.below hb,h.hG.below hb,h.hO.below hb,h.kL.below hb,h.kG.below hb,h.kO.below hb,h.hI.below hb,h.fL,h.fG,h.fO,h.gL,h.gG,h.gO⟩
theorem CallOk.sep {w:World}{c:CallD}{R:Nat→Nat}(h:CallOk w c) (hR:∀q,R q<6→w.heap.size≤q):aF0 R c:=by
 have far:∀b,b<w.heap.size→¬R b<6:=fun b hb h6=>by have:=hR b h6;omega
 exact ⟨fun b o ha hne=>far _ (h.hL.lt ha hne),fun b o ha hne=>far _ (h.hG.lt ha hne),fun b o ha hne=>far _ (h.hO.lt ha hne),fun b o ha hne=>far _ (h.kL.lt ha hne),fun b o ha hne=>far _ (h.kG.lt ha hne),fun b o ha hne=>far _ (h.kO.lt ha hne),fun b o ha hne=>far _ (h.hI.lt ha hne)⟩
theorem aHK (la:Option Addr) (n lc:Nat) (C:Nat→CallD) (w:World) (hLib:Lib0 w) (hdb:TabDB w) (hn:n*216≤140737488351232)
  (hA:n=0∨∃b off,la=some ⟨b,off,none⟩∧b<w.heap.size∧∀i,i<n→(∀j,j<12→w.cell? ⟨b,off+i*12+j,none⟩=(C i).cells[j]?)∧CallOk w (C i)) :
  Calls Tryz.prog 9 #[.slice la n lc] w fun e w'=>e=.returned (.bool true)∧Below w.heap.size w w':=by
 obtain ⟨W1,hW1⟩:∃W1,W1=w.alloc (.cells #[.slice none 0 0,.slice none 0 0,.slice none 0 0,.slice none 0 0] 29):=⟨_,rfl⟩
 have b1:Below w.heap.size w W1:=by rw [hW1];exact (Below.refl _ _).alloc (Nat.le_refl _) _
 have s1:W1.heap.size=w.heap.size+1:=by rw [hW1];simp
 have xP:W1.heap[w.heap.size]?=some (.cells #[.slice none 0 0,.slice none 0 0,.slice none 0 0,.slice none 0 0] 29 (0,0)):=by rw [hW1];exact aB _ _ _ rfl
 have hB1:Book2 (uC w.heap.size) W1 w.heap.size (fun _=>.slice none 0 0) (fun _=>[]) 0:=aDK (by omega) (fun c hc=>by
  rw [cell_of_row _ _ _ _ _ _ xP]
  match c,hc with
  | 0,_=>rfl
  | 1,_=>rfl
  | 2,_=>rfl
  | 3,_=>rfl) (fun i=>frozen_of_row _ _ _ _ _ xP)
 have hd0:=pJ 0 W1;rw [hW1] at hd0;have HB1:=hidK hB1;have HA:=hidK hA;clear hB1 xP hA
 go_enter Tryz.func9,Tryz.ntmps9
 go_wp2_with fail
 refine hd0.mono ?_;rw [←hW1];rintro e w4 ⟨bl,bo,rfl,hbl,hbo,dL,dO,b4⟩;clear hd0 hW1
 go_wp2_with fail
 refine (pJ 0 w4).mono ?_;rintro e w5 ⟨dl,do',rfl,hdl,hdo,eL,eO,b5⟩;have s4:=b4.size;have s5:=b5.size;have B15:=b4.trans (b5.mono b4.size);have B05:Below w.heap.size w w5:=b1.trans (B15.mono b1.size);have eR:∀k,k≠w.heap.size→¬uC w.heap.size k<6:=fun k hk h=>hk (mR h)
 go_wp2_with fail
 refine (wR (uC w.heap.size) w.heap.size 0 _ _ bl bo dl do' 0 0 _ _ (HB1.out.below B15) (by omega) (hdb.below B05) (dL.below b5) (dO.below b5) eL eO (eR _ (by omega)) (eR _ (by omega)) (eR _ (by omega)) (eR _ (by omega))).mono ?_;rintro e w6 ⟨rfl,R6,v6,es6,hB6,K6,n6⟩;have bel6:Below w.heap.size w w6:=B05.trans (K6.below (by omega) (fun k hk=>by rw [mR hk];omega));have hR6:∀q,R6 q<6→w.heap.size≤q:=fun q hq=>by
  rcases n6 q hq with h | h
  ·rw [mR h];omega
  ·omega
 have HB6:=hidK hB6;clear hB6 K6 n6 eR B15 B05 dL dO eL eO b4 b5
 go_wp2_with fail
 go_loopw [5] (fun i wr=>∃(k:Nat) (R:Nat→Nat) (v:Nat→Value) (es:Nat→List Entry),k≤n∧i=.int .i64 k∧Book2 R wr w.heap.size v es (k+1)∧(∀q,R q<6→w.heap.size≤q)∧Below w.heap.size w wr) (fun i _=>n - (intOf i).toNat)
 case atStart=>exact ⟨0,_,_,_,Nat.zero_le _,rfl,HB6.out,hR6,bel6⟩
 case round =>
  clear HB6 hR6 bel6;obtain ⟨k,R,v,es,hk,rfl,hB,hR,bel⟩:=hrel
  by_cases hk2:k<n
  ·obtain ⟨b,off,rfl,hb,hc⟩:∃b off,la=some ⟨b,off,none⟩∧b<w.heap.size∧∀i,i<n→(∀j,j<12→w.cell? ⟨b,off+i*12+j,none⟩=(C i).cells[j]?)∧CallOk w (C i):=by
    rcases HA.out with h | h
    ·omega
    ·exact h
   obtain ⟨hcell,ok⟩:=hc k hk2;have one:=aKZ R w.heap.size (k+1) v es (C k) wr hB (by omega) (hLib.below bel) (hdb.below bel) (ok.below bel) (ok.sep hR);have cc:∀j,j<12→wr.cell? ⟨b,off+k*12+j,none⟩=(C k).cells[j]?:=fun j hj=>(bel.cell (p:=⟨b,off+k*12+j,none⟩) hb).trans (hcell j hj)
   obtain ⟨D,hD⟩:∃D,D=C k:=⟨_,rfl⟩
   rw [←hD] at one cc;clear hD hcell hc ok;obtain ⟨xk,xS,xn,xla,xls,xlc,xga,xgs,xgc,xoa,xos,xoc,xm,xlb,xlt,xld,xgb,xgt,xgd,xob,xot,xod,xia,xins,xic,xnn⟩:=D;simp only [CallD.cells] at one;have c0:wr.cell? ⟨b,off+k*12,none⟩=some (.int .i64 xk):=cc 0 (by omega);have c1:wr.cell? ⟨b,off+k*12+1,none⟩=some (.string xS):=cc 1 (by omega);have c2:wr.cell? ⟨b,off+k*12+2,none⟩=some (.int .i64 xn):=cc 2 (by omega);have c3:wr.cell? ⟨b,off+k*12+3,none⟩=some (.slice xla xls.length xlc):=cc 3 (by omega);have c4:wr.cell? ⟨b,off+k*12+4,none⟩=some (.slice xga xgs.length xgc):=cc 4 (by omega);have c5:wr.cell? ⟨b,off+k*12+5,none⟩=some (.slice xoa xos.length xoc):=cc 5 (by omega);have c6:wr.cell? ⟨b,off+k*12+6,none⟩=some (.int .i64 xm):=cc 6 (by omega);have c7:wr.cell? ⟨b,off+k*12+7,none⟩=some (.slice xlb xlt.length xld):=cc 7 (by omega);have c8:wr.cell? ⟨b,off+k*12+8,none⟩=some (.slice xgb xgt.length xgd):=cc 8 (by omega);have c9:wr.cell? ⟨b,off+k*12+9,none⟩=some (.slice xob xot.length xod):=cc 9 (by omega);have c10:wr.cell? ⟨b,off+k*12+10,none⟩=some (.slice xia xins.length xic):=cc 10 (by omega);have c11:wr.cell? ⟨b,off+k*12+11,none⟩=some (.int .i64 xnn):=cc 11 (by omega);clear cc;have hkI:(k:Int)<(n:Int):=(by omega)
   have hk0:(0:Int)≤(k:Int):=(by omega)
   have HRR:=hidK hR;clear hB
   go_wp2_with fail
   refine one.mono ?_;rintro e w7 ⟨rfl,R7,v7,es7,hB7,K7,n7⟩;have bel7:Below w.heap.size w w7:=bel.trans (K7.below bel.size (fun q hq=>HRR.out q hq));have hR7:∀q,R7 q<6→w.heap.size≤q:=fun q hq=>by
    rcases n7 q hq with h | h
    ·exact HRR.out q h
    ·have:=bel.size;omega
   have HB7:=hidK hB7;clear one hB7;go_wp2
   go_roundw
   case rel=>exact ⟨k+1,R7,v7,es7,by omega,by go_num,HB7.out,hR7,bel7⟩
   case measure=>simp [intOf];omega
  ·have hkN:¬((k:Int)<(n:Int)):=by omega
   clear hB;go_wp2
   go_ret
   exact ⟨rfl,bel⟩
end Go.Proofs.YtgpaajdfkekjiaaGreatDoor
