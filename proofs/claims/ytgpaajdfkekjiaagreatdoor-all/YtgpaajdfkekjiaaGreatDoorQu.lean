/-
  A part of the proof of the statement All: texts of ours, made small by program (blanks, names).
-/
import Derived.Test.YtgpaajdfkekjiaaGreatDoorPn
import Derived.Test.YtgpaajdfkekjiaaGreatDoorQr
import Derived.Test.YtgpaajdfkekjiaaGreatDoorPi
import Derived.Deep.RegionHeld3
import Derived.Test.YtgpaajdfkekjiaaGreatDoorPb
import Derived.Laws.IdiomStrings
namespace Go.Proofs.YtgpaajdfkekjiaaGreatDoor
set_option maxHeartbeats 8000000
set_option maxRecDepth 100000
open Go.RowKit
theorem aIT (R:Nat→Nat) (P N:Nat) (v:Nat→Value) (es:Nat→List Entry) (sv:Value) (n m nn:Int) (la ga oa lb gb ob ia:Option Addr) (lc gc oc ld gd od ic:Nat) (ls gs:List (Int×Int)) (os:List Int) (lt gt:List (Int×Int)) (ot ins:List Int) (w:World)
  (hB:Book2 R w P v es N) (hN:N≤690000000000)
  (hml:ls.length*16≤140737488351232) (hmg:gs.length*16≤140737488351232) (hmo:os.length*8≤140737488351232) (hnl:lt.length*16≤140737488351232) (hng:gt.length*16≤140737488351232) (hno:ot.length*8≤140737488351232) (hmi:ins.length*8≤140737488351232)
  (hL:PairsAt w la ls) (hG:PairsAt w ga gs) (hO:IntsAt w oa os) (kL:PairsAt w lb lt) (kG:PairsAt w gb gt) (kO:IntsAt w ob ot) (hI:IntsAt w ia ins)
  (sL:∀b o,la=some ⟨b,o,none⟩→ls≠[]→¬R b<6) (sG:∀b o,ga=some ⟨b,o,none⟩→gs≠[]→¬R b<6) (sO:∀b o,oa=some ⟨b,o,none⟩→os≠[]→¬R b<6)
  (rL:∀b o,lb=some ⟨b,o,none⟩→lt≠[]→¬R b<6) (rG:∀b o,gb=some ⟨b,o,none⟩→gt≠[]→¬R b<6) (rO:∀b o,ob=some ⟨b,o,none⟩→ot≠[]→¬R b<6) (sI:∀b o,ia=some ⟨b,o,none⟩→ins≠[]→¬R b<6)
  (kk:Int) (hk:kk≠1∧kk≠2∧kk≠3∧kk≠4∧kk≠5∧kk≠6) :
  Calls Tryz.prog 13 #[.pointer (some ⟨P,0,none⟩),.agg #[.int .i64 kk,sv,.int .i64 n,.slice la ls.length lc,.slice ga gs.length gc,.slice oa os.length oc,.int .i64 m,.slice lb lt.length ld,.slice gb gt.length gd,.slice ob ot.length od,.slice ia ins.length ic,.int .i64 nn]] w fun e w'=>e=.returned (.bool true)∧jH R w P N w':=by
 obtain ⟨W0,hW0⟩:∃W0,W0=w.alloc (.cells #[.int .i64 kk,sv,.int .i64 n,.slice la ls.length lc,.slice ga gs.length gc,.slice oa os.length oc,.int .i64 m,.slice lb lt.length ld,.slice gb gt.length gd,.slice ob ot.length od,.slice ia ins.length ic,.int .i64 nn] 42):=⟨_,rfl⟩
 have b0:Below w.heap.size w W0:=by rw [hW0];exact (Below.refl _ _).alloc (Nat.le_refl _) _
 have s0:W0.heap.size=w.heap.size+1:=by rw [hW0];simp
 have C0:∀i,W0.cell? ⟨w.heap.size,i,none⟩=#[.int .i64 kk,sv,.int .i64 n,.slice la ls.length lc,.slice ga gs.length gc,.slice oa os.length oc,.int .i64 m,.slice lb lt.length ld,.slice gb gt.length gd,.slice ob ot.length od,.slice ia ins.length ic,.int .i64 nn][i]?:=fun i=>by rw [hW0];exact cell_of_row _ _ _ _ _ _ (heap_alloc_new _ _)
 have hd:=cH n la ga oa lc gc oc ls gs os W0 hml hmg hmo (hL.below b0) (hG.below b0) (hO.below b0);rw [hW0] at hd;have HC0:=hidK C0;have HS0:=hidK s0;have HB:=hidK hB;have hP:=hB.lt;clear C0 s0 hB
 go_enter Tryz.func13,Tryz.ntmps13
 go_wp2_with fail
 refine hd.mono ?_;rw [←hW0];rintro e w1 ⟨xl,xg,xo,rfl,hxl,hx1,hx2,rxL,rxG,rxO,b1⟩;clear hd hW0;have C1:=aQ HC0.out (by rw [HS0.out];omega) b1;have z1:w.heap.size<w1.heap.size:=Nat.lt_of_lt_of_le (by rw [HS0.out];omega) b1.size;have B01:Below w.heap.size w w1:=b0.trans (b1.mono (by rw [HS0.out];omega));have a6:=C1 6;have a7:=C1 7;have a8:=C1 8;have a9:=C1 9;have HC1:=hidK C1;clear C1
 go_wp2_with fail
 refine (cH m lb gb ob ld gd od lt gt ot _ hnl hng hno ((kL.below B01).allocK _) ((kG.below B01).allocK _) ((kO.below B01).alloc_any _)).mono ?_;rintro e w2 ⟨yl,yg,yo,rfl,hyl,hy1,hy2,ryL,ryG,ryO,b2⟩;have B12:=aY b2;have HX2:Hid (∀i,w2.cell? ⟨w1.heap.size,i,none⟩=#[.int .i64 n,.slice (some ⟨xl,0,none⟩) ls.length (ls.length+8),.slice (some ⟨xg,0,none⟩) gs.length (gs.length+8),.slice (some ⟨xo,0,none⟩) os.length (os.length+8)][i]?):=bL b2;have HC2:Hid (∀i,w2.cell? ⟨w.heap.size,i,none⟩=#[.int .i64 kk,sv,.int .i64 n,.slice la ls.length lc,.slice ga gs.length gc,.slice oa os.length oc,.int .i64 m,.slice lb lt.length ld,.slice gb gt.length gd,.slice ob ot.length od,.slice ia ins.length ic,.int .i64 nn][i]?):=aQ HC1.out z1 B12;have hyl':w1.heap.size+1≤yl:=by simpa using hyl
 have z2:w1.heap.size<w2.heap.size:=Nat.lt_of_lt_of_le (by simp) b2.size;have B02:Below w.heap.size w w2:=B01.trans (B12.mono (by omega));have y2:w.heap.size<w2.heap.size:=by omega
 have a10:=HC2.out 10;clear a6 a7 a8 a9 b2 hyl
 go_wp2_with fail
 refine (cL ia ic ins _ hmi ((hI.below B02).alloc_any _)).mono ?_;rintro e w3 ⟨zi,rfl,hzi,rzI,b3⟩;have B23:=aY b3;have HY3:Hid (∀i,w3.cell? ⟨w2.heap.size,i,none⟩=#[.int .i64 m,.slice (some ⟨yl,0,none⟩) lt.length (lt.length+8),.slice (some ⟨yg,0,none⟩) gt.length (gt.length+8),.slice (some ⟨yo,0,none⟩) ot.length (ot.length+8)][i]?):=bL b3;have HC3:Hid (∀i,w3.cell? ⟨w.heap.size,i,none⟩=#[.int .i64 kk,sv,.int .i64 n,.slice la ls.length lc,.slice ga gs.length gc,.slice oa os.length oc,.int .i64 m,.slice lb lt.length ld,.slice gb gt.length gd,.slice ob ot.length od,.slice ia ins.length ic,.int .i64 nn][i]?):=aQ HC2.out (by omega) B23;have HX3:Hid (∀i,w3.cell? ⟨w1.heap.size,i,none⟩=#[.int .i64 n,.slice (some ⟨xl,0,none⟩) ls.length (ls.length+8),.slice (some ⟨xg,0,none⟩) gs.length (gs.length+8),.slice (some ⟨xo,0,none⟩) os.length (os.length+8)][i]?):=aQ HX2.out z2 B23;have hzi':w2.heap.size+1≤zi:=by simpa using hzi
 have z3:w2.heap.size<w3.heap.size:=Nat.lt_of_lt_of_le (by simp) b3.size;have B03:Below w.heap.size w w3:=B02.trans (B23.mono (by omega));have B13:Below w1.heap.size w1 w3:=B12.trans (B23.mono (by omega));have y3:w.heap.size<w3.heap.size:=by omega
 have yx3:w1.heap.size<w3.heap.size:=by omega
 have rxL3:=aD rxL B13;have rxG3:=aD rxG B13;have rxO3:=aD rxO B13;have ryL3:=aD ryL B23;have ryG3:=aD ryG B23;have ryO3:=aD ryO B23;have tops:xo<w1.heap.size∧yo<w2.heap.size∧zi<w3.heap.size:=⟨rxO.lt,ryO.lt,rzI.lt⟩
 have hxl':w.heap.size+1≤xl:=by rw [HS0.out] at hxl;exact hxl
 have HR:=hidK HB.out.hR;have HB3:=hidK (HB.out.below B03);clear a10 b3 hzi HX2 HC2 rxL rxG rxO ryL ryG ryO b0 b1;have c0:=HC3.out 0;have t1:(kk==1)=false:=by simp [hk.1]
 have t2:(kk==2)=false:=by simp [hk.2.1]
 have t3:(kk==3)=false:=by simp [hk.2.2.1]
 have t4:(kk==4)=false:=by simp [hk.2.2.2.1]
 have t5:(kk==5)=false:=by simp [hk.2.2.2.2.1]
 have t6:(kk==6)=false:=by simp [hk.2.2.2.2.2]
 obtain ⟨w7,rfl⟩:∃w7,w7=w3:=⟨_,rfl⟩
 obtain ⟨R7,hR7⟩:∃R7,R7=R:=⟨_,rfl⟩
 obtain ⟨v7,hv7⟩:∃v7,v7=v:=⟨_,rfl⟩
 obtain ⟨es7,hes7⟩:∃es7,es7=es:=⟨_,rfl⟩
 have hB7:Book2 R7 w7 P v7 es7 (N+1):=by rw [hR7,hv7,hes7];exact HB3.out.mono (show N≤N+1 by omega)
 have n7:∀k,R7 k<6→R k<6∨w7.heap.size≤k:=fun k hk=>.inl (by rw [←hR7];exact hk)
 clear hR7 hv7 hes7;have K37:Keeps (fun k=>R k<6) w7 w7:=Keeps.of_below (Below.refl _ _);clear hk;have nT:∀k,w.heap.size≤k→¬R k<6:=fun k h1 h2=>by have:=HR.out k h2;omega
 have HC7:Hid (∀i,w7.cell? ⟨w.heap.size,i,none⟩=#[.int .i64 kk,sv,.int .i64 n,.slice la ls.length lc,.slice ga gs.length gc,.slice oa os.length oc,.int .i64 m,.slice lb lt.length ld,.slice gb gt.length gd,.slice ob ot.length od,.slice ia ins.length ic,.int .i64 nn][i]?):=aJ HC3.out y3 K37 (nT _ (Nat.le_refl _));have HX7:Hid (∀i,w7.cell? ⟨w1.heap.size,i,none⟩=#[.int .i64 n,.slice (some ⟨xl,0,none⟩) ls.length (ls.length+8),.slice (some ⟨xg,0,none⟩) gs.length (gs.length+8),.slice (some ⟨xo,0,none⟩) os.length (os.length+8)][i]?):=aJ HX3.out yx3 K37 (nT _ (by omega));have HY7:Hid (∀i,w7.cell? ⟨w2.heap.size,i,none⟩=#[.int .i64 m,.slice (some ⟨yl,0,none⟩) lt.length (lt.length+8),.slice (some ⟨yg,0,none⟩) gt.length (gt.length+8),.slice (some ⟨yo,0,none⟩) ot.length (ot.length+8)][i]?):=aJ HY3.out z3 K37 (nT _ (by omega));have rxL7:=aC rxL3 K37 (nT _ (by omega));have rxG7:=aC rxG3 K37 (nT _ (by omega));have rxO7:=aC rxO3 K37 (nT _ (by omega));have ryL7:=aC ryL3 K37 (nT _ (by omega));have ryG7:=aC ryG3 K37 (nT _ (by omega));have ryO7:=aC ryO3 K37 (nT _ (by omega));have rzI7:=aC rzI K37 (nT _ (by omega));have s37:w7.heap.size≤w7.heap.size:=K37.size;have hL7:PairsIn xl w7 la ls:=(((hL.into).below B03).keeps K37 sL).mono (by omega);have hG7:PairsIn xl w7 ga gs:=(((hG.into).below B03).keeps K37 sG).mono (by omega);have hO7:IntsIn xl w7 oa os:=(((hO.into).below B03).keeps K37 sO).mono (by omega);have kL7:PairsIn xl w7 lb lt:=(((kL.into).below B03).keeps K37 rL).mono (by omega);have kG7:PairsIn xl w7 gb gt:=(((kG.into).below B03).keeps K37 rG).mono (by omega);have kO7:IntsIn xl w7 ob ot:=(((kO.into).below B03).keeps K37 rO).mono (by omega);have hI7:IntsIn xl w7 ia ins:=(((hI.into).below B03).keeps K37 sI).mono (by omega);have K07:Keeps (fun k=>R k<6) w w7:=(Keeps.of_below B03).trans K37;have sev:∀lo hi,w.heap.size<lo→hi≤w7.heap.size→∀k,R7 k<6→¬(lo≤k∧k<hi):=fun lo hi h1 h2 k hk h=>by
  rcases n7 k hk with hk | hk
  ·have:=HR.out k hk;omega
  ·omega
 have x0:=HX7.out 0;have x1:=HX7.out 1;have x2:=HX7.out 2;have x3:=HX7.out 3;have c2:=HC7.out 2;have c3:=HC7.out 3;have c4:=HC7.out 4;have c5:=HC7.out 5;clear rxL3 rxG3 rxO3 ryL3 ryG3 ryO3 rzI HC3 HX3 HY3
 go_wp2_with (go_at_call 14;refine (lZ _ _).mono ?_;rintro e w' ⟨rfl,hw⟩;have hw:=hw.symm;subst hw)
 refine (aX n la ga oa lc gc oc xl xg xo ls gs os _ hml hmg hmo hL7 hG7 hO7 hx1 hx2 rxL7 rxG7 rxO7).mono ?_;rintro e w8 ⟨rfl,sp8⟩;have K8:=Keeps.of_span sp8;have HC8:Hid (∀i,w8.cell? ⟨w.heap.size,i,none⟩=#[.int .i64 kk,sv,.int .i64 n,.slice la ls.length lc,.slice ga gs.length gc,.slice oa os.length oc,.int .i64 m,.slice lb lt.length ld,.slice gb gt.length gd,.slice ob ot.length od,.slice ia ins.length ic,.int .i64 nn][i]?):=aJ HC7.out (by omega) K8 (by omega);have HY8:Hid (∀i,w8.cell? ⟨w2.heap.size,i,none⟩=#[.int .i64 m,.slice (some ⟨yl,0,none⟩) lt.length (lt.length+8),.slice (some ⟨yg,0,none⟩) gt.length (gt.length+8),.slice (some ⟨yo,0,none⟩) ot.length (ot.length+8)][i]?):=aJ HY7.out (by omega) K8 (by omega);have ryL8:=aC ryL7 K8 (by omega);have ryG8:=aC ryG7 K8 (by omega);have ryO8:=aC ryO7 K8 (by omega);have rzI8:=aC rzI7 K8 (by omega);have kL8:=(kL7.span sp8 (Nat.le_refl _)).mono (show xl≤yl by omega);have kG8:=(kG7.span sp8 (Nat.le_refl _)).mono (show xl≤yl by omega);have kO8:=(kO7.span sp8 (Nat.le_refl _)).mono (show xl≤yl by omega);have hI8:=hI7.span sp8 (Nat.le_refl _);have s78:w7.heap.size≤w8.heap.size:=K8.size;have hB8:=hB7.span K8 (sev _ _ (by omega) (by omega));have y0:=HY8.out 0;have y1:=HY8.out 1;have y2':=HY8.out 2;have y3':=HY8.out 3;have c6:=HC8.out 6;have c7:=HC8.out 7;have c8:=HC8.out 8;have c9:=HC8.out 9;clear x0 x1 x2 x3 c2 c3 c4 c5 hL7 hG7 hO7 kL7 kG7 kO7 rxL7 rxG7 rxO7 hB7 hI7 ryL7 ryG7 ryO7 rzI7
 go_wp2_with fail
 refine (aX m lb gb ob ld gd od yl yg yo lt gt ot _ hnl hng hno kL8 kG8 kO8 hy1 hy2 ryL8 ryG8 ryO8).mono ?_;rintro e w9 ⟨rfl,sp9⟩;have K9:=Keeps.of_span sp9;have HC9:Hid (∀i,w9.cell? ⟨w.heap.size,i,none⟩=#[.int .i64 kk,sv,.int .i64 n,.slice la ls.length lc,.slice ga gs.length gc,.slice oa os.length oc,.int .i64 m,.slice lb lt.length ld,.slice gb gt.length gd,.slice ob ot.length od,.slice ia ins.length ic,.int .i64 nn][i]?):=aJ HC8.out (by omega) K9 (by omega);have rzI9:=aC rzI8 K9 (by omega);have hI9:=hI8.span sp9 (by omega);have s89:w8.heap.size≤w9.heap.size:=K9.size;have hB9:=hB8.span K9 (sev _ _ (by omega) (by omega));have c10:=HC9.out 10;clear y0 y1 y2' y3' c6 c7 c8 c9 hB8 hI8 ryL8 ryG8 ryO8 rzI8 kL8 kG8 kO8
 go_wp2_with fail
 refine (bM ia ic zi ins _ hmi (hI9.mono (by omega)) rzI9).mono ?_;rintro e w10 ⟨rfl,sp10⟩;have K10:=Keeps.of_span sp10;have hB10:=hB9.span K10 (sev _ _ (by omega) (by omega));clear c10 hB9 hI9 rzI9
 go_wp2_with fail
 refine (dK _ P _ _ _ _ hB10 (by omega)).mono ?_;rintro e w11 ⟨rfl,b11⟩;go_wp2
 go_ret
 refine ⟨rfl,R7,v7,es7,hB10.below b11,?_,fun k hk=>?_⟩
 ·exact (aV (aV (aV K07 K8 (by omega)) K9 (by omega)) K10 (by omega)).trans (Keeps.of_below b11)
 ·rcases n7 k hk with h | h
  ·exact .inl h
  ·exact .inr (by omega)
theorem fU (B b nb:Nat) (acc:List UInt8) (ns:List Nat) (xs:Array Value) (m:Nat) (V:World) (hI:Lib.IsBuilderF 125 5 B b (Lib.byteCells acc) V) (hn:V.heap[nb]?=some (.cells xs 3 (0,0))) (hxs:xs.toList=aP ns) (hm:m=ns.length) (hB:B≤V.heap.size) (hnb:nb≠b)
  (h100:∀i,i<ns.length→ns.getD i 0<100) (h5:ns.length≤5) (ha:acc.length≤100000) :
  Calls Tryz.prog 67 #[.pointer (some ⟨b,0,none⟩),.slice (some ⟨nb,0,none⟩) m m] V fun e w' =>
   e=.returned (.tuple #[])∧Lib.IsBuilderF 125 5 B b (Lib.byteCells (acc++dV ns)) w'∧Below B V w':=by
 subst hm;have hx:xs=(aP ns).toArray:=by rw [←hxs]
 subst hx;refine (xU B b nb acc ns (0,0) _ hI hB hn hnb h100 h5 ha).mono ?_;rintro e w' ⟨rfl,h1,b1,_⟩
 exact ⟨rfl,h1,b1⟩
theorem aJY (n:Nat) (la ga oa:Option Addr) (lc gc oc:Nat) (ls gs:List (Int×Int)) (os:List Int) (w:World)
  (hL:PairsAt w la ls) (hG:PairsAt w ga gs) (hO:IntsAt w oa os) (s:Small n ls gs os) :
  Calls Tryz.prog 38 #[.agg #[.int .i64 n,.slice la ls.length lc,.slice ga gs.length gc,.slice oa os.length oc]] w fun e w' =>
   e=.returned (.string ⟨(txt n ls gs os).toArray⟩)∧Below w.heap.size w w':=by
 obtain ⟨W0,hW0⟩:∃W0,W0=w.alloc (.cells #[.int .i64 n,.slice la ls.length lc,.slice ga gs.length gc,.slice oa os.length oc] 34):=⟨_,rfl⟩
 have bel0:Below w.heap.size w W0:=by rw [hW0];exact (Below.refl _ _).alloc (Nat.le_refl _) _
 have s0:W0.heap.size=w.heap.size+1:=by rw [hW0];simp
 have HC0:Hid (∀i,W0.cell? ⟨w.heap.size,i,none⟩=#[.int .i64 n,.slice la ls.length lc,.slice ga gs.length gc,.slice oa os.length oc][i]?):=fun i=>by rw [hW0];exact cell_of_row _ _ _ _ _ _ (aB _ _ _ rfl)
 have hI0:Lib.IsBuilderF 125 5 (w.heap.size+1) (w.heap.size+1) [] (W0.alloc (.cells #[.pointer none,.slice none 0 0] 125)):=by
  rw [←s0];exact Lib.IsBuilderF.of (Lib.fresh_isBuilder 125 5 W0)
 have hS:Calls Tryz.prog 66 #[.pointer (some ⟨w.heap.size+1,0,none⟩),.string ⟨#[97,97,103,32]⟩] (W0.alloc (.cells #[.pointer none,.slice none 0 0] 125)) fun e w'=>e=.returned (.tuple #[.int .i64 4,.nilIface])∧
   Lib.IsBuilderF 125 5 (w.heap.size+1) (w.heap.size+1) (Lib.byteCells [97,97,103,32]) w'∧Below W0.heap.size W0 w':=by
  refine (mG (w.heap.size+1) (w.heap.size+1) [] [97,97,103,32] _ hI0 (by simp) (by simp;omega)).mono ?_;rintro e w' ⟨rfl,h1,b1,_⟩
  exact ⟨rfl,h1,((Below.refl _ _).alloc (Nat.le_refl _) _).trans (by rw [s0];exact b1)⟩
 have hn4:=s.n4;have hl4:=s.l4;have ho4:=s.o4;have hg30:=s.g30;rw [hW0] at hS
 go_enter Tryz.func38,Tryz.ntmps38
 go_wp2_with fail
 refine hS.mono ?_;rw [←hW0];rintro e w1 ⟨rfl,hI1,b1⟩;clear hS hI0 hW0;have z1:w.heap.size<w1.heap.size:=by have:=b1.size;omega
 have HC1:Hid (∀i,w1.cell? ⟨w.heap.size,i,none⟩=#[.int .i64 n,.slice la ls.length lc,.slice ga gs.length gc,.slice oa os.length oc][i]?):=fun i=>((bZ b1).1 _ i (by omega)).trans (HC0.out i)
 have m0:=HC1.out 0;have m1:=HC1.out 1;have m2:=HC1.out 2;have m3:=HC1.out 3;have bl:w.heap.size+1<w1.heap.size:=by
  rcases hI1 with ⟨_,v,hv,_⟩ | ⟨_,v,hv,_⟩<;> exact (Array.getElem?_eq_some_iff.1 hv).1
 have hWL:Calls Tryz.prog 67 #[.pointer (some ⟨w.heap.size+1,0,none⟩),.slice (some ⟨w1.heap.size+1,0,none⟩) 5 5] ((w1.alloc (.cells #[.int .i64 n,.slice la ls.length lc,.slice ga gs.length gc,.slice oa os.length oc] 34)).alloc (.cells #[.int .i64 (↑n+↑ls.length+↑gs.length),.int .i64 n,.int .i64 ls.length,.int .i64 os.length,.int .i64 gs.length] 3)).drew fun e w' =>
   e=.returned (.tuple #[])∧Lib.IsBuilderF 125 5 (w.heap.size+1) (w.heap.size+1) (Lib.byteCells (mD n ls.length gs.length os.length)) w'∧Below (w.heap.size+1) w1 w':=by
  refine (fU (w.heap.size+1) (w.heap.size+1) (w1.heap.size+1) [97,97,103,32] [n+ls.length+gs.length,n,ls.length,os.length,gs.length] #[.int .i64 (↑n+↑ls.length+↑gs.length),.int .i64 n,.int .i64 ls.length,.int .i64 os.length,.int .i64 gs.length] 5 ((w1.alloc (.cells #[.int .i64 n,.slice la ls.length lc,.slice ga gs.length gc,.slice oa os.length oc] 34)).alloc (.cells #[.int .i64 (↑n+↑ls.length+↑gs.length),.int .i64 n,.int .i64 ls.length,.int .i64 os.length,.int .i64 gs.length] 3)).drew ((hI1.alloc _).alloc _) (aB (w1.alloc _) _ _ (by simp)) (by simp [aP]) rfl (by show _≤(World.alloc _ _).heap.size;simp;omega) (by omega) (all5 (by omega) (by omega) (by omega) (by omega) (by omega)) (by simp) (by simp)).mono ?_;rintro e w3 ⟨rfl,hI3,b3⟩
  exact ⟨rfl,hI3,(((Below.refl _ _).alloc (by omega) _).alloc (by simp;omega) _).drew.trans b3⟩
 go_wp2
 go_region_held3 (fun w'=>w'.cell? ⟨w.heap.size,0,none⟩=some (.int .i64 n)∧w'.cell? ⟨w.heap.size,1,none⟩=some (.slice la ls.length lc)∧w'.cell? ⟨w.heap.size,2,none⟩=some (.slice ga gs.length gc)∧w'.cell? ⟨w.heap.size,3,none⟩=some (.slice oa os.length oc)) (first | exact ⟨k0,k1,k2,k3⟩ | (simp [go_sem,m0,m1,m2,m3];done) | (simp [go_sem,World.cell?_alloc_past, *];done)) (first | (go_at_call 68;refine (iY n _ _ _ ls.length _ gs.length _ _ _ _ (by omega) (by omega) (by omega) (by omega)).mono ?_;rintro e w2 ⟨rfl,hw2⟩;have hw2:=hw2.symm;subst hw2) | (go_at_call 67;refine hWL.mono ?_;rintro e w3 ⟨rfl,hI3,b13⟩;have k0:=(b13.cell (p:=⟨w.heap.size,0,none⟩) (Nat.lt_succ_self _)).trans m0;have k1:=(b13.cell (p:=⟨w.heap.size,1,none⟩) (Nat.lt_succ_self _)).trans m1;have k2:=(b13.cell (p:=⟨w.heap.size,2,none⟩) (Nat.lt_succ_self _)).trans m2;have k3:=(b13.cell (p:=⟨w.heap.size,3,none⟩) (Nat.lt_succ_self _)).trans m3) | fail)
 go_wp2;obtain ⟨H,hH⟩:∃H,H=mD n ls.length gs.length os.length:=⟨_,rfl⟩
 have hHl:H.length≤20:=by rw [hH];exact aC8 s
 have HT:Hid (txt n ls gs os=H++gH n++aT n ls ls.length++cM os os.length++bK (n+ls.length) gs gs.length):=by rw [hH];rfl
 rw [←hH] at hI3;clear hH hWL hI1 k0 k1 k2 k3
 go_loopw [4,29] (fun sg i wr=>∃k:Nat,k≤n∧i=.int .i64 k∧sg=.int .i64 (2*(k:Int))∧Lib.IsBuilderF 125 5 (w.heap.size+1) (w.heap.size+1) (Lib.byteCells (H++gH k)) wr∧Below (w.heap.size+1) w1 wr)
  (fun _ i _=>n - (intOf i).toNat)
 case atStart=>exact ⟨0,Nat.zero_le _,rfl,rfl,by simpa [gH] using hI3,b13⟩
 case round =>
  obtain ⟨k,hk,rfl,rfl,hI,bel⟩:=hrel;clear hI3 b13;have hzr:w1.heap.size≤wr.heap.size:=bel.size
  by_cases hk2:k<n
  ·have hal:(H++gH k).length≤100000:=by have:=tC k (by omega);rw [List.length_append];omega
   have HX:Hid (H++gH (k+1)=H++gH k++dV [2*k+2]):=by unfold Hid;simp [gH]
   go_wp2_with (go_at_call 67;refine (fU (w.heap.size+1) (w.heap.size+1) wr.heap.size _ [2*k+2] #[.int .i64 (2*(k:Int)+2)] 1 _ (hI.alloc _) (aB wr _ _ rfl) (by simp [aP]) rfl (by simp;omega) (by omega) (all1 (by omega)) (by simp) hal).mono ?_;rintro e w4 ⟨rfl,hI4,b4⟩)
   go_roundw
   case rel=>exact ⟨k+1,by omega,by go_num,by go_num,by rw [HX.out];exact hI4,(bel.alloc (by omega) _).trans b4⟩
   case measure=>simp [intOf];omega
  ·obtain rfl:n=k:=by omega
   have q1:=(bel.cell (p:=⟨w.heap.size,1,none⟩) (Nat.lt_succ_self _)).trans m1;have q2:=(bel.cell (p:=⟨w.heap.size,2,none⟩) (Nat.lt_succ_self _)).trans m2;have q3:=(bel.cell (p:=⟨w.heap.size,3,none⟩) (Nat.lt_succ_self _)).trans m3;go_wp2;obtain ⟨H2,hH2⟩:∃H2,H2=H++gH n:=⟨_,rfl⟩
   have hHl2:H2.length≤40:=(by have:=tC n hn4;rw [hH2,List.length_append];omega)
   rw [←hH2] at hI HT;clear hH2
   go_loopw [4,6,40] (fun sg _ i wx=>∃k:Nat,k≤ls.length∧i=.int .i64 k∧sg=.int .i64 (2*((n:Int)+k))∧Lib.IsBuilderF 125 5 (w.heap.size+1) (w.heap.size+1) (Lib.byteCells (H2++aT n ls k)) wx∧Below (w.heap.size+1) w1 wx)
    (fun _ _ i _=>ls.length - (intOf i).toNat)
   case atStart=>exact ⟨0,Nat.zero_le _,rfl,by simp,by simpa [aT] using hI,bel⟩
   case round =>
    obtain ⟨k,hk,rfl,rfl,hI,bel⟩:=hrel
    rename World=>wx
    have hzr:w1.heap.size≤wx.heap.size:=bel.size;have belw:Below w.heap.size w wx:=(bel0.trans (b1.mono (by omega))).trans (bel.mono (by omega))
    by_cases hk2:k<ls.length
    ·have hal:(H2++aT n ls k).length≤100000:=by have:=jZ s k hk;rw [List.length_append];omega
     obtain ⟨b,off,rfl,hlt,hc⟩:=hL.get (by omega);obtain ⟨X,hX⟩:∃X:Nat,X=(ls.getD k (0,0)).1.toNat:=⟨_,rfl⟩
     obtain ⟨Y,hY⟩:∃Y:Nat,Y=(ls.getD k (0,0)).2.toNat:=⟨_,rfl⟩
     have hX1:X<100:=(by rw [hX];exact (s.l1 k hk2).2)
     have hY1:Y<100:=(by rw [hY];exact (s.l2 k hk2).2)
     have hc1:wx.cell? ⟨b,off+k*2,none⟩=some (.int .i64 (X:Int)):=(by rw [hX,(s.l1 k hk2).1];exact (belw.cell (p:=⟨b,_,none⟩) hlt).trans (hc k hk2).1)
     have hc2:wx.cell? ⟨b,off+k*2+1,none⟩=some (.int .i64 (Y:Int)):=(by rw [hY,(s.l2 k hk2).1];exact (belw.cell (p:=⟨b,_,none⟩) hlt).trans (hc k hk2).2)
     have HX:Hid (H2++aT n ls (k+1)=H2++aT n ls k++dV [2*(n+k)+2,X,Y]):=(by unfold Hid;simp [aT,hX,hY])
     clear hX hY hc
     go_wp2_with (go_at_call 67;refine (fU (w.heap.size+1) (w.heap.size+1) (wx.heap.size+1) _ [2*(n+k)+2,X,Y] #[.int .i64 (2*((n:Int)+k)+2),.int .i64 X,.int .i64 Y] 3 _ ((hI.alloc _).alloc _) (aB (wx.alloc _) _ _ (by simp)) (by simp [aP]) rfl (by simp;omega) (by omega) (all3 (by omega) hX1 hY1) (by simp) hal).mono ?_;rintro e w4 ⟨rfl,hI4,b4⟩)
     go_roundw
     case rel=>exact ⟨k+1,by omega,by go_num,by go_num,by rw [HX.out];exact hI4,((bel.alloc (by omega) _).alloc (by simp;omega) _).trans b4⟩
     case measure=>simp [intOf];omega
    ·obtain rfl:k=ls.length:=by omega
     have q1:=(bel.cell (p:=⟨w.heap.size,1,none⟩) (Nat.lt_succ_self _)).trans m1;have q2:=(bel.cell (p:=⟨w.heap.size,2,none⟩) (Nat.lt_succ_self _)).trans m2;have q3:=(bel.cell (p:=⟨w.heap.size,3,none⟩) (Nat.lt_succ_self _)).trans m3;go_wp2;obtain ⟨H3,hH3⟩:∃H3,H3=H2++aT n ls ls.length:=⟨_,rfl⟩
     have hHl3:H3.length≤100:=(by have:=jZ s ls.length (Nat.le_refl _);rw [hH3,List.length_append];omega)
     rw [←hH3] at hI HT;clear hH3
     go_loopw [8,57] (fun _ i wy=>∃k:Nat,k≤os.length∧i=.int .i64 k∧Lib.IsBuilderF 125 5 (w.heap.size+1) (w.heap.size+1) (Lib.byteCells (H3++cM os k)) wy∧Below (w.heap.size+1) w1 wy)
      (fun _ i _=>os.length - (intOf i).toNat)
     case atStart=>exact ⟨0,Nat.zero_le _,rfl,by simpa [cM] using hI,bel⟩
     case round =>
      clear belw hzr;obtain ⟨k,hk,rfl,hI,bel⟩:=hrel
      rename World=>wy
      have hzr:w1.heap.size≤wy.heap.size:=bel.size;have belw:Below w.heap.size w wy:=(bel0.trans (b1.mono (by omega))).trans (bel.mono (by omega))
      by_cases hk2:k<os.length
      ·have hal:(H3++cM os k).length≤100000:=by have:=pD s k hk;rw [List.length_append];omega
       obtain ⟨b,off,rfl,hlt,hc⟩:=hO.get (by omega);obtain ⟨X,hX⟩:∃X:Nat,X=(os.getD k 0).toNat:=⟨_,rfl⟩
       have hX1:X<100:=(by rw [hX];exact (s.o1 k hk2).2)
       have hc1:wy.cell? ⟨b,off+k,none⟩=some (.int .i64 (X:Int)):=(by rw [hX,(s.o1 k hk2).1];exact (belw.cell (p:=⟨b,_,none⟩) hlt).trans (hc k hk2))
       have HX:Hid (H3++cM os (k+1)=H3++cM os k++dV [X]):=(by unfold Hid;simp [cM,hX])
       clear hX hc
       go_wp2_with (go_at_call 67;refine (fU (w.heap.size+1) (w.heap.size+1) wy.heap.size _ [X] #[.int .i64 X] 1 _ (hI.alloc _) (aB wy _ _ rfl) (by simp [aP]) rfl (by simp;omega) (by omega) (all1 hX1) (by simp) hal).mono ?_;rintro e w4 ⟨rfl,hI4,b4⟩)
       go_roundw
       case rel=>exact ⟨k+1,by omega,by go_num,by rw [HX.out];exact hI4,(bel.alloc (by omega) _).trans b4⟩
       case measure=>simp [intOf];omega
      ·obtain rfl:k=os.length:=by omega
       have q1:=(bel.cell (p:=⟨w.heap.size,1,none⟩) (Nat.lt_succ_self _)).trans m1;have q2:=(bel.cell (p:=⟨w.heap.size,2,none⟩) (Nat.lt_succ_self _)).trans m2;have q3:=(bel.cell (p:=⟨w.heap.size,3,none⟩) (Nat.lt_succ_self _)).trans m3;go_wp2;obtain ⟨H4,hH4⟩:∃H4,H4=H3++cM os os.length:=⟨_,rfl⟩
       have hHl4:H4.length≤200:=(by have:=pD s os.length (Nat.le_refl _);rw [hH4,List.length_append];omega)
       rw [←hH4] at hI HT;clear hH4
       go_loopw [4,10,68] (fun sg _ i wz=>∃k:Nat,k≤gs.length∧i=.int .i64 k∧sg=.int .i64 (2*((n:Int)+ls.length+k))∧Lib.IsBuilderF 125 5 (w.heap.size+1) (w.heap.size+1) (Lib.byteCells (H4++bK (n+ls.length) gs k)) wz∧Below (w.heap.size+1) w1 wz)
        (fun _ _ i _=>gs.length - (intOf i).toNat)
       case atStart=>exact ⟨0,Nat.zero_le _,rfl,by simp,by simpa [bK] using hI,bel⟩
       case round =>
        clear belw hzr;obtain ⟨k,hk,rfl,rfl,hI,bel⟩:=hrel
        rename World=>wz
        have hzr:w1.heap.size≤wz.heap.size:=bel.size;have belw:Below w.heap.size w wz:=(bel0.trans (b1.mono (by omega))).trans (bel.mono (by omega));have hal:(H4++bK (n+ls.length) gs k).length≤100000:=by have:=sZ s k hk;rw [List.length_append];omega
        by_cases hk2:k<gs.length
        ·obtain ⟨b,off,rfl,hlt,hc⟩:=hG.get (by omega)
         obtain ⟨X,hX⟩:∃X:Nat,X=(gs.getD k (0,0)).1.toNat:=⟨_,rfl⟩
         obtain ⟨Y,hY⟩:∃Y:Nat,Y=(gs.getD k (0,0)).2.toNat:=⟨_,rfl⟩
         have hX1:X<100:=(by rw [hX];exact (s.g1 k hk2).2)
         have hY1:Y<100:=(by rw [hY];exact (s.g2 k hk2).2)
         have hc1:wz.cell? ⟨b,off+k*2,none⟩=some (.int .i64 (X:Int)):=(by rw [hX,(s.g1 k hk2).1];exact (belw.cell (p:=⟨b,_,none⟩) hlt).trans (hc k hk2).1)
         have hc2:wz.cell? ⟨b,off+k*2+1,none⟩=some (.int .i64 (Y:Int)):=(by rw [hY,(s.g2 k hk2).1];exact (belw.cell (p:=⟨b,_,none⟩) hlt).trans (hc k hk2).2)
         have HX:Hid (H4++bK (n+ls.length) gs (k+1)=H4++bK (n+ls.length) gs k++dV [2*(n+ls.length+k)+2,X,Y]):=(by unfold Hid;simp [bK,hX,hY])
         clear hX hY hc
         go_wp2_with (go_at_call 67;refine (fU (w.heap.size+1) (w.heap.size+1) (wz.heap.size+1) _ [2*(n+ls.length+k)+2,X,Y] #[.int .i64 (2*((n:Int)+ls.length+k)+2),.int .i64 X,.int .i64 Y] 3 _ ((hI.alloc _).alloc _) (aB (wz.alloc _) _ _ (by simp)) (by simp [aP]) rfl (by simp;omega) (by omega) (all3 (by omega) hX1 hY1) (by simp) hal).mono ?_;rintro e w4 ⟨rfl,hI4,b4⟩)
         go_roundw
         case rel=>exact ⟨k+1,by omega,by go_num,by go_num,by rw [HX.out];exact hI4,((bel.alloc (by omega) _).alloc (by simp;omega) _).trans b4⟩
         case measure=>simp [intOf];omega
        ·obtain rfl:k=gs.length:=by omega
         go_wp2_with (go_at_call 69;refine (vQ (w.heap.size+1) (w.heap.size+1) _ _ hI (by omega)).mono ?_;rintro e w5 ⟨rfl,b5⟩)
         go_ret
         exact ⟨by rw [HT.out];rfl,belw.trans (b5.mono (by omega))⟩
def wrS (n:Int) (ls gs:List (Int×Int)) (os:List Int):List UInt8:=if aG n ls gs os then txt n.toNat ls gs os else []
def wrE (n:Int) (ls gs:List (Int×Int)) (os:List Int):Int:=if aG n ls gs os then 0 else 2
theorem aHE (n:Int) (la ga oa:Option Addr) (lc gc oc:Nat) (ls gs:List (Int×Int)) (os:List Int) (w:World)
  (hL:PairsAt w la ls) (hG:PairsAt w ga gs) (hO:IntsAt w oa os) :
  Calls Tryz.prog 15 #[.agg #[.int .i64 n,.slice la ls.length lc,.slice ga gs.length gc,.slice oa os.length oc]] w fun e w' =>
   e=.returned (.tuple #[.string ⟨(wrS n ls gs os).toArray⟩,.int .i64 (wrE n ls gs os)])∧Below w.heap.size w w':=by
 have bel0:Below w.heap.size w (w.alloc (.cells #[.int .i64 n,.slice la ls.length lc,.slice ga gs.length gc,.slice oa os.length oc] 34)):=(Below.refl _ _).alloc (Nat.le_refl _) _;have hL0:=hL.below bel0;have hG0:=hG.below bel0;have hO0:=hO.below bel0
 cases hr:aG n ls gs os
 ·have e1:wrS n ls gs os=[]:=by simp [wrS,hr]
  have e2:wrE n ls gs os=2:=by simp [wrE,hr]
  rw [e1,e2]
  go_enter Tryz.func15,Tryz.ntmps15
  go_wp2_with (go_at_call 37;refine (cI _ hL0 hG0 hO0 hr).mono ?_;rintro e w1 ⟨rfl,b1⟩)
  go_ret2
  exact ⟨rfl,bel0.trans (b1.mono (by simp))⟩
 ·have e2:wrE n ls gs os=0:=by simp [wrE,hr]
  have e1:wrS n ls gs os=txt n.toNat ls gs os:=by simp [wrS,hr]
  rw [e1,e2];clear e1 e2;obtain ⟨N,rfl⟩:=Int.eq_ofNat_of_zero_le (cD hr).1.1;have s:=aDB hr;have hT:((N:Int)).toNat=N:=rfl;rw [hT]
  go_enter Tryz.func15,Tryz.ntmps15
  go_wp2_with (first | (go_at_call 37;refine (cI _ hL0 hG0 hO0 hr).mono ?_;rintro e w1 ⟨rfl,b1⟩;have c1:=(bZ b1).1;have y1:w.heap.size<w1.heap.size:=Nat.lt_of_lt_of_le (by simp) b1.size) | (go_at_call 38;refine (aJY N la ga oa lc gc oc ls gs os _ (hL0.below b1) (hG0.below b1) (hO0.below b1) s).mono ?_;rintro e w2 ⟨rfl,b2⟩))
  go_ret2
  exact ⟨rfl,(bel0.trans (b1.mono (by simp))).trans (b2.mono (by omega))⟩
def vU (n:Nat):UInt8:=UInt8.ofNat (48+n % 10)
theorem aDR (n:Nat):(48+(n:Int) % 10)=((vU n).toNat:Int):=by
 have:(vU n).toNat=48+n % 10:=by simp [vU];omega
 rw [this];omega
theorem yN (n:Nat) (w:World):(convert 123 9 (.slice (some ⟨w.heap.size,0,none⟩) 1 1)).run Tryz.prog (w.alloc (.cells #[.int .u8 (48+(n:Int) % 10)] 5))=
  .ok (.string ⟨#[vU n]⟩) (w.alloc (.cells #[.int .u8 (48+(n:Int) % 10)] 5)):=by
 refine run_convert_bytes_back _ 123 9 5 ⟨w.heap.size,0,none⟩ 1 [vU n] Tryz.underlying123 Tryz.underlying5 Tryz.underlying9 (fun j hj=>?_)
 match j,hj with
 | 0,_ =>
  rw [aDR]
  simp [Addr.add]
theorem iD (a b:List UInt8):(⟨a.toArray⟩:ByteArray)++ (⟨b.toArray⟩:ByteArray)=⟨(a++b).toArray⟩:=by
 apply ByteArray.ext
 simp
theorem aKL (n:Nat) (h:n<10):Lib.decDigits n=[vU n]:=by
 rw [Lib.decDigits,dif_pos h,vU,Nat.mod_eq_of_lt h]
theorem aHY (n:Nat) (h:¬n<10):Lib.decDigits n=Lib.decDigits (n / 10)++ [vU n]:=by
 rw [Lib.decDigits,dif_neg h,vU]
theorem rE (z:Int) (n:Nat) (hz:z=n) (h:n<10) (w:World) :
  Calls Tryz.prog 75 #[.int .i64 z] w fun e w'=>e=.returned (.string ⟨(Lib.decDigits n).toArray⟩)∧Below w.heap.size w w':=by
 subst hz;have hc:=yN n w;rw [aKL n h];have h2:(n:Int)<10:=by omega
 go_enter Tryz.func75,Tryz.ntmps75
 go_wp2
 go_ret
 exact ⟨rfl,(Below.refl _ _).alloc (Nat.le_refl _) _⟩
theorem rD (z:Int) (n:Nat) (hz:z=n) (h:n<100) (w:World) :
  Calls Tryz.prog 75 #[.int .i64 z] w fun e w'=>e=.returned (.string ⟨(Lib.decDigits n).toArray⟩)∧Below w.heap.size w w':=by
 by_cases h1:n<10
 ·exact rE z n hz h1 w
 subst hz;have hc:=yN n w;have h2:¬(n:Int)<10:=by omega
 have hl:(Lib.decDigits (n / 10)).length≤2:=rC _ (by omega);rw [aHY n h1,←iD]
 go_enter Tryz.func75,Tryz.ntmps75
 go_wp2_with (go_at_call 75;refine (rE _ (n / 10) (by omega) (by omega) _).mono ?_;rintro e w1 ⟨rfl,b1⟩)
 go_ret
 exact ⟨rfl,((Below.refl _ _).alloc (Nat.le_refl _) _).trans (b1.mono (by simp))⟩
theorem aIH (a:Option Addr) (cap:Nat) (ns:List Nat) (w:World) (hI:IntsAt w a (ns.map fun x=>((x:Nat):Int))) (h100:∀i,i<ns.length→ns.getD i 0<100) (h5:ns.length≤5) :
  Calls Tryz.prog 47 #[.slice a ns.length cap] w fun e w'=>e=.returned (.string ⟨(dV ns).toArray⟩)∧Below w.heap.size w w':=by
 go_enter Tryz.func47,Tryz.ntmps47
 go_wp2
 go_loopw [3,4] (fun s i wr=>∃k:Nat,k≤ns.length∧i=.int .i64 k∧s=.string ⟨(dX ns k).toArray⟩∧Below w.heap.size w wr)
  (fun _ i _=>ns.length - (intOf i).toNat)
 case atStart=>exact ⟨0,Nat.zero_le _,rfl,rfl,Below.refl _ _⟩
 case round =>
  obtain ⟨k,hk,rfl,rfl,hbel⟩:=hrel;have hlen:=oK ns k (fun i hi=>h100 i (by omega))
  by_cases hk2:k<ns.length
  ·obtain ⟨b,off,rfl,hlt,hc⟩:=hI.get (by simp;omega)
   obtain ⟨X,hX⟩:∃X,X=ns.getD k 0:=⟨_,rfl⟩
   have hX1:X<100:=(by rw [hX];exact h100 k hk2)
   have hXl:=rC X hX1;have hcy:wr.cell? ⟨b,off+k,none⟩=some (.int .i64 (X:Int)):=by
    rw [hX];refine (hbel.cell (p:=⟨b,_,none⟩) hlt).trans ((hc k (by simpa using hk2)).trans ?_)
    simp [hk2]
   by_cases hk0:0<k
   ·have HX:Hid (dX ns (k+1)=dX ns k++[32]++ Lib.decDigits X):=by unfold Hid;rw [mA ns k hk0,←hX]
    clear hX hc
    go_wp2_with (go_at_call 75;refine (rD _ X rfl hX1 _).mono ?_;rintro e w1 ⟨rfl,b1⟩)
    go_roundw
    case rel=>exact ⟨k+1,by omega,by go_num,by rw [HX.out,←iD,←iD],hbel.trans (b1.mono (by first | omega | exact hbel.size))⟩
    case measure=>simp [intOf];omega
   ·obtain rfl:k=0:=by omega
    have hcy0:wr.cell? ⟨b,off,none⟩=some (.int .i64 (X:Int)):=hcy;have HX:Hid (dX ns (0+1)=dX ns 0++Lib.decDigits X):=(by unfold Hid;rw [jS ns,←hX];simp [dX])
    clear hX hc
    go_wp2_with (go_at_call 75;refine (rD _ X rfl hX1 _).mono ?_;rintro e w1 ⟨rfl,b1⟩)
    go_roundw
    case rel=>exact ⟨0+1,by omega,by go_num,by rw [HX.out,←iD],hbel.trans (b1.mono hbel.size)⟩
    case measure=>simp [intOf];omega
  ·obtain rfl:k=ns.length:=by omega
   go_wp2
   go_ret
   exact ⟨by rw [dV,←iD];rfl,hbel⟩
end Go.Proofs.YtgpaajdfkekjiaaGreatDoor
