/-
  A part of the proof of the statement All: texts of ours, made small by program (blanks, names).
-/
import Derived.Test.YtgpaajdfkekjiaaGreatDoorPn
import Derived.Test.YtgpaajdfkekjiaaGreatDoorQg
import Derived.Test.YtgpaajdfkekjiaaGreatDoorQj
import Derived.Test.YtgpaajdfkekjiaaGreatDoorPq
namespace Go.Proofs.YtgpaajdfkekjiaaGreatDoor
set_option maxHeartbeats 8000000
set_option maxRecDepth 100000
open Go.RowKit
theorem aED (R:Nat→Nat) (P N:Nat) (v:Nat→Value) (es:Nat→List Entry) (sv:Value) (n m nn:Int) (la ga oa lb gb ob ia:Option Addr) (lc gc oc ld gd od ic:Nat) (ls gs:List (Int×Int)) (os:List Int) (lt gt:List (Int×Int)) (ot ins:List Int) (w:World)
  (hB:Book2 R w P v es N) (hN:N≤690000000000)
  (hml:ls.length*16≤140737488351232) (hmg:gs.length*16≤140737488351232) (hmo:os.length*8≤140737488351232) (hnl:lt.length*16≤140737488351232) (hng:gt.length*16≤140737488351232) (hno:ot.length*8≤140737488351232) (hmi:ins.length*8≤140737488351232)
  (hL:PairsAt w la ls) (hG:PairsAt w ga gs) (hO:IntsAt w oa os) (kL:PairsAt w lb lt) (kG:PairsAt w gb gt) (kO:IntsAt w ob ot) (hI:IntsAt w ia ins)
  (sL:∀b o,la=some ⟨b,o,none⟩→ls≠[]→¬R b<6) (sG:∀b o,ga=some ⟨b,o,none⟩→gs≠[]→¬R b<6) (sO:∀b o,oa=some ⟨b,o,none⟩→os≠[]→¬R b<6)
  (rL:∀b o,lb=some ⟨b,o,none⟩→lt≠[]→¬R b<6) (rG:∀b o,gb=some ⟨b,o,none⟩→gt≠[]→¬R b<6) (rO:∀b o,ob=some ⟨b,o,none⟩→ot≠[]→¬R b<6) (sI:∀b o,ia=some ⟨b,o,none⟩→ins≠[]→¬R b<6)
  (HP:∀(W:World) (la1 ga1 oa1 lb1 gb1 ob1:Option Addr) (lc1 gc1 oc1 ld1 gd1 od1:Nat),Below w.heap.size w W→PairsAt W la1 ls→PairsAt W ga1 gs→IntsAt W oa1 os→PairsAt W lb1 lt→PairsAt W gb1 gt→IntsAt W ob1 ot →
   Calls Tryz.prog 33 #[.agg #[.int .i64 n,.slice la1 ls.length lc1,.slice ga1 gs.length gc1,.slice oa1 os.length oc1],.agg #[.int .i64 m,.slice lb1 lt.length ld1,.slice gb1 gt.length gd1,.slice ob1 ot.length od1]] W (tV (fQ n ls gs os m lt gt ot) W))
  (HF:∀(W:World),Below w.heap.size w W→Calls Tryz.prog 34 #[.agg #[.int .i64 n,.slice la ls.length lc,.slice ga gs.length gc,.slice oa os.length oc],.agg #[.int .i64 m,.slice lb lt.length ld,.slice gb gt.length gd,.slice ob ot.length od]] W (tV (fQ n ls gs os m lt gt ot) W)) :
  Calls Tryz.prog 13 #[.pointer (some ⟨P,0,none⟩),.agg #[.int .i64 6,sv,.int .i64 n,.slice la ls.length lc,.slice ga gs.length gc,.slice oa os.length oc,.int .i64 m,.slice lb lt.length ld,.slice gb gt.length gd,.slice ob ot.length od,.slice ia ins.length ic,.int .i64 nn]] w fun e w'=>e=.returned (.bool true)∧jH R w P N w':=by
 obtain ⟨W0,hW0⟩:∃W0,W0=w.alloc (.cells #[.int .i64 6,sv,.int .i64 n,.slice la ls.length lc,.slice ga gs.length gc,.slice oa os.length oc,.int .i64 m,.slice lb lt.length ld,.slice gb gt.length gd,.slice ob ot.length od,.slice ia ins.length ic,.int .i64 nn] 42):=⟨_,rfl⟩
 have b0:Below w.heap.size w W0:=by rw [hW0];exact (Below.refl _ _).alloc (Nat.le_refl _) _
 have s0:W0.heap.size=w.heap.size+1:=by rw [hW0];simp
 have C0:∀i,W0.cell? ⟨w.heap.size,i,none⟩=#[.int .i64 6,sv,.int .i64 n,.slice la ls.length lc,.slice ga gs.length gc,.slice oa os.length oc,.int .i64 m,.slice lb lt.length ld,.slice gb gt.length gd,.slice ob ot.length od,.slice ia ins.length ic,.int .i64 nn][i]?:=fun i=>by rw [hW0];exact cell_of_row _ _ _ _ _ _ (heap_alloc_new _ _)
 have hd:=cH n la ga oa lc gc oc ls gs os W0 hml hmg hmo (hL.below b0) (hG.below b0) (hO.below b0);rw [hW0] at hd;have HC0:=hidK C0;have HS0:=hidK s0;have HB:=hidK hB;have hP:=hB.lt;clear C0 s0 hB
 go_enter Tryz.func13,Tryz.ntmps13
 go_wp2_with fail
 refine hd.mono ?_;rw [←hW0];rintro e w1 ⟨xl,xg,xo,rfl,hxl,hx1,hx2,rxL,rxG,rxO,b1⟩;clear hd hW0;have C1:=aQ HC0.out (by rw [HS0.out];omega) b1;have z1:w.heap.size<w1.heap.size:=Nat.lt_of_lt_of_le (by rw [HS0.out];omega) b1.size;have B01:Below w.heap.size w w1:=b0.trans (b1.mono (by rw [HS0.out];omega));have a6:=C1 6;have a7:=C1 7;have a8:=C1 8;have a9:=C1 9;have HC1:=hidK C1;clear C1
 go_wp2_with fail
 refine (cH m lb gb ob ld gd od lt gt ot _ hnl hng hno ((kL.below B01).allocK _) ((kG.below B01).allocK _) ((kO.below B01).alloc_any _)).mono ?_;rintro e w2 ⟨yl,yg,yo,rfl,hyl,hy1,hy2,ryL,ryG,ryO,b2⟩;have B12:=aY b2;have HX2:Hid (∀i,w2.cell? ⟨w1.heap.size,i,none⟩=#[.int .i64 n,.slice (some ⟨xl,0,none⟩) ls.length (ls.length+8),.slice (some ⟨xg,0,none⟩) gs.length (gs.length+8),.slice (some ⟨xo,0,none⟩) os.length (os.length+8)][i]?):=bL b2;have HC2:Hid (∀i,w2.cell? ⟨w.heap.size,i,none⟩=#[.int .i64 6,sv,.int .i64 n,.slice la ls.length lc,.slice ga gs.length gc,.slice oa os.length oc,.int .i64 m,.slice lb lt.length ld,.slice gb gt.length gd,.slice ob ot.length od,.slice ia ins.length ic,.int .i64 nn][i]?):=aQ HC1.out z1 B12;have hyl':w1.heap.size+1≤yl:=by simpa using hyl
 have z2:w1.heap.size<w2.heap.size:=Nat.lt_of_lt_of_le (by simp) b2.size;have B02:Below w.heap.size w w2:=B01.trans (B12.mono (by omega));have y2:w.heap.size<w2.heap.size:=by omega
 have a10:=HC2.out 10;clear a6 a7 a8 a9 b2 hyl
 go_wp2_with fail
 refine (cL ia ic ins _ hmi ((hI.below B02).alloc_any _)).mono ?_;rintro e w3 ⟨zi,rfl,hzi,rzI,b3⟩;have B23:=aY b3;have HY3:Hid (∀i,w3.cell? ⟨w2.heap.size,i,none⟩=#[.int .i64 m,.slice (some ⟨yl,0,none⟩) lt.length (lt.length+8),.slice (some ⟨yg,0,none⟩) gt.length (gt.length+8),.slice (some ⟨yo,0,none⟩) ot.length (ot.length+8)][i]?):=bL b3;have HC3:Hid (∀i,w3.cell? ⟨w.heap.size,i,none⟩=#[.int .i64 6,sv,.int .i64 n,.slice la ls.length lc,.slice ga gs.length gc,.slice oa os.length oc,.int .i64 m,.slice lb lt.length ld,.slice gb gt.length gd,.slice ob ot.length od,.slice ia ins.length ic,.int .i64 nn][i]?):=aQ HC2.out (by omega) B23;have HX3:Hid (∀i,w3.cell? ⟨w1.heap.size,i,none⟩=#[.int .i64 n,.slice (some ⟨xl,0,none⟩) ls.length (ls.length+8),.slice (some ⟨xg,0,none⟩) gs.length (gs.length+8),.slice (some ⟨xo,0,none⟩) os.length (os.length+8)][i]?):=aQ HX2.out z2 B23;have hzi':w2.heap.size+1≤zi:=by simpa using hzi
 have z3:w2.heap.size<w3.heap.size:=Nat.lt_of_lt_of_le (by simp) b3.size;have B03:Below w.heap.size w w3:=B02.trans (B23.mono (by omega));have B13:Below w1.heap.size w1 w3:=B12.trans (B23.mono (by omega));have y3:w.heap.size<w3.heap.size:=by omega
 have yx3:w1.heap.size<w3.heap.size:=by omega
 have rxL3:=aD rxL B13;have rxG3:=aD rxG B13;have rxO3:=aD rxO B13;have ryL3:=aD ryL B23;have ryG3:=aD ryG B23;have ryO3:=aD ryO B23;have tops:xo<w1.heap.size∧yo<w2.heap.size∧zi<w3.heap.size:=⟨rxO.lt,ryO.lt,rzI.lt⟩
 have hxl':w.heap.size+1≤xl:=by rw [HS0.out] at hxl;exact hxl
 have HR:=hidK HB.out.hR;have HB3:=hidK (HB.out.below B03);clear a10 b3 hzi HX2 HC2 rxL rxG rxO ryL ryG ryO b0 b1;have c0:=HC3.out 0;have x0:=HX3.out 0;have x1:=HX3.out 1;have x2:=HX3.out 2;have x3:=HX3.out 3;have y0:=HY3.out 0;have y1:=HY3.out 1;have y2':=HY3.out 2;have y3':=HY3.out 3
 go_wp2_with fail
 refine (HP w3 (some ⟨xl,0,none⟩) (some ⟨xg,0,none⟩) (some ⟨xo,0,none⟩) (some ⟨yl,0,none⟩) (some ⟨yg,0,none⟩) (some ⟨yo,0,none⟩) _ _ _ _ _ _ B03 (dM rxL3) (dM rxG3) (jD rxO3) (dM ryL3) (dM ryG3) (jD ryO3)).mono ?_;rintro e w4 ⟨sm,rc,tr,ou,er,ta,tc,hans,rfl,own4,htr,b4⟩;have HC4:Hid (∀i,w4.cell? ⟨w.heap.size,i,none⟩=#[.int .i64 6,sv,.int .i64 n,.slice la ls.length lc,.slice ga gs.length gc,.slice oa os.length oc,.int .i64 m,.slice lb lt.length ld,.slice gb gt.length gd,.slice ob ot.length od,.slice ia ins.length ic,.int .i64 nn][i]?):=aQ HC3.out (by omega) b4;have B04:Below w.heap.size w w4:=B03.trans (b4.mono (by omega));have s34:=b4.size;have lw4:w.heap.size<w4.heap.size:=by omega
 have c2:=HC4.out 2;have c3:=HC4.out 3;have c4:=HC4.out 4;have c5:=HC4.out 5;have c6:=HC4.out 6;have c7:=HC4.out 7;have c8:=HC4.out 8;have c9:=HC4.out 9;have HANS:=hidK hans;have lo4:∀b,(Value.slice ta tr.length tc).ownBlock=some b→w3.heap.size≤b∧b<w4.heap.size:=fun b e=>own4.lt b e
 clear c0 x0 x1 x2 x3 y0 y1 y2' y3' hans
 go_wp2_with fail
 refine (HF _ (B04.alloc B04.size _)).mono ?_;rintro e w5 ⟨sm',rc',tr',ou',er',ta',tc',hans',rfl,own5,htr',b5⟩;obtain ⟨rfl,rfl,rfl,rfl,rfl⟩:=aDL HANS.out hans';have BA5:∀i,w5.cell? ⟨w4.heap.size,i,none⟩=#[.bool sm,.int .i64 rc,.slice ta tr.length tc,.int .i64 ou][i]?:=bL b5;have B45:=aY b5;have s45:w4.heap.size<w5.heap.size:=Nat.lt_of_lt_of_le (by simp) b5.size;have B35:Below w3.heap.size w3 w5:=b4.trans (B45.mono b4.size);have B05:Below w.heap.size w w5:=B03.trans (B35.mono (by omega));have own45:=aN own4 B45;have O4:=hidK own45;have O5:=hidK own5;have HBA5:=hidK BA5;clear c2 c3 c4 c5 c6 c7 c8 c9 own4 own5 own45 hans' BA5
 go_wp2_with fail
 refine (dK R P N v es _ ((HB.out.below B05).below ((Below.refl _ _).alloc (Nat.le_refl _) _)) (by omega)).mono ?_;rintro e w6 ⟨rfl,b6⟩;have B56:=aY b6;have BB6:∀i,w6.cell? ⟨w5.heap.size,i,none⟩=#[.bool sm,.int .i64 rc,.slice ta' tr.length tc',.int .i64 ou][i]?:=bL b6;have BA6:∀i,w6.cell? ⟨w4.heap.size,i,none⟩=#[.bool sm,.int .i64 rc,.slice ta tr.length tc,.int .i64 ou][i]?:=aQ HBA5.out s45 B56;have s56:w5.heap.size<w6.heap.size:=Nat.lt_of_lt_of_le (by simp) b6.size;have a2:=BA6 2;have d2:=BB6 2;have HBA6:=hidK BA6;have HBB6:=hidK BB6;clear BA6 BB6
 go_wp2_with fail
 refine (mC ta ta' _ _ _ (ints tr) _ (qH _).symm (by rw [qH];omega) (sD (aN O4.out B56) rfl) (sD (aN O5.out B56) rfl)).mono ?_;rintro e w6b ⟨rfl,b6b⟩;have B5b:Below w5.heap.size w5 w6b:=B56.trans (b6b.mono (by omega));have B36:Below w3.heap.size w3 w6b:=B35.trans (B5b.mono (by omega));have B06:Below w.heap.size w w6b:=B03.trans (B36.mono (by omega));have HBA7:=hidK (aQ HBA6.out (by omega) b6b);have HBB7:=hidK (aQ HBB6.out (by omega) b6b);have s6b:=b6b.size;have OW:=aN O4.out B5b;clear a2 d2;have a2:=HBA7.out 2
 go_wp2_with fail
 refine (pI R P N v es ta tr.length tc _ _ _ (HB.out.below B06) (by omega) (by omega) OW (fun b e=>by have:=(lo4 b e).1;have:=HR.out b;omega)).mono ?_;rintro e w7 ⟨rfl,R7,v7,es7,hB7,K7,n7⟩;have K37:Keeps (fun k=>R k<6) w3 w7:=iI B36 K7 (fun k h=>(lo4 k h).1);have n7:∀k,R7 k<6→R k<6∨w3.heap.size≤k:=fun k hk=>by
  rcases n7 k hk with h | h | h
  ·exact .inl h
  ·exact .inr (lo4 k h).1
  ·exact .inr (by omega)
 have hB7:=hB7.mono (show N+1≤N+1 by omega);have nb:∀b,w4.heap.size≤b→¬(R b<6∨(Value.slice ta tr.length tc).ownBlock=some b):=fun b hb h=>by
  rcases h with h | h
  ·have:=HR.out b h;omega
  ·have:=(lo4 b h).2;omega
 have HBA8:=hidK (aJ HBA7.out (by omega) K7 (nb _ (by omega)));have HBB8:=hidK (aJ HBB7.out (by omega) K7 (nb _ (by omega)));clear a2;have a0:=HBA8.out 0;have a1:=HBA8.out 1;have a3:=HBA8.out 3;have d0:=HBB8.out 0;have d1:=HBB8.out 1;have d3:=HBB8.out 3;have nT:∀k,w.heap.size≤k→¬R k<6:=fun k h1 h2=>by have:=HR.out k h2;omega
 have HC7:Hid (∀i,w7.cell? ⟨w.heap.size,i,none⟩=#[.int .i64 6,sv,.int .i64 n,.slice la ls.length lc,.slice ga gs.length gc,.slice oa os.length oc,.int .i64 m,.slice lb lt.length ld,.slice gb gt.length gd,.slice ob ot.length od,.slice ia ins.length ic,.int .i64 nn][i]?):=aJ HC3.out y3 K37 (nT _ (Nat.le_refl _));have HX7:Hid (∀i,w7.cell? ⟨w1.heap.size,i,none⟩=#[.int .i64 n,.slice (some ⟨xl,0,none⟩) ls.length (ls.length+8),.slice (some ⟨xg,0,none⟩) gs.length (gs.length+8),.slice (some ⟨xo,0,none⟩) os.length (os.length+8)][i]?):=aJ HX3.out yx3 K37 (nT _ (by omega));have HY7:Hid (∀i,w7.cell? ⟨w2.heap.size,i,none⟩=#[.int .i64 m,.slice (some ⟨yl,0,none⟩) lt.length (lt.length+8),.slice (some ⟨yg,0,none⟩) gt.length (gt.length+8),.slice (some ⟨yo,0,none⟩) ot.length (ot.length+8)][i]?):=aJ HY3.out z3 K37 (nT _ (by omega));have rxL7:=aC rxL3 K37 (nT _ (by omega));have rxG7:=aC rxG3 K37 (nT _ (by omega));have rxO7:=aC rxO3 K37 (nT _ (by omega));have ryL7:=aC ryL3 K37 (nT _ (by omega));have ryG7:=aC ryG3 K37 (nT _ (by omega));have ryO7:=aC ryO3 K37 (nT _ (by omega));have rzI7:=aC rzI K37 (nT _ (by omega));have s37:w3.heap.size≤w7.heap.size:=K37.size;have hL7:PairsIn xl w7 la ls:=(((hL.into).below B03).keeps K37 sL).mono (by omega);have hG7:PairsIn xl w7 ga gs:=(((hG.into).below B03).keeps K37 sG).mono (by omega);have hO7:IntsIn xl w7 oa os:=(((hO.into).below B03).keeps K37 sO).mono (by omega);have kL7:PairsIn xl w7 lb lt:=(((kL.into).below B03).keeps K37 rL).mono (by omega);have kG7:PairsIn xl w7 gb gt:=(((kG.into).below B03).keeps K37 rG).mono (by omega);have kO7:IntsIn xl w7 ob ot:=(((kO.into).below B03).keeps K37 rO).mono (by omega);have hI7:IntsIn xl w7 ia ins:=(((hI.into).below B03).keeps K37 sI).mono (by omega);have K07:Keeps (fun k=>R k<6) w w7:=(Keeps.of_below B03).trans K37;have sev:∀lo hi,w.heap.size<lo→hi≤w3.heap.size→∀k,R7 k<6→¬(lo≤k∧k<hi):=fun lo hi h1 h2 k hk h=>by
  rcases n7 k hk with hk | hk
  ·have:=HR.out k hk;omega
  ·omega
 have x0:=HX7.out 0;have x1:=HX7.out 1;have x2:=HX7.out 2;have x3:=HX7.out 3;have c2:=HC7.out 2;have c3:=HC7.out 3;have c4:=HC7.out 4;have c5:=HC7.out 5;clear rxL3 rxG3 rxO3 ryL3 ryG3 ryO3 rzI HC3 HX3 HY3
 go_wp2_with (go_at_call 14;refine (lZ _ _).mono ?_;rintro e w' ⟨rfl,hw⟩;have hw:=hw.symm;subst hw)
 refine (aX n la ga oa lc gc oc xl xg xo ls gs os _ hml hmg hmo hL7 hG7 hO7 hx1 hx2 rxL7 rxG7 rxO7).mono ?_;rintro e w8 ⟨rfl,sp8⟩;have K8:=Keeps.of_span sp8;have HC8:Hid (∀i,w8.cell? ⟨w.heap.size,i,none⟩=#[.int .i64 6,sv,.int .i64 n,.slice la ls.length lc,.slice ga gs.length gc,.slice oa os.length oc,.int .i64 m,.slice lb lt.length ld,.slice gb gt.length gd,.slice ob ot.length od,.slice ia ins.length ic,.int .i64 nn][i]?):=aJ HC7.out (by omega) K8 (by omega);have HY8:Hid (∀i,w8.cell? ⟨w2.heap.size,i,none⟩=#[.int .i64 m,.slice (some ⟨yl,0,none⟩) lt.length (lt.length+8),.slice (some ⟨yg,0,none⟩) gt.length (gt.length+8),.slice (some ⟨yo,0,none⟩) ot.length (ot.length+8)][i]?):=aJ HY7.out (by omega) K8 (by omega);have ryL8:=aC ryL7 K8 (by omega);have ryG8:=aC ryG7 K8 (by omega);have ryO8:=aC ryO7 K8 (by omega);have rzI8:=aC rzI7 K8 (by omega);have kL8:=(kL7.span sp8 (Nat.le_refl _)).mono (show xl≤yl by omega);have kG8:=(kG7.span sp8 (Nat.le_refl _)).mono (show xl≤yl by omega);have kO8:=(kO7.span sp8 (Nat.le_refl _)).mono (show xl≤yl by omega);have hI8:=hI7.span sp8 (Nat.le_refl _);have s78:w7.heap.size≤w8.heap.size:=K8.size;have hB8:=hB7.span K8 (sev _ _ (by omega) (by omega));have y0:=HY8.out 0;have y1:=HY8.out 1;have y2':=HY8.out 2;have y3':=HY8.out 3;have c6:=HC8.out 6;have c7:=HC8.out 7;have c8:=HC8.out 8;have c9:=HC8.out 9;clear x0 x1 x2 x3 c2 c3 c4 c5 hL7 hG7 hO7 kL7 kG7 kO7 rxL7 rxG7 rxO7 hB7 hI7 ryL7 ryG7 ryO7 rzI7
 go_wp2_with fail
 refine (aX m lb gb ob ld gd od yl yg yo lt gt ot _ hnl hng hno kL8 kG8 kO8 hy1 hy2 ryL8 ryG8 ryO8).mono ?_;rintro e w9 ⟨rfl,sp9⟩;have K9:=Keeps.of_span sp9;have HC9:Hid (∀i,w9.cell? ⟨w.heap.size,i,none⟩=#[.int .i64 6,sv,.int .i64 n,.slice la ls.length lc,.slice ga gs.length gc,.slice oa os.length oc,.int .i64 m,.slice lb lt.length ld,.slice gb gt.length gd,.slice ob ot.length od,.slice ia ins.length ic,.int .i64 nn][i]?):=aJ HC8.out (by omega) K9 (by omega);have rzI9:=aC rzI8 K9 (by omega);have hI9:=hI8.span sp9 (by omega);have s89:w8.heap.size≤w9.heap.size:=K9.size;have hB9:=hB8.span K9 (sev _ _ (by omega) (by omega));have c10:=HC9.out 10;clear y0 y1 y2' y3' c6 c7 c8 c9 hB8 hI8 ryL8 ryG8 ryO8 rzI8 kL8 kG8 kO8
 go_wp2_with fail
 refine (bM ia ic zi ins _ hmi (hI9.mono (by omega)) rzI9).mono ?_;rintro e w10 ⟨rfl,sp10⟩;have K10:=Keeps.of_span sp10;have hB10:=hB9.span K10 (sev _ _ (by omega) (by omega));clear c10 hB9 hI9 rzI9
 go_wp2_with fail
 refine (dK _ P _ _ _ _ hB10 (by omega)).mono ?_;rintro e w11 ⟨rfl,b11⟩;go_wp2
 go_ret
 refine ⟨rfl,R7,v7,es7,hB10.below b11,?_,fun k hk=>?_⟩
 ·exact (aV (aV (aV K07 K8 (by omega)) K9 (by omega)) K10 (by omega)).trans (Keeps.of_below b11)
 ·rcases n7 k hk with h | h
  ·exact .inl h
  ·exact .inr (by omega)
theorem aG8 (R:Nat→Nat) (P N:Nat) (v:Nat→Value) (es:Nat→List Entry) (sv:Value) (n m nn:Int) (la ga oa lb gb ob ia:Option Addr) (lc gc oc ld gd od ic:Nat) (ls gs:List (Int×Int)) (os:List Int) (lt gt:List (Int×Int)) (ot ins:List Int) (w:World)
  (hB:Book2 R w P v es N) (hN:N≤690000000000) (hdb:TabDB w)
  (hml:ls.length*16≤140737488351232) (hmg:gs.length*16≤140737488351232) (hmo:os.length*8≤140737488351232) (hnl:lt.length*16≤140737488351232) (hng:gt.length*16≤140737488351232) (hno:ot.length*8≤140737488351232) (hmi:ins.length*8≤140737488351232)
  (hL:PairsAt w la ls) (hG:PairsAt w ga gs) (hO:IntsAt w oa os) (kL:PairsAt w lb lt) (kG:PairsAt w gb gt) (kO:IntsAt w ob ot) (hI:IntsAt w ia ins)
  (fL:∀i,i<ls.length→Fits (ls.getD i (0,0)).1) (fG:∀i,i<gs.length→Fits (gs.getD i (0,0)).1∧Fits (gs.getD i (0,0)).2) (fO:∀i,i<os.length→Fits (os.getD i 0))
  (gL:∀i,i<lt.length→Fits (lt.getD i (0,0)).1) (gG:∀i,i<gt.length→Fits (gt.getD i (0,0)).1∧Fits (gt.getD i (0,0)).2) (gO:∀i,i<ot.length→Fits (ot.getD i 0))
  (sL:∀b o,la=some ⟨b,o,none⟩→ls≠[]→¬R b<6) (sG:∀b o,ga=some ⟨b,o,none⟩→gs≠[]→¬R b<6) (sO:∀b o,oa=some ⟨b,o,none⟩→os≠[]→¬R b<6)
  (rL:∀b o,lb=some ⟨b,o,none⟩→lt≠[]→¬R b<6) (rG:∀b o,gb=some ⟨b,o,none⟩→gt≠[]→¬R b<6) (rO:∀b o,ob=some ⟨b,o,none⟩→ot≠[]→¬R b<6) (sI:∀b o,ia=some ⟨b,o,none⟩→ins≠[]→¬R b<6) :
  Calls Tryz.prog 13 #[.pointer (some ⟨P,0,none⟩),.agg #[.int .i64 6,sv,.int .i64 n,.slice la ls.length lc,.slice ga gs.length gc,.slice oa os.length oc,.int .i64 m,.slice lb lt.length ld,.slice gb gt.length gd,.slice ob ot.length od,.slice ia ins.length ic,.int .i64 nn]] w fun e w'=>e=.returned (.bool true)∧jH R w P N w' :=
 aED R P N v es sv n m nn la ga oa lb gb ob ia lc gc oc ld gd od ic ls gs os lt gt ot ins w hB hN hml hmg hmo hnl hng hno hmi hL hG hO kL kG kO hI sL sG sO rL rG rO sI
  (fun W la1 ga1 oa1 lb1 gb1 ob1 lc1 gc1 oc1 ld1 gd1 od1 hW h1 h2 h3 h4 h5 h6=>pZ n m ls gs os lt gt ot la1 ga1 oa1 lb1 gb1 ob1 lc1 gc1 oc1 ld1 gd1 od1 W (hdb.below hW) h1 h2 h3 h4 h5 h6)
  (fun W hW=>tS n m ls gs os lt gt ot la ga oa lb gb ob lc gc oc ld gd od W fL fG fO gL gG gO (hL.below hW) (hG.below hW) (hO.below hW) (kL.below hW) (kG.below hW) (kO.below hW))
theorem wR (R:Nat→Nat) (P N:Nat) (v:Nat→Value) (es:Nat→List Entry) (bl bo dl do':Nat) (i j:Int) (sv:Value) (w:World) (hB:Book2 R w P v es N) (hN:N≤690000000000) (hdb:TabDB w)
  (hL:PairsAt w (some ⟨bl,0,none⟩) [(2,i)]) (hO:IntsAt w (some ⟨bo,0,none⟩) [4]) (kL:PairsAt w (some ⟨dl,0,none⟩) [(2,j)]) (kO:IntsAt w (some ⟨do',0,none⟩) [4]) (h1:¬R bl<6) (h2:¬R bo<6) (h3:¬R dl<6) (h4:¬R do'<6) :
  Calls Tryz.prog 13 #[.pointer (some ⟨P,0,none⟩),.agg #[.int .i64 6,sv,.int .i64 1,.slice (some ⟨bl,0,none⟩) 1 1,.slice none 0 0,.slice (some ⟨bo,0,none⟩) 1 1,.int .i64 1,.slice (some ⟨dl,0,none⟩) 1 1,.slice none 0 0,.slice (some ⟨do',0,none⟩) 1 1,.slice none 0 0,.int .i64 0]] w fun e w' =>
   e=.returned (.bool true)∧jH R w P N w' :=
 aG8 R P N v es sv 1 1 0 (some ⟨bl,0,none⟩) none (some ⟨bo,0,none⟩) (some ⟨dl,0,none⟩) none (some ⟨do',0,none⟩) none 1 0 1 1 0 1 0 [(2,i)] [] [4] [(2,j)] [] [4] [] w hB hN hdb (by simp) (by simp) (by simp) (by simp) (by simp) (by simp) (by simp) hL (.inl rfl) hO kL (.inl rfl) kO (.inl rfl)
  (fun k hk=>by match k,hk with | 0,_=>exact kH (show (-1000000:Int)≤2 by decide) (show (2:Int)≤1000000 by decide)) (fun i hi=>by simp at hi) (fun i hi=>by match i,hi with | 0,_=>exact kH (by decide) (by decide))
  (fun k hk=>by match k,hk with | 0,_=>exact kH (show (-1000000:Int)≤2 by decide) (show (2:Int)≤1000000 by decide)) (fun i hi=>by simp at hi) (fun i hi=>by match i,hi with | 0,_=>exact kH (by decide) (by decide))
  (fun b o e _=>by rw [←kX e];exact h1) (fun b o e _=>by cases e) (fun b o e _=>by rw [←kX e];exact h2) (fun b o e _=>by rw [←kX e];exact h3) (fun b o e _=>by cases e) (fun b o e _=>by rw [←kX e];exact h4) (fun b o e _=>by cases e)
end Go.Proofs.YtgpaajdfkekjiaaGreatDoor
