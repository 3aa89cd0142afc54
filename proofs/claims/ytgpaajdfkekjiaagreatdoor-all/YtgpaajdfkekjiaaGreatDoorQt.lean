/-
  A part of the proof of the statement All: texts of ours, made small by program (blanks, names).
-/
import Derived.Test.YtgpaajdfkekjiaaGreatDoorPn
namespace Go.Proofs.YtgpaajdfkekjiaaGreatDoor
set_option maxHeartbeats 8000000
set_option maxRecDepth 100000
open Go.RowKit
theorem aEE (R:Nat→Nat) (P N:Nat) (v:Nat→Value) (es:Nat→List Entry) (sv:Value) (n m nn:Int) (la ga oa lb gb ob ia:Option Addr) (lc gc oc ld gd od ic:Nat) (ls gs:List (Int×Int)) (os:List Int) (lt gt:List (Int×Int)) (ot ins:List Int) (w:World)
  (hB:Book2 R w P v es N) (hN:N≤690000000000)
  (hml:ls.length*16≤140737488351232) (hmg:gs.length*16≤140737488351232) (hmo:os.length*8≤140737488351232) (hnl:lt.length*16≤140737488351232) (hng:gt.length*16≤140737488351232) (hno:ot.length*8≤140737488351232) (hmi:ins.length*8≤140737488351232)
  (hL:PairsAt w la ls) (hG:PairsAt w ga gs) (hO:IntsAt w oa os) (kL:PairsAt w lb lt) (kG:PairsAt w gb gt) (kO:IntsAt w ob ot) (hI:IntsAt w ia ins)
  (sL:∀b o,la=some ⟨b,o,none⟩→ls≠[]→¬R b<6) (sG:∀b o,ga=some ⟨b,o,none⟩→gs≠[]→¬R b<6) (sO:∀b o,oa=some ⟨b,o,none⟩→os≠[]→¬R b<6)
  (rL:∀b o,lb=some ⟨b,o,none⟩→lt≠[]→¬R b<6) (rG:∀b o,gb=some ⟨b,o,none⟩→gt≠[]→¬R b<6) (rO:∀b o,ob=some ⟨b,o,none⟩→ot≠[]→¬R b<6) (sI:∀b o,ia=some ⟨b,o,none⟩→ins≠[]→¬R b<6)
  (rl:List Nat) (re:Int) (lR:rl.length≤900)
  (HP:∀(W:World) (la1 ga1 oa1 ia1:Option Addr) (lc1 gc1 oc1 ic1:Nat),Below w.heap.size w W→PairsAt W la1 ls→PairsAt W ga1 gs→IntsAt W oa1 os→IntsAt W ia1 ins →
   Calls Tryz.prog 24 #[.agg #[.int .i64 n,.slice la1 ls.length lc1,.slice ga1 gs.length gc1,.slice oa1 os.length oc1],.slice ia1 ins.length ic1] W fun e w'=>∃a c,e=.returned (.tuple #[.slice a rl.length c,.int .i64 re])∧w'.ownsRow W.heap.size 3 1 (.slice a rl.length c) rl.length (aP rl)∧Below W.heap.size W w')
  (HF:∀(W:World),Below w.heap.size w W→Calls Tryz.prog 25 #[.agg #[.int .i64 n,.slice la ls.length lc,.slice ga gs.length gc,.slice oa os.length oc],.slice ia ins.length ic] W fun e w'=>∃a c,e=.returned (.tuple #[.slice a rl.length c,.int .i64 re])∧IntsAt w' a (ints rl)∧Below W.heap.size W w') :
  Calls Tryz.prog 13 #[.pointer (some ⟨P,0,none⟩),.agg #[.int .i64 3,sv,.int .i64 n,.slice la ls.length lc,.slice ga gs.length gc,.slice oa os.length oc,.int .i64 m,.slice lb lt.length ld,.slice gb gt.length gd,.slice ob ot.length od,.slice ia ins.length ic,.int .i64 nn]] w fun e w'=>e=.returned (.bool true)∧jH R w P N w':=by
 obtain ⟨W0,hW0⟩:∃W0,W0=w.alloc (.cells #[.int .i64 3,sv,.int .i64 n,.slice la ls.length lc,.slice ga gs.length gc,.slice oa os.length oc,.int .i64 m,.slice lb lt.length ld,.slice gb gt.length gd,.slice ob ot.length od,.slice ia ins.length ic,.int .i64 nn] 42):=⟨_,rfl⟩
 have b0:Below w.heap.size w W0:=by rw [hW0];exact (Below.refl _ _).alloc (Nat.le_refl _) _
 have s0:W0.heap.size=w.heap.size+1:=by rw [hW0];simp
 have C0:∀i,W0.cell? ⟨w.heap.size,i,none⟩=#[.int .i64 3,sv,.int .i64 n,.slice la ls.length lc,.slice ga gs.length gc,.slice oa os.length oc,.int .i64 m,.slice lb lt.length ld,.slice gb gt.length gd,.slice ob ot.length od,.slice ia ins.length ic,.int .i64 nn][i]?:=fun i=>by rw [hW0];exact cell_of_row _ _ _ _ _ _ (heap_alloc_new _ _)
 have hd:=cH n la ga oa lc gc oc ls gs os W0 hml hmg hmo (hL.below b0) (hG.below b0) (hO.below b0);rw [hW0] at hd;have HC0:=hidK C0;have HS0:=hidK s0;have HB:=hidK hB;have hP:=hB.lt;clear C0 s0 hB
 go_enter Tryz.func13,Tryz.ntmps13
 go_wp2_with fail
 refine hd.mono ?_;rw [←hW0];rintro e w1 ⟨xl,xg,xo,rfl,hxl,hx1,hx2,rxL,rxG,rxO,b1⟩;clear hd hW0;have C1:=aQ HC0.out (by rw [HS0.out];omega) b1;have z1:w.heap.size<w1.heap.size:=Nat.lt_of_lt_of_le (by rw [HS0.out];omega) b1.size;have B01:Below w.heap.size w w1:=b0.trans (b1.mono (by rw [HS0.out];omega));have a6:=C1 6;have a7:=C1 7;have a8:=C1 8;have a9:=C1 9;have HC1:=hidK C1;clear C1
 go_wp2_with fail
 refine (cH m lb gb ob ld gd od lt gt ot _ hnl hng hno ((kL.below B01).allocK _) ((kG.below B01).allocK _) ((kO.below B01).alloc_any _)).mono ?_;rintro e w2 ⟨yl,yg,yo,rfl,hyl,hy1,hy2,ryL,ryG,ryO,b2⟩;have B12:=aY b2;have HX2:Hid (∀i,w2.cell? ⟨w1.heap.size,i,none⟩=#[.int .i64 n,.slice (some ⟨xl,0,none⟩) ls.length (ls.length+8),.slice (some ⟨xg,0,none⟩) gs.length (gs.length+8),.slice (some ⟨xo,0,none⟩) os.length (os.length+8)][i]?):=bL b2;have HC2:Hid (∀i,w2.cell? ⟨w.heap.size,i,none⟩=#[.int .i64 3,sv,.int .i64 n,.slice la ls.length lc,.slice ga gs.length gc,.slice oa os.length oc,.int .i64 m,.slice lb lt.length ld,.slice gb gt.length gd,.slice ob ot.length od,.slice ia ins.length ic,.int .i64 nn][i]?):=aQ HC1.out z1 B12;have hyl':w1.heap.size+1≤yl:=by simpa using hyl
 have z2:w1.heap.size<w2.heap.size:=Nat.lt_of_lt_of_le (by simp) b2.size;have B02:Below w.heap.size w w2:=B01.trans (B12.mono (by omega));have y2:w.heap.size<w2.heap.size:=by omega
 have a10:=HC2.out 10;clear a6 a7 a8 a9 b2 hyl
 go_wp2_with fail
 refine (cL ia ic ins _ hmi ((hI.below B02).alloc_any _)).mono ?_;rintro e w3 ⟨zi,rfl,hzi,rzI,b3⟩;have B23:=aY b3;have HY3:Hid (∀i,w3.cell? ⟨w2.heap.size,i,none⟩=#[.int .i64 m,.slice (some ⟨yl,0,none⟩) lt.length (lt.length+8),.slice (some ⟨yg,0,none⟩) gt.length (gt.length+8),.slice (some ⟨yo,0,none⟩) ot.length (ot.length+8)][i]?):=bL b3;have HC3:Hid (∀i,w3.cell? ⟨w.heap.size,i,none⟩=#[.int .i64 3,sv,.int .i64 n,.slice la ls.length lc,.slice ga gs.length gc,.slice oa os.length oc,.int .i64 m,.slice lb lt.length ld,.slice gb gt.length gd,.slice ob ot.length od,.slice ia ins.length ic,.int .i64 nn][i]?):=aQ HC2.out (by omega) B23;have HX3:Hid (∀i,w3.cell? ⟨w1.heap.size,i,none⟩=#[.int .i64 n,.slice (some ⟨xl,0,none⟩) ls.length (ls.length+8),.slice (some ⟨xg,0,none⟩) gs.length (gs.length+8),.slice (some ⟨xo,0,none⟩) os.length (os.length+8)][i]?):=aQ HX2.out z2 B23;have hzi':w2.heap.size+1≤zi:=by simpa using hzi
 have z3:w2.heap.size<w3.heap.size:=Nat.lt_of_lt_of_le (by simp) b3.size;have B03:Below w.heap.size w w3:=B02.trans (B23.mono (by omega));have B13:Below w1.heap.size w1 w3:=B12.trans (B23.mono (by omega));have y3:w.heap.size<w3.heap.size:=by omega
 have yx3:w1.heap.size<w3.heap.size:=by omega
 have rxL3:=aD rxL B13;have rxG3:=aD rxG B13;have rxO3:=aD rxO B13;have ryL3:=aD ryL B23;have ryG3:=aD ryG B23;have ryO3:=aD ryO B23;have tops:xo<w1.heap.size∧yo<w2.heap.size∧zi<w3.heap.size:=⟨rxO.lt,ryO.lt,rzI.lt⟩
 have hxl':w.heap.size+1≤xl:=by rw [HS0.out] at hxl;exact hxl
 have HR:=hidK HB.out.hR;have HB3:=hidK (HB.out.below B03);clear a10 b3 hzi HX2 HC2 rxL rxG rxO ryL ryG ryO b0 b1;have c0:=HC3.out 0;have x0:=HX3.out 0;have x1:=HX3.out 1;have x2:=HX3.out 2;have x3:=HX3.out 3
 go_wp2_with fail
 refine (HP w3 (some ⟨xl,0,none⟩) (some ⟨xg,0,none⟩) (some ⟨xo,0,none⟩) (some ⟨zi,0,none⟩) _ _ _ _ B03 (dM rxL3) (dM rxG3) (jD rxO3) (jD rzI)).mono ?_;rintro e w4 ⟨ra,rc,rfl,own4,b4⟩;have HC4:Hid (∀i,w4.cell? ⟨w.heap.size,i,none⟩=#[.int .i64 3,sv,.int .i64 n,.slice la ls.length lc,.slice ga gs.length gc,.slice oa os.length oc,.int .i64 m,.slice lb lt.length ld,.slice gb gt.length gd,.slice ob ot.length od,.slice ia ins.length ic,.int .i64 nn][i]?):=aQ HC3.out (by omega) b4;have B04:Below w.heap.size w w4:=B03.trans (b4.mono (by omega));have s34:=b4.size;have lw4:w.heap.size<w4.heap.size:=by omega
 have lo4:∀b,(Value.slice ra rl.length rc).ownBlock=some b→w3.heap.size≤b∧b<w4.heap.size:=fun b e=>own4.lt b e
 have O4:=hidK own4;clear c0 x0 x1 x2 x3 own4;have c2:=HC4.out 2;have c3:=HC4.out 3;have c4:=HC4.out 4;have c5:=HC4.out 5;have c10:=HC4.out 10
 go_wp2_with fail
 refine (HF w4 B04).mono ?_;rintro e w5 ⟨fa,fc,rfl,pI5,b5⟩;have s45:=b5.size;have B35:Below w3.heap.size w3 w5:=b4.trans (b5.mono b4.size);have B05:Below w.heap.size w w5:=B03.trans (B35.mono (by omega));have O5:=hidK (aN O4.out b5);clear c2 c3 c4 c5 c10
 go_wp2_with fail
 refine (dK R P N v es _ (HB.out.below B05) (by omega)).mono ?_;rintro e w6 ⟨rfl,b6⟩;have s56:=b6.size;have O6:=hidK (aN O5.out b6)
 go_wp2_with fail
 refine (mC ra fa _ _ _ (ints rl) _ (qH _).symm (by rw [qH];omega) (sD O6.out rfl) (pI5.below b6)).mono ?_;rintro e w6b ⟨rfl,b6b⟩;have s6b:=b6b.size;have B36:Below w3.heap.size w3 w6b:=B35.trans ((b6.trans (b6b.mono (by omega))).mono (by omega));have B06:Below w.heap.size w w6b:=B03.trans (B36.mono (by omega));have OW:=aN O6.out b6b
 go_wp2_with fail
 refine (pI R P N v es ra rl.length rc _ _ _ (HB.out.below B06) (by omega) (by omega) OW (fun b e=>by have:=(lo4 b e).1;have:=HR.out b;omega)).mono ?_;rintro e w7 ⟨rfl,R7,v7,es7,hB7,K7,n7⟩;have K37:Keeps (fun k=>R k<6) w3 w7:=iI B36 K7 (fun k h=>(lo4 k h).1);have n7:∀k,R7 k<6→R k<6∨w3.heap.size≤k:=fun k hk=>by
  rcases n7 k hk with h | h | h
  ·exact .inl h
  ·exact .inr (lo4 k h).1
  ·exact .inr (by omega)
 have hB7:=hB7.mono (show N+1≤N+1 by omega);have nT:∀k,w.heap.size≤k→¬R k<6:=fun k h1 h2=>by have:=HR.out k h2;omega
 have HC7:Hid (∀i,w7.cell? ⟨w.heap.size,i,none⟩=#[.int .i64 3,sv,.int .i64 n,.slice la ls.length lc,.slice ga gs.length gc,.slice oa os.length oc,.int .i64 m,.slice lb lt.length ld,.slice gb gt.length gd,.slice ob ot.length od,.slice ia ins.length ic,.int .i64 nn][i]?):=aJ HC3.out y3 K37 (nT _ (Nat.le_refl _));have HX7:Hid (∀i,w7.cell? ⟨w1.heap.size,i,none⟩=#[.int .i64 n,.slice (some ⟨xl,0,none⟩) ls.length (ls.length+8),.slice (some ⟨xg,0,none⟩) gs.length (gs.length+8),.slice (some ⟨xo,0,none⟩) os.length (os.length+8)][i]?):=aJ HX3.out yx3 K37 (nT _ (by omega));have HY7:Hid (∀i,w7.cell? ⟨w2.heap.size,i,none⟩=#[.int .i64 m,.slice (some ⟨yl,0,none⟩) lt.length (lt.length+8),.slice (some ⟨yg,0,none⟩) gt.length (gt.length+8),.slice (some ⟨yo,0,none⟩) ot.length (ot.length+8)][i]?):=aJ HY3.out z3 K37 (nT _ (by omega));have rxL7:=aC rxL3 K37 (nT _ (by omega));have rxG7:=aC rxG3 K37 (nT _ (by omega));have rxO7:=aC rxO3 K37 (nT _ (by omega));have ryL7:=aC ryL3 K37 (nT _ (by omega));have ryG7:=aC ryG3 K37 (nT _ (by omega));have ryO7:=aC ryO3 K37 (nT _ (by omega));have rzI7:=aC rzI K37 (nT _ (by omega));have s37:w3.heap.size≤w7.heap.size:=K37.size;have hL7:PairsIn xl w7 la ls:=(((hL.into).below B03).keeps K37 sL).mono (by omega);have hG7:PairsIn xl w7 ga gs:=(((hG.into).below B03).keeps K37 sG).mono (by omega);have hO7:IntsIn xl w7 oa os:=(((hO.into).below B03).keeps K37 sO).mono (by omega);have kL7:PairsIn xl w7 lb lt:=(((kL.into).below B03).keeps K37 rL).mono (by omega);have kG7:PairsIn xl w7 gb gt:=(((kG.into).below B03).keeps K37 rG).mono (by omega);have kO7:IntsIn xl w7 ob ot:=(((kO.into).below B03).keeps K37 rO).mono (by omega);have hI7:IntsIn xl w7 ia ins:=(((hI.into).below B03).keeps K37 sI).mono (by omega);have K07:Keeps (fun k=>R k<6) w w7:=(Keeps.of_below B03).trans K37;have sev:∀lo hi,w.heap.size<lo→hi≤w3.heap.size→∀k,R7 k<6→¬(lo≤k∧k<hi):=fun lo hi h1 h2 k hk h=>by
  rcases n7 k hk with hk | hk
  ·have:=HR.out k hk;omega
  ·omega
 have x0:=HX7.out 0;have x1:=HX7.out 1;have x2:=HX7.out 2;have x3:=HX7.out 3;have c2:=HC7.out 2;have c3:=HC7.out 3;have c4:=HC7.out 4;have c5:=HC7.out 5;clear rxL3 rxG3 rxO3 ryL3 ryG3 ryO3 rzI HC3 HX3 HY3
 go_wp2_with (go_at_call 14;refine (lZ _ _).mono ?_;rintro e w' ⟨rfl,hw⟩;have hw:=hw.symm;subst hw)
 refine (aX n la ga oa lc gc oc xl xg xo ls gs os _ hml hmg hmo hL7 hG7 hO7 hx1 hx2 rxL7 rxG7 rxO7).mono ?_;rintro e w8 ⟨rfl,sp8⟩;have K8:=Keeps.of_span sp8;have HC8:Hid (∀i,w8.cell? ⟨w.heap.size,i,none⟩=#[.int .i64 3,sv,.int .i64 n,.slice la ls.length lc,.slice ga gs.length gc,.slice oa os.length oc,.int .i64 m,.slice lb lt.length ld,.slice gb gt.length gd,.slice ob ot.length od,.slice ia ins.length ic,.int .i64 nn][i]?):=aJ HC7.out (by omega) K8 (by omega);have HY8:Hid (∀i,w8.cell? ⟨w2.heap.size,i,none⟩=#[.int .i64 m,.slice (some ⟨yl,0,none⟩) lt.length (lt.length+8),.slice (some ⟨yg,0,none⟩) gt.length (gt.length+8),.slice (some ⟨yo,0,none⟩) ot.length (ot.length+8)][i]?):=aJ HY7.out (by omega) K8 (by omega);have ryL8:=aC ryL7 K8 (by omega);have ryG8:=aC ryG7 K8 (by omega);have ryO8:=aC ryO7 K8 (by omega);have rzI8:=aC rzI7 K8 (by omega);have kL8:=(kL7.span sp8 (Nat.le_refl _)).mono (show xl≤yl by omega);have kG8:=(kG7.span sp8 (Nat.le_refl _)).mono (show xl≤yl by omega);have kO8:=(kO7.span sp8 (Nat.le_refl _)).mono (show xl≤yl by omega);have hI8:=hI7.span sp8 (Nat.le_refl _);have s78:w7.heap.size≤w8.heap.size:=K8.size;have hB8:=hB7.span K8 (sev _ _ (by omega) (by omega));have y0:=HY8.out 0;have y1:=HY8.out 1;have y2':=HY8.out 2;have y3':=HY8.out 3;have c6:=HC8.out 6;have c7:=HC8.out 7;have c8:=HC8.out 8;have c9:=HC8.out 9;clear x0 x1 x2 x3 c2 c3 c4 c5 hL7 hG7 hO7 kL7 kG7 kO7 rxL7 rxG7 rxO7 hB7 hI7 ryL7 ryG7 ryO7 rzI7
 go_wp2_with fail
 refine (aX m lb gb ob ld gd od yl yg yo lt gt ot _ hnl hng hno kL8 kG8 kO8 hy1 hy2 ryL8 ryG8 ryO8).mono ?_;rintro e w9 ⟨rfl,sp9⟩;have K9:=Keeps.of_span sp9;have HC9:Hid (∀i,w9.cell? ⟨w.heap.size,i,none⟩=#[.int .i64 3,sv,.int .i64 n,.slice la ls.length lc,.slice ga gs.length gc,.slice oa os.length oc,.int .i64 m,.slice lb lt.length ld,.slice gb gt.length gd,.slice ob ot.length od,.slice ia ins.length ic,.int .i64 nn][i]?):=aJ HC8.out (by omega) K9 (by omega);have rzI9:=aC rzI8 K9 (by omega);have hI9:=hI8.span sp9 (by omega);have s89:w8.heap.size≤w9.heap.size:=K9.size;have hB9:=hB8.span K9 (sev _ _ (by omega) (by omega));have c10:=HC9.out 10;clear y0 y1 y2' y3' c6 c7 c8 c9 hB8 hI8 ryL8 ryG8 ryO8 rzI8 kL8 kG8 kO8
 go_wp2_with fail
 refine (bM ia ic zi ins _ hmi (hI9.mono (by omega)) rzI9).mono ?_;rintro e w10 ⟨rfl,sp10⟩;have K10:=Keeps.of_span sp10;have hB10:=hB9.span K10 (sev _ _ (by omega) (by omega));clear c10 hB9 hI9 rzI9
 go_wp2_with fail
 refine (dK _ P _ _ _ _ hB10 (by omega)).mono ?_;rintro e w11 ⟨rfl,b11⟩;go_wp2
 go_ret
 refine ⟨rfl,R7,v7,es7,hB10.below b11,?_,fun k hk=>?_⟩
 ·exact (aV (aV (aV K07 K8 (by omega)) K9 (by omega)) K10 (by omega)).trans (Keeps.of_below b11)
 ·rcases n7 k hk with h | h
  ·exact .inl h
  ·exact .inr (by omega)
theorem zS (R:Nat→Nat) (P N:Nat) (v:Nat→Value) (es:Nat→List Entry) (sv:Value) (n m nn:Int) (la ga oa lb gb ob ia:Option Addr) (lc gc oc ld gd od ic:Nat) (ls gs:List (Int×Int)) (os:List Int) (lt gt:List (Int×Int)) (ot ins:List Int) (w:World)
  (hB:Book2 R w P v es N) (hN:N≤690000000000)
  (hml:ls.length*16≤140737488351232) (hmg:gs.length*16≤140737488351232) (hmo:os.length*8≤140737488351232) (hnl:lt.length*16≤140737488351232) (hng:gt.length*16≤140737488351232) (hno:ot.length*8≤140737488351232) (hmi:ins.length*8≤140737488351232)
  (hL:PairsAt w la ls) (hG:PairsAt w ga gs) (hO:IntsAt w oa os) (kL:PairsAt w lb lt) (kG:PairsAt w gb gt) (kO:IntsAt w ob ot) (hI:IntsAt w ia ins)
  (sL:∀b o,la=some ⟨b,o,none⟩→ls≠[]→¬R b<6) (sG:∀b o,ga=some ⟨b,o,none⟩→gs≠[]→¬R b<6) (sO:∀b o,oa=some ⟨b,o,none⟩→os≠[]→¬R b<6)
  (rL:∀b o,lb=some ⟨b,o,none⟩→lt≠[]→¬R b<6) (rG:∀b o,gb=some ⟨b,o,none⟩→gt≠[]→¬R b<6) (rO:∀b o,ob=some ⟨b,o,none⟩→ot≠[]→¬R b<6) (sI:∀b o,ia=some ⟨b,o,none⟩→ins≠[]→¬R b<6)
  (ws:ByteArray) (we:Int)
  (HP:∀(W:World) (la1 ga1 oa1:Option Addr) (lc1 gc1 oc1:Nat),Below w.heap.size w W→PairsAt W la1 ls→PairsAt W ga1 gs→IntsAt W oa1 os →
   Calls Tryz.prog 15 #[.agg #[.int .i64 n,.slice la1 ls.length lc1,.slice ga1 gs.length gc1,.slice oa1 os.length oc1]] W fun e w'=>e=.returned (.tuple #[.string ws,.int .i64 we])∧Below W.heap.size W w')
  (HF:∀(W:World),Below w.heap.size w W→Calls Tryz.prog 23 #[.agg #[.int .i64 n,.slice la ls.length lc,.slice ga gs.length gc,.slice oa os.length oc]] W fun e w'=>e=.returned (.tuple #[.string ws,.int .i64 we])∧Below W.heap.size W w') :
  Calls Tryz.prog 13 #[.pointer (some ⟨P,0,none⟩),.agg #[.int .i64 2,sv,.int .i64 n,.slice la ls.length lc,.slice ga gs.length gc,.slice oa os.length oc,.int .i64 m,.slice lb lt.length ld,.slice gb gt.length gd,.slice ob ot.length od,.slice ia ins.length ic,.int .i64 nn]] w fun e w'=>e=.returned (.bool true)∧jH R w P N w':=by
 obtain ⟨W0,hW0⟩:∃W0,W0=w.alloc (.cells #[.int .i64 2,sv,.int .i64 n,.slice la ls.length lc,.slice ga gs.length gc,.slice oa os.length oc,.int .i64 m,.slice lb lt.length ld,.slice gb gt.length gd,.slice ob ot.length od,.slice ia ins.length ic,.int .i64 nn] 42):=⟨_,rfl⟩
 have b0:Below w.heap.size w W0:=by rw [hW0];exact (Below.refl _ _).alloc (Nat.le_refl _) _
 have s0:W0.heap.size=w.heap.size+1:=by rw [hW0];simp
 have C0:∀i,W0.cell? ⟨w.heap.size,i,none⟩=#[.int .i64 2,sv,.int .i64 n,.slice la ls.length lc,.slice ga gs.length gc,.slice oa os.length oc,.int .i64 m,.slice lb lt.length ld,.slice gb gt.length gd,.slice ob ot.length od,.slice ia ins.length ic,.int .i64 nn][i]?:=fun i=>by rw [hW0];exact cell_of_row _ _ _ _ _ _ (heap_alloc_new _ _)
 have hd:=cH n la ga oa lc gc oc ls gs os W0 hml hmg hmo (hL.below b0) (hG.below b0) (hO.below b0);rw [hW0] at hd;have HC0:=hidK C0;have HS0:=hidK s0;have HB:=hidK hB;have hP:=hB.lt;clear C0 s0 hB
 go_enter Tryz.func13,Tryz.ntmps13
 go_wp2_with fail
 refine hd.mono ?_;rw [←hW0];rintro e w1 ⟨xl,xg,xo,rfl,hxl,hx1,hx2,rxL,rxG,rxO,b1⟩;clear hd hW0;have C1:=aQ HC0.out (by rw [HS0.out];omega) b1;have z1:w.heap.size<w1.heap.size:=Nat.lt_of_lt_of_le (by rw [HS0.out];omega) b1.size;have B01:Below w.heap.size w w1:=b0.trans (b1.mono (by rw [HS0.out];omega));have a6:=C1 6;have a7:=C1 7;have a8:=C1 8;have a9:=C1 9;have HC1:=hidK C1;clear C1
 go_wp2_with fail
 refine (cH m lb gb ob ld gd od lt gt ot _ hnl hng hno ((kL.below B01).allocK _) ((kG.below B01).allocK _) ((kO.below B01).alloc_any _)).mono ?_;rintro e w2 ⟨yl,yg,yo,rfl,hyl,hy1,hy2,ryL,ryG,ryO,b2⟩;have B12:=aY b2;have HX2:Hid (∀i,w2.cell? ⟨w1.heap.size,i,none⟩=#[.int .i64 n,.slice (some ⟨xl,0,none⟩) ls.length (ls.length+8),.slice (some ⟨xg,0,none⟩) gs.length (gs.length+8),.slice (some ⟨xo,0,none⟩) os.length (os.length+8)][i]?):=bL b2;have HC2:Hid (∀i,w2.cell? ⟨w.heap.size,i,none⟩=#[.int .i64 2,sv,.int .i64 n,.slice la ls.length lc,.slice ga gs.length gc,.slice oa os.length oc,.int .i64 m,.slice lb lt.length ld,.slice gb gt.length gd,.slice ob ot.length od,.slice ia ins.length ic,.int .i64 nn][i]?):=aQ HC1.out z1 B12;have hyl':w1.heap.size+1≤yl:=by simpa using hyl
 have z2:w1.heap.size<w2.heap.size:=Nat.lt_of_lt_of_le (by simp) b2.size;have B02:Below w.heap.size w w2:=B01.trans (B12.mono (by omega));have y2:w.heap.size<w2.heap.size:=by omega
 have a10:=HC2.out 10;clear a6 a7 a8 a9 b2 hyl
 go_wp2_with fail
 refine (cL ia ic ins _ hmi ((hI.below B02).alloc_any _)).mono ?_;rintro e w3 ⟨zi,rfl,hzi,rzI,b3⟩;have B23:=aY b3;have HY3:Hid (∀i,w3.cell? ⟨w2.heap.size,i,none⟩=#[.int .i64 m,.slice (some ⟨yl,0,none⟩) lt.length (lt.length+8),.slice (some ⟨yg,0,none⟩) gt.length (gt.length+8),.slice (some ⟨yo,0,none⟩) ot.length (ot.length+8)][i]?):=bL b3;have HC3:Hid (∀i,w3.cell? ⟨w.heap.size,i,none⟩=#[.int .i64 2,sv,.int .i64 n,.slice la ls.length lc,.slice ga gs.length gc,.slice oa os.length oc,.int .i64 m,.slice lb lt.length ld,.slice gb gt.length gd,.slice ob ot.length od,.slice ia ins.length ic,.int .i64 nn][i]?):=aQ HC2.out (by omega) B23;have HX3:Hid (∀i,w3.cell? ⟨w1.heap.size,i,none⟩=#[.int .i64 n,.slice (some ⟨xl,0,none⟩) ls.length (ls.length+8),.slice (some ⟨xg,0,none⟩) gs.length (gs.length+8),.slice (some ⟨xo,0,none⟩) os.length (os.length+8)][i]?):=aQ HX2.out z2 B23;have hzi':w2.heap.size+1≤zi:=by simpa using hzi
 have z3:w2.heap.size<w3.heap.size:=Nat.lt_of_lt_of_le (by simp) b3.size;have B03:Below w.heap.size w w3:=B02.trans (B23.mono (by omega));have B13:Below w1.heap.size w1 w3:=B12.trans (B23.mono (by omega));have y3:w.heap.size<w3.heap.size:=by omega
 have yx3:w1.heap.size<w3.heap.size:=by omega
 have rxL3:=aD rxL B13;have rxG3:=aD rxG B13;have rxO3:=aD rxO B13;have ryL3:=aD ryL B23;have ryG3:=aD ryG B23;have ryO3:=aD ryO B23;have tops:xo<w1.heap.size∧yo<w2.heap.size∧zi<w3.heap.size:=⟨rxO.lt,ryO.lt,rzI.lt⟩
 have hxl':w.heap.size+1≤xl:=by rw [HS0.out] at hxl;exact hxl
 have HR:=hidK HB.out.hR;have HB3:=hidK (HB.out.below B03);clear a10 b3 hzi HX2 HC2 rxL rxG rxO ryL ryG ryO b0 b1;have c0:=HC3.out 0;have x0:=HX3.out 0;have x1:=HX3.out 1;have x2:=HX3.out 2;have x3:=HX3.out 3
 go_wp2_with fail
 refine (HP w3 (some ⟨xl,0,none⟩) (some ⟨xg,0,none⟩) (some ⟨xo,0,none⟩) _ _ _ B03 (dM rxL3) (dM rxG3) (jD rxO3)).mono ?_;rintro e w4 ⟨rfl,b4⟩;have HC4:Hid (∀i,w4.cell? ⟨w.heap.size,i,none⟩=#[.int .i64 2,sv,.int .i64 n,.slice la ls.length lc,.slice ga gs.length gc,.slice oa os.length oc,.int .i64 m,.slice lb lt.length ld,.slice gb gt.length gd,.slice ob ot.length od,.slice ia ins.length ic,.int .i64 nn][i]?):=aQ HC3.out (by omega) b4;have B04:Below w.heap.size w w4:=B03.trans (b4.mono (by omega));have s34:=b4.size;have lw4:w.heap.size<w4.heap.size:=by omega
 clear c0 x0 x1 x2 x3;have c2:=HC4.out 2;have c3:=HC4.out 3;have c4:=HC4.out 4;have c5:=HC4.out 5
 go_wp2_with fail
 refine (HF w4 B04).mono ?_;rintro e w5 ⟨rfl,b5⟩;have s45:=b5.size;have B35:Below w3.heap.size w3 w5:=b4.trans (b5.mono b4.size);have B05:Below w.heap.size w w5:=B03.trans (B35.mono (by omega));clear c2 c3 c4 c5;obtain ⟨w7,rfl⟩:∃w7,w7=w5:=⟨_,rfl⟩
 obtain ⟨R7,hR7⟩:∃R7,R7=R:=⟨_,rfl⟩
 obtain ⟨v7,hv7⟩:∃v7,v7=v:=⟨_,rfl⟩
 obtain ⟨es7,hes7⟩:∃es7,es7=es:=⟨_,rfl⟩
 have hB7:Book2 R7 w7 P v7 es7 (N+1):=by rw [hR7,hv7,hes7];exact (HB.out.below B05).mono (show N≤N+1 by omega)
 have n7:∀k,R7 k<6→R k<6∨w3.heap.size≤k:=fun k hk=>.inl (by rw [←hR7];exact hk)
 clear hR7 hv7 hes7;have K37:Keeps (fun k=>R k<6) w3 w7:=Keeps.of_below B35;have nT:∀k,w.heap.size≤k→¬R k<6:=fun k h1 h2=>by have:=HR.out k h2;omega
 have HC7:Hid (∀i,w7.cell? ⟨w.heap.size,i,none⟩=#[.int .i64 2,sv,.int .i64 n,.slice la ls.length lc,.slice ga gs.length gc,.slice oa os.length oc,.int .i64 m,.slice lb lt.length ld,.slice gb gt.length gd,.slice ob ot.length od,.slice ia ins.length ic,.int .i64 nn][i]?):=aJ HC3.out y3 K37 (nT _ (Nat.le_refl _));have HX7:Hid (∀i,w7.cell? ⟨w1.heap.size,i,none⟩=#[.int .i64 n,.slice (some ⟨xl,0,none⟩) ls.length (ls.length+8),.slice (some ⟨xg,0,none⟩) gs.length (gs.length+8),.slice (some ⟨xo,0,none⟩) os.length (os.length+8)][i]?):=aJ HX3.out yx3 K37 (nT _ (by omega));have HY7:Hid (∀i,w7.cell? ⟨w2.heap.size,i,none⟩=#[.int .i64 m,.slice (some ⟨yl,0,none⟩) lt.length (lt.length+8),.slice (some ⟨yg,0,none⟩) gt.length (gt.length+8),.slice (some ⟨yo,0,none⟩) ot.length (ot.length+8)][i]?):=aJ HY3.out z3 K37 (nT _ (by omega));have rxL7:=aC rxL3 K37 (nT _ (by omega));have rxG7:=aC rxG3 K37 (nT _ (by omega));have rxO7:=aC rxO3 K37 (nT _ (by omega));have ryL7:=aC ryL3 K37 (nT _ (by omega));have ryG7:=aC ryG3 K37 (nT _ (by omega));have ryO7:=aC ryO3 K37 (nT _ (by omega));have rzI7:=aC rzI K37 (nT _ (by omega));have s37:w3.heap.size≤w7.heap.size:=K37.size;have hL7:PairsIn xl w7 la ls:=(((hL.into).below B03).keeps K37 sL).mono (by omega);have hG7:PairsIn xl w7 ga gs:=(((hG.into).below B03).keeps K37 sG).mono (by omega);have hO7:IntsIn xl w7 oa os:=(((hO.into).below B03).keeps K37 sO).mono (by omega);have kL7:PairsIn xl w7 lb lt:=(((kL.into).below B03).keeps K37 rL).mono (by omega);have kG7:PairsIn xl w7 gb gt:=(((kG.into).below B03).keeps K37 rG).mono (by omega);have kO7:IntsIn xl w7 ob ot:=(((kO.into).below B03).keeps K37 rO).mono (by omega);have hI7:IntsIn xl w7 ia ins:=(((hI.into).below B03).keeps K37 sI).mono (by omega);have K07:Keeps (fun k=>R k<6) w w7:=(Keeps.of_below B03).trans K37;have sev:∀lo hi,w.heap.size<lo→hi≤w3.heap.size→∀k,R7 k<6→¬(lo≤k∧k<hi):=fun lo hi h1 h2 k hk h=>by
  rcases n7 k hk with hk | hk
  ·have:=HR.out k hk;omega
  ·omega
 have x0:=HX7.out 0;have x1:=HX7.out 1;have x2:=HX7.out 2;have x3:=HX7.out 3;have c2:=HC7.out 2;have c3:=HC7.out 3;have c4:=HC7.out 4;have c5:=HC7.out 5;clear rxL3 rxG3 rxO3 ryL3 ryG3 ryO3 rzI HC3 HX3 HY3
 go_wp2_with (go_at_call 14;refine (lZ _ _).mono ?_;rintro e w' ⟨rfl,hw⟩;have hw:=hw.symm;subst hw)
 refine (aX n la ga oa lc gc oc xl xg xo ls gs os _ hml hmg hmo hL7 hG7 hO7 hx1 hx2 rxL7 rxG7 rxO7).mono ?_;rintro e w8 ⟨rfl,sp8⟩;have K8:=Keeps.of_span sp8;have HC8:Hid (∀i,w8.cell? ⟨w.heap.size,i,none⟩=#[.int .i64 2,sv,.int .i64 n,.slice la ls.length lc,.slice ga gs.length gc,.slice oa os.length oc,.int .i64 m,.slice lb lt.length ld,.slice gb gt.length gd,.slice ob ot.length od,.slice ia ins.length ic,.int .i64 nn][i]?):=aJ HC7.out (by omega) K8 (by omega);have HY8:Hid (∀i,w8.cell? ⟨w2.heap.size,i,none⟩=#[.int .i64 m,.slice (some ⟨yl,0,none⟩) lt.length (lt.length+8),.slice (some ⟨yg,0,none⟩) gt.length (gt.length+8),.slice (some ⟨yo,0,none⟩) ot.length (ot.length+8)][i]?):=aJ HY7.out (by omega) K8 (by omega);have ryL8:=aC ryL7 K8 (by omega);have ryG8:=aC ryG7 K8 (by omega);have ryO8:=aC ryO7 K8 (by omega);have rzI8:=aC rzI7 K8 (by omega);have kL8:=(kL7.span sp8 (Nat.le_refl _)).mono (show xl≤yl by omega);have kG8:=(kG7.span sp8 (Nat.le_refl _)).mono (show xl≤yl by omega);have kO8:=(kO7.span sp8 (Nat.le_refl _)).mono (show xl≤yl by omega);have hI8:=hI7.span sp8 (Nat.le_refl _);have s78:w7.heap.size≤w8.heap.size:=K8.size;have hB8:=hB7.span K8 (sev _ _ (by omega) (by omega));have y0:=HY8.out 0;have y1:=HY8.out 1;have y2':=HY8.out 2;have y3':=HY8.out 3;have c6:=HC8.out 6;have c7:=HC8.out 7;have c8:=HC8.out 8;have c9:=HC8.out 9;clear x0 x1 x2 x3 c2 c3 c4 c5 hL7 hG7 hO7 kL7 kG7 kO7 rxL7 rxG7 rxO7 hB7 hI7 ryL7 ryG7 ryO7 rzI7
 go_wp2_with fail
 refine (aX m lb gb ob ld gd od yl yg yo lt gt ot _ hnl hng hno kL8 kG8 kO8 hy1 hy2 ryL8 ryG8 ryO8).mono ?_;rintro e w9 ⟨rfl,sp9⟩;have K9:=Keeps.of_span sp9;have HC9:Hid (∀i,w9.cell? ⟨w.heap.size,i,none⟩=#[.int .i64 2,sv,.int .i64 n,.slice la ls.length lc,.slice ga gs.length gc,.slice oa os.length oc,.int .i64 m,.slice lb lt.length ld,.slice gb gt.length gd,.slice ob ot.length od,.slice ia ins.length ic,.int .i64 nn][i]?):=aJ HC8.out (by omega) K9 (by omega);have rzI9:=aC rzI8 K9 (by omega);have hI9:=hI8.span sp9 (by omega);have s89:w8.heap.size≤w9.heap.size:=K9.size;have hB9:=hB8.span K9 (sev _ _ (by omega) (by omega));have c10:=HC9.out 10;clear y0 y1 y2' y3' c6 c7 c8 c9 hB8 hI8 ryL8 ryG8 ryO8 rzI8 kL8 kG8 kO8
 go_wp2_with fail
 refine (bM ia ic zi ins _ hmi (hI9.mono (by omega)) rzI9).mono ?_;rintro e w10 ⟨rfl,sp10⟩;have K10:=Keeps.of_span sp10;have hB10:=hB9.span K10 (sev _ _ (by omega) (by omega));clear c10 hB9 hI9 rzI9
 go_wp2_with fail
 refine (dK _ P _ _ _ _ hB10 (by omega)).mono ?_;rintro e w11 ⟨rfl,b11⟩;go_wp2
 go_ret
 refine ⟨rfl,R7,v7,es7,hB10.below b11,?_,fun k hk=>?_⟩
 ·exact (aV (aV (aV K07 K8 (by omega)) K9 (by omega)) K10 (by omega)).trans (Keeps.of_below b11)
 ·rcases n7 k hk with h | h
  ·exact .inl h
  ·exact .inr (by omega)
end Go.Proofs.YtgpaajdfkekjiaaGreatDoor
