/-
  A part of the proof of the statement All: texts of ours, made small by program (blanks, names).
-/
import Derived.Test.YtgpaajdfkekjiaaGreatDoorPg
import Derived.Test.YtgpaajdfkekjiaaGreatDoorPr
import Derived.Test.YtgpaajdfkekjiaaGreatDoorPx
namespace Go.Proofs.YtgpaajdfkekjiaaGreatDoor
set_option maxHeartbeats 8000000
set_option maxRecDepth 100000
open Go.RowKit
def rtL (ls:List (Int×Int)) (k:Nat):List Nat:=(List.range k).map fun j=>(ls.getD j (0,0)).1.toNat
def rtO (os:List Int) (k:Nat):List Nat:=(List.range k).map fun j=>(os.getD j 0).toNat
theorem aJ6 (ls:List (Int×Int)) (k:Nat):rtL ls (k+1)=rtL ls k++[(ls.getD k (0,0)).1.toNat]:=by simp [rtL,List.range_succ]
theorem aJ7 (os:List Int) (k:Nat):rtO os (k+1)=rtO os k++[(os.getD k 0).toNat]:=by simp [rtO,List.range_succ]
theorem aL9 (ls:List (Int×Int)):rtL ls ls.length=ls.map fun p=>p.1.toNat:=by
 apply List.ext_getElem
 ·simp [rtL]
 ·intro i h1 h2
  have:i<ls.length:=by simpa using h2
  simp [rtL,this]
theorem aLA (os:List Int):rtO os os.length=os.map fun s=>s.toNat:=by
 apply List.ext_getElem
 ·simp [rtO]
 ·intro i h1 h2
  have:i<os.length:=by simpa using h2
  simp [rtO,this]
def mixL (l:List Nat) (ls:List (Int×Int)) (k:Nat):List (Int×Int):=(List.range ls.length).map fun j=>if j<k then ((putS l (ls.getD j (0,0)).1.toNat:Int),(ls.getD j (0,0)).2) else ls.getD j (0,0)
def mixO (l:List Nat) (os:List Int) (k:Nat):List Int:=(List.range os.length).map fun j=>if j<k then (putS l (os.getD j 0).toNat:Int) else os.getD j 0
theorem wO (l:List Nat) (ls:List (Int×Int)) (k:Nat):(mixL l ls k).length=ls.length:=by simp [mixL]
theorem aCY (l:List Nat) (os:List Int) (k:Nat):(mixO l os k).length=os.length:=by simp [mixO]
theorem aFW (l:List Nat) (ls:List (Int×Int)):mixL l ls 0=ls:=by
 apply List.ext_getElem
 ·simp [mixL]
 ·intro i h1 h2;simp [mixL,h2]
theorem aFY (l:List Nat) (os:List Int):mixO l os 0=os:=by
 apply List.ext_getElem
 ·simp [mixO]
 ·intro i h1 h2;simp [mixO,h2]
theorem aIL (l:List Nat) (ls:List (Int×Int)):mixL l ls ls.length=nmL l ls ls.length:=by
 unfold mixL nmL
 apply List.map_congr_left
 intro j hj;rw [if_pos (List.mem_range.1 hj)]
theorem aIM (l:List Nat) (os:List Int):mixO l os os.length=nmO l os os.length:=by
 unfold mixO nmO
 apply List.map_congr_left
 intro j hj;rw [if_pos (List.mem_range.1 hj)]
theorem aFV (l:List Nat) (ls:List (Int×Int)) (k:Nat):mixL l ls (k+1)=(mixL l ls k).set k ((putS l (ls.getD k (0,0)).1.toNat:Int),(ls.getD k (0,0)).2):=by
 apply List.ext_getElem
 ·simp [mixL]
 ·intro i h1 h2
  rw [List.getElem_set];simp only [mixL,List.getElem_map,List.getElem_range]
  by_cases e:k=i
  ·subst e;rw [if_pos (by omega),if_pos rfl]
  ·rw [if_neg e]
   by_cases h:i<k
   ·rw [if_pos (by omega),if_pos h]
   ·rw [if_neg (by omega),if_neg h]
theorem aFX (l:List Nat) (os:List Int) (k:Nat):mixO l os (k+1)=(mixO l os k).set k (putS l (os.getD k 0).toNat:Int):=by
 apply List.ext_getElem
 ·simp [mixO]
 ·intro i h1 h2
  rw [List.getElem_set];simp only [mixO,List.getElem_map,List.getElem_range]
  by_cases e:k=i
  ·subst e;rw [if_pos (by omega),if_pos rfl]
  ·rw [if_neg e]
   by_cases h:i<k
   ·rw [if_pos (by omega),if_pos h]
   ·rw [if_neg (by omega),if_neg h]
theorem aCX (l:List Nat) (ls:List (Int×Int)){k:Nat}(hk:k<ls.length):(mixL l ls k).getD k (0,0)=ls.getD k (0,0):=by
 rw [List.getD_eq_getElem?_getD,List.getElem?_eq_getElem (by rw [wO];exact hk)]
 simp [mixL]
theorem aIN (l:List Nat) (os:List Int){k:Nat}(hk:k<os.length):(mixO l os k).getD k 0=os.getD k 0:=by
 rw [List.getD_eq_getElem?_getD,List.getElem?_eq_getElem (by rw [aCY];exact hk)]
 simp [mixO]
theorem yP:∀(ps:List (Int×Int)) (k:Nat) (x:Int),k<ps.length→(flat ps).set (k*2) (.int .i64 x)=flat (ps.set k (x,(ps.getD k (0,0)).2))
 | [],k,x,h=>by simp at h
 | p :: ps,0,x,_=>by simp [flat]
 | p :: ps,k+1,x,h=>by
  have h':k<ps.length:=by simpa using h
  have e:=yP ps k x h';simp only [flat,List.flatMap_cons,List.set_cons_succ,List.getD_cons_succ] at e ⊢;rw [show (k+1)*2=k*2+1+1 by omega];simp only [List.cons_append,List.nil_append,List.set_cons_succ,e]
theorem aIC (os:List Int) (i:Nat) (x:Int):(ivs os).set i (.int .i64 x)=ivs (os.set i x):=by simp [ivs,List.map_set]
theorem YInv.drewY {wr:World}{B U T:Nat}{f:Nat→Bool}{nv kv:Value}{nm:List Nat}{st:List (Nat×Nat)}(I:YInv wr B U T f nv kv nm st):YInv wr.drew B U T f nv kv nm st:=⟨I.bs,I.ownN.drew,I.ownK.drew,I.nk,I.row.drew,I.nU,I.kU⟩
theorem YInv.setBox {wr:World}{B U T:Nat}{f:Nat→Bool}{nv kv:Value}{nm:List Nat}{st:List (Nat×Nat)}(I:YInv wr B U T f nv kv nm st){C i:Nat}{v:Value}(h:C<B) (hU:C≠U):YInv (wr.setCell ⟨C,i,none⟩ v) B U T f nv kv nm st :=
 ⟨by rw [Deep.nblk_setCell];exact I.bs,kV h I.ownN _ _,kV h I.ownK _ _,I.nk,I.row.setOther (fun e=>hU e.symm) _,I.nU,I.kU⟩
theorem aE8 {tmps:Array Value}{Q:Ending→World→Prop}{w:World}{b:Nat}{v0 v1 v2 v3:Value}(h:w.heap[b]?=some (.cells #[v0,v1,v2,v3] 34 (0,0)))
  (h6:tmps[6]?.getD undef=.pointer (some ⟨b,0,none⟩)) (hQ:Q (.returned (.agg #[v0,v1,v2,v3])) w) :
  bodyPost Tryz.prog Tryz.f58 Q Exit.ret ⟨tmps,[]⟩ w:=by
 obtain ⟨c0,c1,c2,c3⟩:=aK h
 exact bodyPost_ret (by simp [results,Tryz.results58,go_sem,h6,c0,c1,c2,c3]) rfl hQ
def aKC (B:Nat) (w:World) (n:Nat) (lv ov:Value) (ls gs:List (Int×Int)) (os:List Int) (e:Ending) (w':World):Prop :=
 ∃gv,e=.returned (.agg #[.int .i64 n,lv,gv,ov])∧w'.ownsRow B 54 2 lv ls.length (flat ls)∧w'.ownsRow w.heap.size 56 2 gv gs.length (flat gs)∧w'.ownsRow B 3 1 ov os.length (ivs os)∧Below B w w'
theorem aEA (n F B:Nat) (la ka oa:Option Addr) (lc kc oc:Nat) (ls:List (Int×Int)) (os:List Int) (kp:List (Nat×Nat)) (use:Nat→Bool) (w:World) (h2:ls.length≤4) (h4:os.length≤4) (h3:kp.length≤30) (hF:F≤9) (hF1:1≤F) (hB:B≤w.heap.size)
  (oL:w.ownsRow B 54 2 (.slice la ls.length lc) ls.length (flat ls)) (oO:w.ownsRow B 3 1 (.slice oa os.length oc) os.length (ivs os)) (hlo:∀q,(Value.slice la ls.length lc).ownBlock=some q→(Value.slice oa os.length oc).ownBlock≠some q) (hK:PairsAt w ka (z2 kp))
  (fL:∀i,i<ls.length→0≤(ls.getD i (0,0)).1∧(ls.getD i (0,0)).1.toNat / 2<F+kp.length) (fO:∀i,i<os.length→0≤os.getD i 0∧(os.getD i 0).toNat / 2<F+kp.length) (hk:mI F kp)
  (hu:use=need F (ls.map (fun p=>p.1.toNat)++ os.map fun s=>s.toNat) kp kp.length) :
  Calls Tryz.prog 58 #[.agg #[.int .i64 n,.slice la ls.length lc,.slice none 0 0,.slice oa os.length oc],.slice ka kp.length kc,.int .i64 F] w
   (aKC B w n (.slice la ls.length lc) (.slice oa os.length oc) (nmL (sl2 F use kp kp.length).1 ls ls.length) (z2 (sl2 F use kp kp.length).2) (nmO (sl2 F use kp kp.length).1 os os.length)):=by
 obtain ⟨T,hT⟩:∃T,T=F+kp.length:=⟨_,rfl⟩
 have hTI:(F:Int)+(kp.length:Int)=(T:Int):=by omega
 have T40:T≤40:=by omega
 obtain ⟨_,_,hla,pL⟩:=iM oL rfl;obtain ⟨_,_,hoa,pO⟩:=wE oO rfl;simp only [Value.slice.injEq] at hla hoa;obtain ⟨rfl,-,rfl⟩:=hla;obtain ⟨rfl,-,rfl⟩:=hoa;rw [←hT] at fL fO;have FL:=aE fL;have FO:=aE fO;have HT:=aE hT;have OL:=aE oL;have OO:=aE oO;have HLO:=aE hlo;have HKO:=aE hk;have HU:=aE hu;clear fL fO hT oL oO hlo hk hu;obtain ⟨iO,hiO,zO0,zO1,zO2⟩:=info_parts Tryz.infoInt;obtain ⟨iG,hiG,zG0,zG1,zG2⟩:=info_parts Tryz.infoGS;have hmk:=run_make_row' (P:=Tryz.prog) 138 4 (.bool false) 1 Tryz.underlying138 Tryz.infoBoolS rfl .i64 .i64 T (by omega) (by omega);obtain ⟨W3,hW3⟩:∃W3,W3=((w.alloc (.cells #[.int .i64 n,.slice la ls.length lc,.slice none 0 0,.slice oa os.length oc] 34)).alloc (.cells #[.int .i64 0,.slice none 0 0,.slice none 0 0,.slice none 0 0] 34)).alloc (.cells (madeCells #[.bool false] T) 4):=⟨_,rfl⟩
 have s3:W3.heap.size=w.heap.size+3:=by rw [hW3];simp
 have B3:Below w.heap.size w W3:=by rw [hW3];exact (((Below.refl _ _).alloc (Nat.le_refl _) _).alloc (by simp) _).alloc (by simp;omega) _
 have bC:W3.heap[w.heap.size]?=some (.cells #[.int .i64 n,.slice la ls.length lc,.slice none 0 0,.slice oa os.length oc] 34 (0,0)):=by rw [hW3];exact aA (aA (aB _ _ _ rfl))
 have bR:W3.heap[w.heap.size+1]?=some (.cells #[.int .i64 0,.slice none 0 0,.slice none 0 0,.slice none 0 0] 34 (0,0)):=by rw [hW3];exact aA (aB _ _ _ (by simp))
 have bU3:W3.rowIs (w.heap.size+1+1) 4 T (bvf (iZ (rtL ls 0))):=by
  have h:=World.rowIs_made ((w.alloc (.cells #[.int .i64 n,.slice la ls.length lc,.slice none 0 0,.slice oa os.length oc] 34)).alloc (.cells #[.int .i64 0,.slice none 0 0,.slice none 0 0,.slice none 0 0] 34)) (.bool false) T 4;rw [←hW3] at h;simp only [World.size_alloc] at h
  exact h.congr (fun v _=>by simp [bvf,rtL,zI])
 go_enter Tryz.func58,Tryz.ntmps58
 go_wp2_with fail
 rw [←hW3];clear hW3;clear hmk
 go_loopw [8] (fun i wr=>∃k:Nat,k≤ls.length∧i=.int .i64 k∧wr.rowIs (w.heap.size+1+1) 4 T (bvf (iZ (rtL ls k)))∧wr.heap[w.heap.size]?=some (.cells #[.int .i64 n,.slice la ls.length lc,.slice none 0 0,.slice oa os.length oc] 34 (0,0))∧wr.heap[w.heap.size+1]?=some (.cells #[.int .i64 0,.slice none 0 0,.slice none 0 0,.slice none 0 0] 34 (0,0))∧Below w.heap.size w wr) (fun i _=>ls.length - (intOf i).toNat)
 case atStart=>exact ⟨0,Nat.zero_le _,rfl,bU3,bC,bR,B3⟩
 case round =>
  clear bU3 bC bR B3 s3;obtain ⟨k,hk,rfl,bU,bC,bR,bel⟩:=hrel;have q1:wr.cell? ⟨w.heap.size,1,none⟩=some (.slice la ls.length lc):=by rw [cell_of_row _ _ _ _ _ _ bC];rfl
  by_cases hk2:k<ls.length
  ·obtain ⟨bl,ol,rfl,hlt,hcL⟩:=pL.get (by omega)
   have hx1':=(bel.cell (p:=⟨bl,ol+k*2,none⟩) hlt).trans (hcL k hk2).1;obtain ⟨f1,f2⟩:=FL.out k hk2;obtain ⟨x1,hX1⟩:=Int.eq_ofNat_of_zero_le f1;have HK:Hid (rtL ls (k+1)=rtL ls k++[x1]):=(by show _=_;rw [aJ6,hX1,Int.toNat_natCast])
   rw [hX1,Int.toNat_natCast] at f2;rw [hX1] at hx1';have hx1:wr.cell? ⟨bl,ol+k*2,none⟩=some (.int .i64 (x1:Int)):=hx1';have hkI:(k:Int)<(ls.length:Int):=(by omega)
   have cU:=bU.cell f2;have gU:=bU.frozen (x1 / 2);have X1:=aE ((iA bU (x1 / 2)).congr (g:=bvf (iZ (rtL ls (k+1)))) (fun v _=>by rw [HK.out];simp only [bvf,kQ]));clear hX1 hcL f1 hx1';go_wp2
   go_roundw
   case rel=>exact ⟨k+1,by omega,by go_num,X1.out,by rw [Deep.blk_setCell_other _ _ _ _ (show w.heap.size≠w.heap.size+1+1 by omega)];exact bC,by rw [Deep.blk_setCell_other _ _ _ _ (show w.heap.size+1≠w.heap.size+1+1 by omega)];exact bR,bel.setCell (show w.heap.size≤w.heap.size+1+1 by omega) _⟩
   case measure=>simp [intOf];omega
  ·have hkN:k=ls.length:=by omega
   rw [hkN] at bU;rw [hkN];clear hkN hk2 hk
   go_wp2_with fail
   clear q1
   go_loopw [9] (fun i wr=>∃k:Nat,k≤os.length∧i=.int .i64 k∧wr.rowIs (w.heap.size+1+1) 4 T (bvf (iZ (rtL ls ls.length++rtO os k)))∧wr.heap[w.heap.size]?=some (.cells #[.int .i64 n,.slice la ls.length lc,.slice none 0 0,.slice oa os.length oc] 34 (0,0))∧wr.heap[w.heap.size+1]?=some (.cells #[.int .i64 0,.slice none 0 0,.slice none 0 0,.slice none 0 0] 34 (0,0))∧Below w.heap.size w wr) (fun i _=>os.length - (intOf i).toNat)
   case atStart=>exact ⟨0,Nat.zero_le _,rfl,bU.congr (fun v _=>by simp [bvf,rtO]),bC,bR,bel⟩
   case round =>
    clear bU bC bR bel;obtain ⟨k,hk,rfl,bU,bC,bR,bel⟩:=hrel;have q1:wr.cell? ⟨w.heap.size,3,none⟩=some (.slice oa os.length oc):=by rw [cell_of_row _ _ _ _ _ _ bC];rfl
    by_cases hk2:k<os.length
    ·obtain ⟨bl,ol,rfl,hlt,hcO⟩:=pO.get (by omega)
     have hx1':=(bel.cell (p:=⟨bl,ol+k,none⟩) hlt).trans (hcO k hk2);obtain ⟨f1,f2⟩:=FO.out k hk2;obtain ⟨x1,hX1⟩:=Int.eq_ofNat_of_zero_le f1;have HK:Hid (rtO os (k+1)=rtO os k++[x1]):=(by show _=_;rw [aJ7,hX1,Int.toNat_natCast])
     rw [hX1,Int.toNat_natCast] at f2;rw [hX1] at hx1';have hx1:wr.cell? ⟨bl,ol+k,none⟩=some (.int .i64 (x1:Int)):=hx1';have hkI:(k:Int)<(os.length:Int):=(by omega)
     have cU:=bU.cell f2;have gU:=bU.frozen (x1 / 2);have X1:=aE ((iA bU (x1 / 2)).congr (g:=bvf (iZ (rtL ls ls.length++rtO os (k+1)))) (fun v _=>by rw [HK.out,←List.append_assoc];simp only [bvf,kQ]));clear hX1 hcO f1 hx1';go_wp2
     go_roundw
     case rel=>exact ⟨k+1,by omega,by go_num,X1.out,by rw [Deep.blk_setCell_other _ _ _ _ (show w.heap.size≠w.heap.size+1+1 by omega)];exact bC,by rw [Deep.blk_setCell_other _ _ _ _ (show w.heap.size+1≠w.heap.size+1+1 by omega)];exact bR,bel.setCell (show w.heap.size≤w.heap.size+1+1 by omega) _⟩
     case measure=>simp [intOf];omega
    ·have hkN:k=os.length:=by omega
     rw [hkN] at bU;rw [hkN];clear hkN hk2 hk;rw [aL9,aLA] at bU;obtain ⟨roots,hro⟩:∃r,r=(ls.map (fun p=>p.1.toNat)++ os.map fun s=>s.toNat):=⟨_,rfl⟩
     rw [←hro] at bU;have HRO:=aE hro;clear hro
     go_wp2_with fail
     clear q1
     go_loopw [10] (fun i wr=>∃j:Nat,j≤kp.length∧i=.int .i64 ((kp.length:Int) - 1 - j)∧wr.rowIs (w.heap.size+1+1) 4 T (bvf (need F roots kp j))∧wr.heap[w.heap.size]?=some (.cells #[.int .i64 n,.slice la ls.length lc,.slice none 0 0,.slice oa os.length oc] 34 (0,0))∧wr.heap[w.heap.size+1]?=some (.cells #[.int .i64 0,.slice none 0 0,.slice none 0 0,.slice none 0 0] 34 (0,0))∧Below w.heap.size w wr) (fun i _=>(intOf i+1).toNat)
     case atStart=>exact ⟨0,Nat.zero_le _,by go_num,bU.congr (fun v _=>rfl),bC,bR,bel⟩
     case round =>
      clear bU bC bR bel;obtain ⟨j,hj,rfl,bU,bC,bR,bel⟩:=hrel
      by_cases hj2:j<kp.length
      ·obtain ⟨i,hi⟩:∃i:Nat,i=kp.length - 1 - j:=⟨_,rfl⟩
       have hiI:(kp.length:Int) - 1 - (j:Int)=(i:Int):=(by omega)
       have hik:i<kp.length:=(by omega)
       rw [hiI];obtain ⟨b,off,rfl,hb,hc⟩:=hK.get (by rw [fZ];omega);have d:=hc i (by rw [fZ];exact hik);rw [aAS] at d;have d0:=(bel.cell (p:=⟨b,off+i*2,none⟩) hb).trans d.1;have d1:=(bel.cell (p:=⟨b,off+i*2+1,none⟩) hb).trans d.2;have ko:=HKO.out i hik;have hst:Hid (∀v,need F roots kp (j+1) v=(need F roots kp j v||(need F roots kp j (F+i)&&(decide ((kp.getD i (0,0)).1 / 2=v)||decide ((kp.getD i (0,0)).2 / 2=v))))):=fun v=>by rw [need,hi]
       obtain ⟨g,hg⟩:∃g,g=kp.getD i (0,0):=⟨_,rfl⟩
       rw [←hg] at d0 d1 ko hst;obtain ⟨x,y⟩:=g;dsimp only at d0 d1 ko hst;have hFT:F+i<T:=(by rw [HT.out];omega)
       have hx:x / 2<T:=(by omega)
       have hy:y / 2<T:=(by omega)
       have hi0:(0:Int)≤(i:Int):=(by omega)
       have hikI:(i:Int)<(kp.length:Int):=(by omega)
       have cF:=bU.cell hFT;have e1:(kp.length:Int) - 1 - ((j+1:Nat):Int)=(i:Int) - 1:=(by omega)
       have HE1:=aE e1;have HI:=aE hi;clear d hc hg ko hi e1 hiI
       cases hn:need F roots kp j (F+i)
       ·rw [show bvf (need F roots kp j) (F+i)=.bool false by rw [bvf,hn]] at cF
        have X1:=aE (bU.congr (g:=bvf (need F roots kp (j+1))) (fun v _=>by simp only [bvf];rw [hst.out v,hn];simp));clear hst hn;go_wp2
        go_roundw
        case rel=>exact ⟨j+1,by omega,by rw [HE1.out],X1.out,bC,bR,bel⟩
        case measure=>simp [intOf]
       ·rw [show bvf (need F roots kp j) (F+i)=.bool true by rw [bvf,hn]] at cF
        have r1:=iA bU (x / 2);have r2:=iA r1 (y / 2);have X1:=aE (r2.congr (g:=bvf (need F roots kp (j+1))) (fun v _=>by simp only [bvf];rw [hst.out v,hn];simp [Bool.or_assoc]));have cU:=bU.cell hx;have gU:=bU.frozen (x / 2);have cU2:=r1.cell hy;have gU2:=r1.frozen (y / 2);clear hst hn;obtain ⟨V1,hV1⟩:∃V,V=bvf (fun v=>need F roots kp j v||decide (x / 2=v)) (y / 2):=⟨_,rfl⟩
        rw [←hV1] at cU2;clear hV1 r1 r2;go_wp2
        go_roundw
        case rel=>exact ⟨j+1,by omega,by rw [HE1.out],X1.out,by rw [Deep.blk_setCell_other _ _ _ _ (show w.heap.size≠w.heap.size+1+1 by omega),Deep.blk_setCell_other _ _ _ _ (show w.heap.size≠w.heap.size+1+1 by omega)];exact bC,by rw [Deep.blk_setCell_other _ _ _ _ (show w.heap.size+1≠w.heap.size+1+1 by omega),Deep.blk_setCell_other _ _ _ _ (show w.heap.size+1≠w.heap.size+1+1 by omega)];exact bR,(bel.setCell (show w.heap.size≤w.heap.size+1+1 by omega) _).setCell (show w.heap.size≤w.heap.size+1+1 by omega) _⟩
        case measure=>simp [intOf]
      ·have hjN:j=kp.length:=by omega
       rw [hjN] at bU;rw [hjN];clear hjN hj2 hj;rw [HRO.out,←HU.out] at bU;clear HRO
       go_wp2_with fail
       go_loopw [11,12] (fun v i wr=>∃k:Nat,k≤F∧i=.int .i64 k∧wr.ownsRow (w.heap.size+3) 3 1 v k (aP (idn k))∧w.heap.size+3≤wr.heap.size∧wr.rowIs (w.heap.size+1+1) 4 T (bvf use)∧wr.heap[w.heap.size]?=some (.cells #[.int .i64 n,.slice la ls.length lc,.slice none 0 0,.slice oa os.length oc] 34 (0,0))∧wr.heap[w.heap.size+1]?=some (.cells #[.int .i64 0,.slice none 0 0,.slice none 0 0,.slice none 0 0] 34 (0,0))∧Below w.heap.size w wr) (fun _ i _=>F - (intOf i).toNat)
       case atStart=>exact ⟨0,Nat.zero_le _,rfl,⟨rfl,.inl ⟨rfl,rfl⟩⟩,by have:=bU.lt;omega,bU,bC,bR,bel⟩
       case round =>
        clear bU bC bR bel;obtain ⟨k,hk,rfl,hown,hsz,bU,bC,bR,bel⟩:=hrel
        by_cases hk2:k<F
        ·have kI:(k:Int)<(F:Int):=by omega
         obtain ⟨X,hX⟩:∃X:Nat,X=2*k:=⟨_,rfl⟩
         have hXI:(2:Int)*(k:Int)=(X:Int):=(by omega)
         have HX:=aE hX;clear hX;have own5:=hown.alloc (.cells #[.int .i64 (X:Int)] 3)
         go_wp2_with (at_builtin;refine wpList_append_lies _ rfl (.tmp 86) (.tmp 89) 32 rfl (w.heap.size+3) 3 iO (.int .i64 0) 1 8 Tryz.underlying32 hiO zO0 zO1 zO2 rfl (by omega) _ _ _ rfl own5 ⟨wr.heap.size,0,none⟩ 1 1 [.int .i64 (X:Int)] rfl rfl (cell_one_new _ _ _) (by simp;rfl) (by omega) (by unfold maxLen;omega) (by omega) (by simp;omega) _ rfl ?_)
         intro g' cap' w1 hown1 hgrow hat1 hlt1;have G9:Grew _ w1 _ g':=⟨hgrow,hat1.imp id (fun e=>by rw [World.size_alloc];exact e)⟩
         have B9:Below w.heap.size w w1:=(bel.alloc bel.size _).grown hgrow (by simp;omega) (fun q hq=>by have:=(hown.lt q hq).1;omega);have C9:=aE ((G9.blk w.heap.size (by simp;omega) (fun e=>by have:=(hown.lt _ e).1;omega)).trans (aA bC));have A9:=aE ((G9.blk (w.heap.size+1) (by simp;omega) (fun e=>by have:=(hown.lt _ e).1;omega)).trans (aA bR));have U9:=aE ((bU.alloc (.cells #[.int .i64 (X:Int)] 3)).of_block (G9.blk (w.heap.size+1+1) (by simp;omega) (fun e=>by have:=(hown.lt _ e).1;omega)));have O9:=aE hown1;have s9:w.heap.size+3≤w1.heap.size:=(by have:=hgrow.size;simp at this;omega)
         clear hgrow hown1 G9 hat1 hlt1 own5 hown;go_wp2
         go_roundw
         case rel=>exact ⟨k+1,by omega,by go_num,by rw [←vZ,aZ,←HX.out];exact O9.out,s9,U9.out,C9.out,A9.out,B9⟩
         case measure=>simp [intOf];omega
        ·have hkF:k=F:=by omega
         rw [hkF] at hown;rw [hkF];clear hkF hk2 hk;obtain ⟨na,nc,rfl⟩:=aW hown;obtain ⟨gv,hgv⟩:∃gv:Value,gv=.slice none 0 0:=⟨_,rfl⟩
         have I4:YInv wr (w.heap.size+3) (w.heap.size+1+1) T use (.slice na F nc) gv (sl2 F use kp 0).1 (sl2 F use kp 0).2:=by
          rw [hgv];refine ⟨hsz,?_,World.ownsRow_nil _ _ _ _,(fun q _ e=>by cases e),bU,?_,(fun e=>by cases e)⟩
          ·show wr.ownsRow _ _ _ _ (idn F).length (aP (idn F))
           rw [jN];exact hown
          ·intro e
           have:=(hown.lt _ e).1
           omega
         rw [←hgv] at bC;clear hown bU hsz
         go_wp2_with fail
         clear hgv
         go_loopw [11,13] (fun nv i wr=>∃(k:Nat) (gv:Value),k≤kp.length∧i=.int .i64 k∧YInv wr (w.heap.size+3) (w.heap.size+1+1) T use nv gv (sl2 F use kp k).1 (sl2 F use kp k).2∧wr.heap[w.heap.size]?=some (.cells #[.int .i64 n,.slice la ls.length lc,gv,.slice oa os.length oc] 34 (0,0))∧wr.heap[w.heap.size+1]?=some (.cells #[.int .i64 0,.slice none 0 0,.slice none 0 0,.slice none 0 0] 34 (0,0))∧Below w.heap.size w wr) (fun _ i _=>kp.length - (intOf i).toNat)
         case atStart=>exact ⟨0,_,Nat.zero_le _,rfl,I4,bC,bR,bel⟩
         case round =>
          clear I4 bC bR bel;clear gv;obtain ⟨k,gv,hk,rfl,I,bC,bR,bel⟩:=hrel
          by_cases hk2:k<kp.length
          ·obtain ⟨b,off,rfl,hb,hc⟩:=hK.get (by rw [fZ];omega)
           have d:=hc k (by rw [fZ];exact hk2);rw [aAS] at d;have d0':=(bel.cell (p:=⟨b,off+k*2,none⟩) hb).trans d.1;have d1':=(bel.cell (p:=⟨b,off+k*2+1,none⟩) hb).trans d.2;have okk:=HKO.out k hk2;have hnext:=aD8 F use kp k;obtain ⟨a,hA⟩:∃a,a=(kp.getD k (0,0)).1:=⟨_,rfl⟩
           obtain ⟨c,hC⟩:∃c,c=(kp.getD k (0,0)).2:=⟨_,rfl⟩
           rw [←hA,←hC] at okk hnext;have e0:wr.cell? ⟨b,off+k*2,none⟩=some (.int .i64 (a:Int)):=(by rw [hA];exact d0')
           have e1:wr.cell? ⟨b,off+k*2+1,none⟩=some (.int .i64 (c:Int)):=(by rw [hC];exact d1')
           have hnl:=jF F use kp k;have hsl:=jG (first:=F) (use:=use) (kept:=kp) k;have tin:=kW F use kp k;obtain ⟨nm,hnm⟩:∃x,x=(sl2 F use kp k).1:=⟨_,rfl⟩
           obtain ⟨st,hst⟩:∃x,x=(sl2 F use kp k).2:=⟨_,rfl⟩
           rw [←hnm] at I hnl tin hnext;rw [←hst] at I hsl hnext;obtain ⟨S',hS'⟩:∃s,s=2*(F+st.length):=⟨_,rfl⟩
           rw [←hS'] at hnext;have hSI:(2:Int)*((F:Int)+(st.length:Int))=(S':Int):=(by omega)
           obtain ⟨x,hx⟩:∃x,x=putS (nm++[S']) a:=⟨_,rfl⟩
           obtain ⟨y,hy⟩:∃y,y=putS (nm++[S']) c:=⟨_,rfl⟩
           rw [←hx,←hy] at hnext;have tin2:∀z∈nm++[S'],z<1000:=fun z hz=>by
            rcases List.mem_append.1 hz with h | h
            ·have:=tin z h;omega
            ·simp at h;omega
           have hTk:F+k<T:=(by have:=HT.out;omega)
           have cU:=I.row.cell hTk;unfold bvf at cU;have hFk:(F:Int)+(k:Int)<(T:Int):=(by omega)
           have hkI:(k:Int)<(kp.length:Int):=(by omega)
           have hkl30:st.length≤30:=(by omega)
           have hnl50:nm.length≤50:=(by omega)
           have hwsz:=bel.size;have hbs:=I.bs;have hF2:F+k=nm.length:=(by omega)
           have cG0:wr.cell? ⟨w.heap.size,2,none⟩=some gv:=(by rw [cell_of_row _ _ _ _ _ _ bC];rfl)
           obtain ⟨na,nc,rfl⟩:=aW I.ownN;obtain ⟨ga,gc,rfl⟩:=aW I.ownK;have NX:=aE hnext;have TIN:=aE tin2;have PX:=aE hx;have PY:=aE hy;have OKK:=aE okk;have HF2:=aE hF2;clear hA hC hnext hnm hst hx hy okk tin tin2 d0' d1' d hc hS' hnl hsl hF2
           cases hff:use (F+k) with
           | false =>
            rw [hff] at cU;have NX1:Hid (sl2 F use kp (k+1)=(nm++[0],st)):=(by show _=_;rw [NX.out,hff];rfl)
            have own5:=I.ownN.alloc (.cells #[.int .i64 0] 3)
            go_wp2_with (at_builtin;refine wpList_append_lies _ rfl (.tmp 104) (.tmp 105) 32 rfl (w.heap.size+3) 3 iO (.int .i64 0) 1 8 Tryz.underlying32 hiO zO0 zO1 zO2 rfl (by omega) _ _ _ rfl own5 ⟨wr.heap.size,0,none⟩ 1 1 [.int .i64 0] rfl rfl (cell_one_new _ _ _) (by simp;rfl) (by omega) (by unfold maxLen;omega) (by omega) (by simp;omega) _ rfl ?_)
            intro g' cap' w1 hown1 hgrow hat1 hlt1;have G9:Grew _ w1 _ g':=⟨hgrow,hat1.imp id (fun e=>by rw [World.size_alloc];exact e)⟩
            have X9:=aE ((I.alloc (.cells #[.int .i64 0] 3)).addN (x:=0) hown1 G9);have B9:Below w.heap.size w w1:=(bel.alloc bel.size _).grown hgrow (by simp;omega) (fun q hq=>by have:=(I.ownN.lt q hq).1;omega);have C9:=aE ((G9.blk w.heap.size (by simp;omega) (fun e=>by have:=(I.ownN.lt _ e).1;omega)).trans (aA bC));have A9:=aE ((G9.blk (w.heap.size+1) (by simp;omega) (fun e=>by have:=(I.ownN.lt _ e).1;omega)).trans (aA bR));clear hgrow hown1 G9 hat1 hlt1;go_wp2
            go_roundw
            case rel=>exact ⟨k+1,_,by omega,by go_num,by rw [NX1.out];exact X9.out,C9.out,A9.out,B9⟩
            case measure=>simp [intOf];omega
           | true =>
            rw [hff] at cU;have NX1:Hid (sl2 F use kp (k+1)=(nm++[S'],st++[(x,y)])):=(by show _=_;rw [NX.out,hff];rfl)
            have own5:=I.ownN.alloc (.cells #[.int .i64 (S':Int)] 3)
            go_wp2_with (at_builtin;refine wpList_append_lies _ rfl (.tmp 107) (.tmp 114) 32 rfl (w.heap.size+3) 3 iO (.int .i64 0) 1 8 Tryz.underlying32 hiO zO0 zO1 zO2 rfl (by omega) _ _ _ rfl own5 ⟨wr.heap.size,0,none⟩ 1 1 [.int .i64 (S':Int)] rfl rfl (cell_one_new _ _ _) (by simp;rfl) (by omega) (by unfold maxLen;omega) (by omega) (by simp;omega) _ rfl ?_)
            intro g' cap' w6 hown1 hgrow hat1 hlt1;have G6:Grew _ w6 _ g':=⟨hgrow,hat1.imp id (fun e=>by rw [World.size_alloc];exact e)⟩
            have I6:=(I.alloc (.cells #[.int .i64 (S':Int)] 3)).addN hown1 G6;have B6:Below w.heap.size w w6:=(bel.alloc bel.size _).grown hgrow (by simp;omega) (fun q hq=>by have:=(I.ownN.lt q hq).1;omega);have bC6:=(G6.blk w.heap.size (by simp;omega) (fun e=>by have:=(I.ownN.lt _ e).1;omega)).trans (aA bC);have bR6:=(G6.blk (w.heap.size+1) (by simp;omega) (fun e=>by have:=(I.ownN.lt _ e).1;omega)).trans (aA bR);have hlt6:g'<w6.heap.size:=(hown1.lt g' rfl).2;have hcs6:∀j,j<nm.length+1→w6.cell? ⟨g',0+j,none⟩=some (.int .i64 (((nm++[S']).getD j 0:Nat):Int)):=fun j hj=>by
             have o:=hown1;rw [←aZ] at o;have hj2:j<(nm++[S']).length:=(by simpa using hj)
             rw [Nat.zero_add,o.cellAt j (by simpa [aP] using hj)];simp only [aP,List.getElem?_map,List.getElem?_eq_getElem hj2,List.getD_eq_getElem?_getD,Option.map_some,Option.getD_some]
            have cA:∀W,Below w6.heap.size w6 W→Calls Tryz.prog 56 #[.slice (some ⟨g',0,none⟩) (nm.length+1) cap',.int .i64 (a:Int)] W fun e w'=>e=.returned (.int .i64 (x:Int))∧w'=W:=fun W hW=>by
             rw [PX.out]
             exact kT a g' 0 (nm.length+1) cap' (nm++[S']) W (by have:=OKK.out;have:=HF2.out;omega) (by omega) (by simp) TIN.out (fun j hj=>(hW.cell (p:=⟨g',_,none⟩) hlt6).trans (hcs6 j hj))
            have cC:∀W,Below w6.heap.size w6 W→Calls Tryz.prog 56 #[.slice (some ⟨g',0,none⟩) (nm.length+1) cap',.int .i64 (c:Int)] W fun e w'=>e=.returned (.int .i64 (y:Int))∧w'=W:=fun W hW=>by
             rw [PY.out]
             exact kT c g' 0 (nm.length+1) cap' (nm++[S']) W (by have:=OKK.out;have:=HF2.out;omega) (by omega) (by simp) TIN.out (fun j hj=>(hW.cell (p:=⟨g',_,none⟩) hlt6).trans (hcs6 j hj))
            have hsz6:wr.heap.size≤w6.heap.size:=Nat.le_trans (by simp) hgrow.size;have d0:=(B6.cell (p:=⟨b,off+k*2,none⟩) hb).trans ((bel.cell (p:=⟨b,off+k*2,none⟩) hb).symm.trans e0);have d1:=(B6.cell (p:=⟨b,off+k*2+1,none⟩) hb).trans ((bel.cell (p:=⟨b,off+k*2+1,none⟩) hb).symm.trans e1);have cG:w6.cell? ⟨w.heap.size,2,none⟩=some (.slice ga st.length gc):=(by rw [cell_of_row _ _ _ _ _ _ bC6];rfl)
            have fG:w6.frozen? ⟨w.heap.size,2,none⟩=false:=frozen_of_row _ _ _ _ _ bC6;have lC:w.heap.size<w6.heap.size:=(by omega)
            have lb:b<w6.heap.size:=(by omega)
            have hk0:(0:Int)≤(k:Int):=(by omega)
            clear hgrow hown1 G6 hat1 hlt1 hcs6 own5 I cU e0 e1 bC bR cG0
            go_upto_region 27 with fail
            refine wp_region_noPanic ?_;refine bO (by kernel_rfl) (by kernel_rfl) ?_;simp only [List.pop_toArray,List.dropLast_cons_cons,List.dropLast_singleton,List.size_toArray,List.length_cons,List.length_nil,Nat.zero_add,Nat.reduceAdd];refine wpAny_of_held (S:=fun w'=>w'.cell? ⟨w.heap.size,2,none⟩=some (.slice ga st.length gc)∧w'.cell? ⟨b,off+k*2,none⟩=some (.int .i64 (a:Int))∧w'.cell? ⟨b,off+k*2+1,none⟩=some (.int .i64 (c:Int))) _ _ _ _ ?_;have hHeld:(fun w':World=>w'.cell? ⟨w.heap.size,2,none⟩=some (.slice ga st.length gc)∧w'.cell? ⟨b,off+k*2,none⟩=some (.int .i64 (a:Int))∧w'.cell? ⟨b,off+k*2+1,none⟩=some (.int .i64 (c:Int))) w6.drew:=⟨cG,d0,d1⟩
            refine tkH (i:=0) (v:=?_) (hS:=hHeld) (hy:=Or.inl ⟨by rfl,?_⟩) (h:=?_)
            rotate_left 1
            ·(intro w0 hSw;(try dsimp only at hSw);go_simp;try (with_reducible rfl))
            simp only [Act.put,sSet];refine tkH (i:=1) (v:=?_) (hS:=hHeld) (hy:=Or.inl ⟨by rfl,?_⟩) (h:=?_)
            rotate_left 1
            ·(intro w0 hSw;(try dsimp only at hSw);go_simp;try (with_reducible rfl))
            simp only [Act.put,sSet];refine tkH (i:=2) (v:=?_) (hS:=hHeld) (hy:=Or.inl ⟨by rfl,?_⟩) (h:=?_)
            rotate_left 1
            ·(intro w0 hSw;(try dsimp only at hSw);go_simp;try (with_reducible rfl))
            simp only [Act.put,sSet];refine tkH (i:=3) (v:=?_) (hS:=hHeld) (hy:=Or.inl ⟨by rfl,?_⟩) (h:=?_)
            rotate_left 1
            ·(intro w0 hSw;(try dsimp only at hSw);go_simp;try (with_reducible rfl))
            simp only [Act.put,sSet];refine tkH (i:=4) (v:=?_) (hS:=hHeld) (hy:=Or.inl ⟨by rfl,?_⟩) (h:=?_)
            rotate_left 1
            ·(intro w0 hSw;(try dsimp only at hSw);go_simp;try (with_reducible rfl))
            simp only [Act.put,sSet];refine tkH (i:=5) (v:=?_) (hS:=hHeld) (hy:=Or.inl ⟨by rfl,?_⟩) (h:=?_)
            rotate_left 1
            ·(intro w0 hSw;(try dsimp only at hSw);go_simp;try (with_reducible rfl))
            simp only [Act.put,sSet];refine tkH (i:=6) (v:=?_) (hS:=hHeld) (hy:=Or.inl ⟨by rfl,?_⟩) (h:=?_)
            rotate_left 1
            ·(intro w0 hSw;(try dsimp only at hSw);go_simp;try (with_reducible rfl))
            simp only [Act.put,sSet];refine tkH (i:=7) (v:=?_) (hS:=hHeld) (hy:=Or.inl ⟨by rfl,?_⟩) (h:=?_)
            rotate_left 1
            ·(intro w0 hSw;(try dsimp only at hSw);go_simp;try (with_reducible rfl))
            simp only [Act.put,sSet];refine tkH (i:=9) (v:=?_) (hS:=hHeld) (hy:=Or.inl ⟨by rfl,?_⟩) (h:=?_)
            rotate_left 1
            ·(intro w0 hSw;(try dsimp only at hSw);go_simp;try (with_reducible rfl))
            simp only [Act.put,sSet];refine tkH (i:=10) (v:=?_) (hS:=hHeld) (hy:=Or.inl ⟨by rfl,?_⟩) (h:=?_)
            rotate_left 1
            ·(intro w0 hSw;(try dsimp only at hSw);go_simp;try (with_reducible rfl))
            simp only [Act.put,sSet];refine tkH (i:=11) (v:=?_) (hS:=hHeld) (hy:=Or.inl ⟨by rfl,?_⟩) (h:=?_)
            rotate_left 1
            ·(intro w0 hSw;(try dsimp only at hSw);go_simp;try (with_reducible rfl))
            simp only [Act.put,sSet];refine tkH (i:=12) (v:=?_) (hS:=hHeld) (hy:=Or.inl ⟨by rfl,?_⟩) (h:=?_)
            rotate_left 1
            ·(intro w0 hSw;(try dsimp only at hSw);go_simp;try (with_reducible rfl))
            simp only [Act.put,sSet];refine tkH (i:=13) (v:=?_) (hS:=hHeld) (hy:=Or.inl ⟨by rfl,?_⟩) (h:=?_)
            rotate_left 1
            ·(intro w0 hSw;(try dsimp only at hSw);go_simp;try (with_reducible rfl))
            simp only [Act.put,sSet];refine tkH (i:=14) (v:=?_) (hS:=hHeld) (hy:=Or.inl ⟨by rfl,?_⟩) (h:=?_)
            rotate_left 1
            ·(intro w0 hSw;(try dsimp only at hSw);go_simp;try (with_reducible rfl))
            simp only [Act.put,sSet];refine wpAnyH_ready (rs:=[8]) (by kernel_rfl) (by simp) (AllReadyH.cons (by simp only [List.getElem?_toArray,List.getElem?_cons_succ,List.getElem?_cons_zero];rfl) (fun K hK=>?_) AllReadyH.nil);go_simp;refine (cA _ (Below.refl _ _).drew).mono ?_;rintro e w' ⟨rfl,e9⟩;obtain rfl:=e9.symm;dsimp only;refine hK.out _ _ ?_ (fun hHeld=>?_)
            ·exact hHeld
            clear hK K
            try simp only [Act.put,sSet]
            refine wpAnyH_ready (rs:=[15]) (by kernel_rfl) (by simp) (AllReadyH.cons (by simp only [List.getElem?_toArray,List.getElem?_cons_succ,List.getElem?_cons_zero];rfl) (fun K hK=>?_) AllReadyH.nil);go_simp;refine (cC _ (Below.refl _ _).drew).mono ?_;rintro e w' ⟨rfl,e9⟩;obtain rfl:=e9.symm;dsimp only;refine hK.out _ _ ?_ (fun hHeld=>?_)
            ·exact hHeld
            clear hK K
            try simp only [Act.put,sSet]
            refine tkH (i:=16) (v:=?_) (hS:=hHeld) (hy:=Or.inl ⟨by rfl,?_⟩) (h:=?_)
            rotate_left 1
            ·(intro w0 hSw;(try dsimp only at hSw);go_simp;try (with_reducible rfl))
            simp only [Act.put,sSet];refine wpAnyH_ready (rs:=[17]) (by kernel_rfl) (by simp) (AllReadyH.cons (by simp only [List.getElem?_toArray,List.getElem?_cons_succ,List.getElem?_cons_zero];rfl) (fun K hK=>?_) AllReadyH.nil);go_simp;refine hK.out _ _ ?_ (fun hHeld=>?_)
            ·simp [go_sem,World.cell?_alloc_past,lC,lb,cG,d0,d1]
            clear hK K
            try simp only [Act.put,sSet]
            refine wpAnyH_ready (rs:=[18]) (by kernel_rfl) (by simp) (AllReadyH.cons (by simp only [List.getElem?_toArray,List.getElem?_cons_succ,List.getElem?_cons_zero];rfl) (fun K hK=>?_) AllReadyH.nil);refine step_append_lies _ (by rfl) (.tmp 117) (.tmp 133) 31 (by rfl) (w.heap.size+3) 56 iG (.agg #[.int .i64 0,.int .i64 0]) 2 16 Tryz.underlying31 hiG zG0 zG1 zG2 rfl (by omega) (.slice ga st.length gc) st.length (flat (z2 st)) (by rfl) ((I6.ownK.alloc _).drew) ⟨w6.heap.size,0,none⟩ 1 1 [.int .i64 (x:Int),.int .i64 (y:Int)] (by rfl) rfl (aG2 _ _ _ _) (by simp [Value.oneCell']) (by omega) (by unfold maxLen;omega) (by omega) (by simp;omega) _ rfl ?_;intro gk capk w1 hown1 hgrow hat1 hlt1;have G8:Grew _ w1 (.slice ga st.length gc) gk:=⟨hgrow,hat1⟩
            have hblk:∀j,j<w.heap.size+3→w1.heap[j]?=w6.heap[j]?:=fun j hj=>(G8.blk j (by show j<(w6.heap.push _).size;simp;omega) (fun e=>by have:=(I6.ownK.lt _ e).1;omega)).trans (Deep.blk_alloc_lt _ _ _ (by omega))
            have cG1:w1.cell? ⟨w.heap.size,2,none⟩=some (.slice ga st.length gc):=(World.cell?_of_block (w:=w6) (hblk w.heap.size (by omega))).trans cG;have fG1:w1.frozen? ⟨w.heap.size,2,none⟩=false:=(World.frozen?_of_block (w:=w6) (hblk w.heap.size (by omega))).trans fG;refine hK.out _ _ ?_ (fun hHeld=>?_)
            ·exact ⟨cG1,(World.cell?_of_block (w:=w6) (hblk b (by omega))).trans d0,(World.cell?_of_block (w:=w6) (hblk b (by omega))).trans d1⟩
            clear hK K
            try simp only [Act.put,sSet]
            refine tkH (i:=19) (v:=?_) (hS:=hHeld) (hy:=Or.inl ⟨by rfl,?_⟩) (h:=?_)
            rotate_left 1
            ·(intro w0 hSw;(try dsimp only at hSw);go_simp;try (with_reducible rfl))
            simp only [Act.put,sSet];refine wpAnyH_done (by kernel_rfl) ?_ _;refine dR (by simp only [List.size_toArray,List.length_cons,List.length_nil,Nat.zero_add,Nat.reduceAdd,Nat.reduceSub,List.getElem?_toArray,List.getElem?_cons_succ,List.getElem?_cons_zero];rfl) (fun K hK=>?_);go_simp;refine hK _ _ (NoPanic.normal ?_);clear hK K hHeld;have X8:=aE (((I6.alloc (.cells #[.int .i64 (x:Int),.int .i64 (y:Int)] 56)).drewY.addK hown1 G8).setBox (C:=w.heap.size) (i:=2) (v:=.slice (some ⟨gk,0,none⟩) (st.length+1) capk) (by omega) (by omega));have B8:Below w.heap.size w w1:=B6.trans ⟨hgrow.os,hgrow.tape,hgrow.output,Nat.le_trans (by show w6.heap.size≤(w6.heap.push _).size;simp) hgrow.size,fun j hj=>hblk j (by omega)⟩;have C8:=aE (aM ((hblk w.heap.size (by omega)).trans bC6) 2 (.slice (some ⟨gk,0,none⟩) (st.length+1) capk));have A8:=aE ((Deep.blk_setCell_other w1 ⟨w.heap.size,2,none⟩ (.slice (some ⟨gk,0,none⟩) (st.length+1) capk) (w.heap.size+1) (show w.heap.size+1≠w.heap.size by omega)).trans ((hblk (w.heap.size+1) (by omega)).trans bR6));clear hgrow hown1 G8 hat1 hlt1 hblk;go_wp2
            go_roundw
            case rel=>exact ⟨k+1,_,by omega,by go_num,by rw [NX1.out];exact X8.out,C8.out,A8.out,B8.setCell (show w.heap.size≤w.heap.size by omega) _⟩
            case measure=>simp [intOf];omega
          ·have hkN:k=kp.length:=by omega
           rw [hkN] at I;rw [hkN];clear hkN hk2 hk;have hnl:=jF F use kp kp.length;have tin:=kW F use kp kp.length;obtain ⟨nm,hnm⟩:∃x,x=(sl2 F use kp kp.length).1:=⟨_,rfl⟩
           obtain ⟨st,hst⟩:∃x,x=(sl2 F use kp kp.length).2:=⟨_,rfl⟩
           rw [←hnm] at I hnl tin;rw [←hst] at I;have HNM:=aE hnm;have HST:=aE hst;clear hnm hst;obtain ⟨gn,capn,rfl,hBg,hgl,hcN⟩:=I.names (fun e=>by rw [e] at hnl;simp at hnl;omega);obtain ⟨ga,gc,rfl⟩:=aW I.ownK;have hwsz:=bel.size;have oL6:wr.ownsRow B 54 2 (.slice la ls.length lc) ls.length (flat ls):=aL OL.out (fun q hq=>bel.block q (OL.out.lt q hq).2);have oO6:wr.ownsRow B 3 1 (.slice oa os.length oc) os.length (ivs os):=aL OO.out (fun q hq=>bel.block q (OO.out.lt q hq).2);have pA:∀(s:Nat) (W:World),s / 2<nm.length→W.heap[gn]?=wr.heap[gn]?→Calls Tryz.prog 56 #[.slice (some ⟨gn,0,none⟩) nm.length capn,.int .i64 (s:Int)] W fun e w'=>e=.returned (.int .i64 (putS nm s:Nat))∧w'=W:=fun s W hs hW =>
            kT s gn 0 nm.length capn nm W hs (by omega) rfl (fun z hz=>by have:=tin z hz;omega) (fun j hj=>(World.cell?_of_block (w:=wr) hW).trans (hcN j hj))
           have PA:=aE pA;have NL:=aE (show nm.length=T by rw [hnl,HT.out]);have OG:=aE I.ownK;have ltL:∀q,(Value.slice la ls.length lc).ownBlock=some q→B≤q∧q<w.heap.size:=fun q hq=>OL.out.lt q hq
           have ltO:∀q,(Value.slice oa os.length oc).ownBlock=some q→B≤q∧q<w.heap.size:=fun q hq=>OO.out.lt q hq
           clear pA hnl tin hcN I;obtain ⟨wp,rfl⟩:∃wp,wp=wr:=⟨_,rfl⟩
           go_wp2_with fail
           go_loopw [14] (fun i wr=>∃k:Nat,k≤ls.length∧i=.int .i64 k∧wr.ownsRow B 54 2 (.slice la ls.length lc) ls.length (flat (mixL nm ls k))∧wp.grownBy wr (Value.slice la ls.length lc).ownBlock) (fun i _=>ls.length - (intOf i).toNat)
           case atStart=>exact ⟨0,Nat.zero_le _,rfl,by rw [aFW];exact oL6,⟨rfl,rfl,rfl,Nat.le_refl _,fun _ _ _=>rfl⟩⟩
           case round =>
            obtain ⟨k,hk,rfl,own,gr⟩:=hrel;have bCq:=(gr.block w.heap.size (by omega) (fun e=>by have:=ltL _ e.symm;omega)).trans bC;have cB0:wr.cell? ⟨w.heap.size,1,none⟩=some (.slice la ls.length lc):=by rw [cell_of_row _ _ _ _ _ _ bCq];rfl
            by_cases hk2:k<ls.length
            ·obtain ⟨g,cp,hla,hBg2,hg2⟩:=own.form (by omega)
             simp only [Value.slice.injEq,true_and] at hla;obtain ⟨rfl,rfl⟩:=hla;have hgw:g<w.heap.size:=(ltL g rfl).2;obtain ⟨f1,f2⟩:=FL.out k hk2;obtain ⟨s1,hX1⟩:=Int.eq_ofNat_of_zero_le f1;have HK:Hid ((flat (mixL nm ls k)).set (k*2) (.int .i64 (putS nm s1:Nat))=flat (mixL nm ls (k+1))):=by
              show _=_
              rw [yP _ _ _ (by rw [wO];exact hk2),aCX nm ls hk2,aFV,hX1,Int.toNat_natCast]
             rw [hX1,Int.toNat_natCast] at f2;have cX:wr.cell? ⟨g,k*2,none⟩=some (.int .i64 (s1:Int)):=by
              rw [own.cellAt (k*2) (by omega),(aB6 _ k (by rw [wO];exact hk2)).1,aCX nm ls hk2,hX1]
             have fX:wr.frozen? ⟨g,k*2,none⟩=false:=own.frozenAt _;have cB:=cB0;have GNB:wr.drew.heap[gn]?=wp.heap[gn]?:=gr.block gn hgl (fun e=>by have:=ltL _ e.symm;omega);have X1:=aE ((own.drew.stored (k*2) (.int .i64 (putS nm s1:Nat))).1);have Y1:=aE ((own.drew.stored (k*2) (.int .i64 (putS nm s1:Nat))).2);have hk0:(0:Int)≤(k:Int):=(by omega)
             have hkI:(k:Int)<(ls.length:Int):=(by omega)
             clear cB0 hX1 f1 own
             go_upto_region 31 with fail
             refine wp_region_noPanic ?_;refine wp_region_any (by kernel_rfl) ?_;simp only [List.size_toArray,List.length_cons,List.length_nil,Nat.zero_add,Nat.reduceAdd];refine wpAny_of_held (S:=fun w'=>w'.cell? ⟨w.heap.size,1,none⟩=some (.slice (some ⟨g,0,none⟩) ls.length lc)) _ _ _ _ ?_;have hHeld:(fun w':World=>w'.cell? ⟨w.heap.size,1,none⟩=some (.slice (some ⟨g,0,none⟩) ls.length lc)) wr.drew:=cB;refine tkH (i:=0) (v:=?_) (hS:=hHeld) (hy:=Or.inl ⟨by rfl,?_⟩) (h:=?_)
             rotate_left 1
             ·(intro w0 hSw;(try dsimp only at hSw);go_simp;try (with_reducible rfl))
             simp only [Act.put,sSet];refine tkH (i:=1) (v:=?_) (hS:=hHeld) (hy:=Or.inl ⟨by rfl,?_⟩) (h:=?_)
             rotate_left 1
             ·(intro w0 hSw;(try dsimp only at hSw);go_simp;try (with_reducible rfl))
             simp only [Act.put,sSet];refine tkH (i:=2) (v:=?_) (hS:=hHeld) (hy:=Or.inl ⟨by rfl,?_⟩) (h:=?_)
             rotate_left 1
             ·(intro w0 hSw;(try dsimp only at hSw);go_simp;try (with_reducible rfl))
             simp only [Act.put,sSet];refine tkH (i:=3) (v:=?_) (hS:=hHeld) (hy:=Or.inl ⟨by rfl,?_⟩) (h:=?_)
             rotate_left 1
             ·(intro w0 hSw;(try dsimp only at hSw);go_simp;try (with_reducible rfl))
             simp only [Act.put,sSet];refine tkH (i:=4) (v:=?_) (hS:=hHeld) (hy:=Or.inl ⟨by rfl,?_⟩) (h:=?_)
             rotate_left 1
             ·(intro w0 hSw;(try dsimp only at hSw);go_simp;try (with_reducible rfl))
             simp only [Act.put,sSet];refine tkH (i:=5) (v:=?_) (hS:=hHeld) (hy:=Or.inl ⟨by rfl,?_⟩) (h:=?_)
             rotate_left 1
             ·(intro w0 hSw;(try dsimp only at hSw);go_simp;try (with_reducible rfl))
             simp only [Act.put,sSet];refine tkH (i:=6) (v:=?_) (hS:=hHeld) (hy:=Or.inl ⟨by rfl,?_⟩) (h:=?_)
             rotate_left 1
             ·(intro w0 hSw;(try dsimp only at hSw);go_simp;try (with_reducible rfl))
             simp only [Act.put,sSet];refine tkH (i:=7) (v:=?_) (hS:=hHeld) (hy:=Or.inl ⟨by rfl,?_⟩) (h:=?_)
             rotate_left 1
             ·(intro w0 hSw;(try dsimp only at hSw);go_simp;try (with_reducible rfl))
             simp only [Act.put,sSet];refine tkH (i:=8) (v:=?_) (hS:=hHeld) (hy:=Or.inl ⟨by rfl,?_⟩) (h:=?_)
             rotate_left 1
             ·(intro w0 hSw;(try dsimp only at hSw);go_simp;try (with_reducible rfl))
             simp only [Act.put,sSet];refine wpAnyH_ready (rs:=[9]) (by kernel_rfl) (by simp) (AllReadyH.cons (by simp only [List.getElem?_toArray,List.getElem?_cons_succ,List.getElem?_cons_zero];rfl) (fun K hK=>?_) AllReadyH.nil);go_simp;refine hK.out _ _ ?_ (fun hHeld=>?_)
             ·exact hHeld
             clear hK K
             try simp only [Act.put,sSet]
             refine wpAnyH_ready (rs:=[10]) (by kernel_rfl) (by simp) (AllReadyH.cons (by simp only [List.getElem?_toArray,List.getElem?_cons_succ,List.getElem?_cons_zero];rfl) (fun K hK=>?_) AllReadyH.nil);go_simp;refine (PA.out s1 _ (by rw [NL.out];exact f2) GNB).mono ?_;rintro e w' ⟨rfl,e9⟩;obtain rfl:=e9.symm;dsimp only;refine hK.out _ _ ?_ (fun hHeld=>?_)
             ·exact hHeld
             clear hK K
             try simp only [Act.put,sSet]
             refine tkH (i:=11) (v:=?_) (hS:=hHeld) (hy:=Or.inl ⟨by rfl,?_⟩) (h:=?_)
             rotate_left 1
             ·(intro w0 hSw;(try dsimp only at hSw);go_simp;try (with_reducible rfl))
             simp only [Act.put,sSet];refine tkH (i:=12) (v:=?_) (hS:=hHeld) (hy:=Or.inl ⟨by rfl,?_⟩) (h:=?_)
             rotate_left 1
             ·(intro w0 hSw;(try dsimp only at hSw);go_simp;try (with_reducible rfl))
             simp only [Act.put,sSet];refine wpAnyH_ready (rs:=[13]) (by kernel_rfl) (by simp) (AllReadyH.cons (by simp only [List.getElem?_toArray,List.getElem?_cons_succ,List.getElem?_cons_zero];rfl) (fun K hK=>?_) AllReadyH.nil);go_simp;refine hK.out _ _ ?_ (fun hHeld=>?_)
             ·exact (World.cell?_of_block (Deep.blk_setCell_other _ _ _ _ (show w.heap.size≠g by omega))).trans hHeld
             clear hK K
             try simp only [Act.put,sSet]
             refine wpAnyH_done (by kernel_rfl) (NoPanic.normal ?_) _;clear hHeld;go_wp2
             go_roundw
             case rel=>exact ⟨k+1,by omega,by go_num,by rw [←HK.out];exact X1.out,⟨Y1.out.os.trans gr.os,Y1.out.tape.trans gr.tape,Y1.out.output.trans gr.output,Nat.le_trans gr.size Y1.out.size,fun j hj ho=>(Y1.out.block j (Nat.lt_of_lt_of_le hj gr.size) ho).trans (gr.block j hj ho)⟩⟩
             case measure=>simp [intOf];omega
            ·have hkN:k=ls.length:=by omega
             rw [hkN,aIL] at own;rw [hkN];clear hkN hk2 hk;obtain ⟨wq,rfl⟩:∃wq,wq=wr:=⟨_,rfl⟩
             have bRq:=(gr.block (w.heap.size+1) (by have:=hBg;omega) (fun e=>by have:=ltL _ e.symm;omega)).trans bR;have oO7:wq.ownsRow B 3 1 (.slice oa os.length oc) os.length (ivs os):=aL oO6 (fun q hq=>gr.block q (by have:=ltO q hq;omega) (fun e=>HLO.out q e.symm hq));have oG7:wq.ownsRow (w.heap.size+3) 56 2 (.slice ga st.length gc) st.length (flat (z2 st)):=aL OG.out (fun q hq=>gr.block q (OG.out.lt q hq).2 (fun e=>by have:=ltL _ e.symm;have:=(OG.out.lt q hq).1;omega));have gn7:wq.heap[gn]?=wp.heap[gn]?:=gr.block gn hgl (fun e=>by have:=ltL _ e.symm;omega);have bB7:Below B w wq:=(bel.mono hB).trans ⟨gr.os,gr.tape,gr.output,gr.size,fun j hj=>gr.block j (by omega) (fun e=>by have:=ltL _ e.symm;omega)⟩;have s7:=gr.size;have lg7:gn<wq.heap.size:=(by omega)
             have OL7:=aE own;clear own gr oL6 oO6 bC bR OG
             go_wp2_with fail
             clear cB0
             go_loopw [15] (fun i wr=>∃k:Nat,k≤os.length∧i=.int .i64 k∧wr.ownsRow B 3 1 (.slice oa os.length oc) os.length (ivs (mixO nm os k))∧wq.grownBy wr (Value.slice oa os.length oc).ownBlock) (fun i _=>os.length - (intOf i).toNat)
             case atStart=>exact ⟨0,Nat.zero_le _,rfl,by rw [aFY];exact oO7,⟨rfl,rfl,rfl,Nat.le_refl _,fun _ _ _=>rfl⟩⟩
             case round =>
              obtain ⟨k,hk,rfl,own,gr⟩:=hrel;have bCz:=(gr.block w.heap.size (by omega) (fun e=>by have:=ltO _ e.symm;omega)).trans bCq;have cB0:wr.cell? ⟨w.heap.size,3,none⟩=some (.slice oa os.length oc):=by rw [cell_of_row _ _ _ _ _ _ bCz];rfl
              by_cases hk2:k<os.length
              ·obtain ⟨g,cp,hla,hBg2,hg2⟩:=own.form (by omega)
               simp only [Value.slice.injEq,true_and] at hla;obtain ⟨rfl,rfl⟩:=hla;have hgw:g<w.heap.size:=(ltO g rfl).2;obtain ⟨f1,f2⟩:=FO.out k hk2;obtain ⟨s1,hX1⟩:=Int.eq_ofNat_of_zero_le f1;have HK:Hid ((ivs (mixO nm os k)).set k (.int .i64 (putS nm s1:Nat))=ivs (mixO nm os (k+1))):=by
                show _=_
                rw [aIC,aFX,hX1,Int.toNat_natCast]
               rw [hX1,Int.toNat_natCast] at f2;have cX:wr.cell? ⟨g,k,none⟩=some (.int .i64 (s1:Int)):=by
                rw [own.cellAt k (by omega)];have h:=aIN nm os hk2;rw [List.getD_eq_getElem?_getD] at h;have h2:k<(mixO nm os k).length:=(by rw [aCY];exact hk2)
                rw [List.getElem?_eq_getElem h2] at h;simp only [Option.getD_some] at h;simp only [ivs,List.getElem?_map,List.getElem?_eq_getElem h2,Option.map_some,h,hX1]
               have fX:wr.frozen? ⟨g,k,none⟩=false:=own.frozenAt _;have cB:=cB0;have GNB:wr.drew.heap[gn]?=wp.heap[gn]?:=(gr.block gn lg7 (fun e=>by have:=ltO _ e.symm;omega)).trans gn7;have X1:=aE ((own.drew.stored k (.int .i64 (putS nm s1:Nat))).1);have Y1:=aE ((own.drew.stored k (.int .i64 (putS nm s1:Nat))).2);have hk0:(0:Int)≤(k:Int):=(by omega)
               have hkI:(k:Int)<(os.length:Int):=(by omega)
               clear cB0 hX1 f1 own
               go_upto_region 35 with fail
               refine wp_region_noPanic ?_;refine wp_region_any (by kernel_rfl) ?_;simp only [List.size_toArray,List.length_cons,List.length_nil,Nat.zero_add,Nat.reduceAdd];refine wpAny_of_held (S:=fun w'=>w'.cell? ⟨w.heap.size,3,none⟩=some (.slice (some ⟨g,0,none⟩) os.length oc)) _ _ _ _ ?_;have hHeld:(fun w':World=>w'.cell? ⟨w.heap.size,3,none⟩=some (.slice (some ⟨g,0,none⟩) os.length oc)) wr.drew:=cB;refine tkH (i:=0) (v:=?_) (hS:=hHeld) (hy:=Or.inl ⟨by rfl,?_⟩) (h:=?_)
               rotate_left 1
               ·(intro w0 hSw;(try dsimp only at hSw);go_simp;try (with_reducible rfl))
               simp only [Act.put,sSet];refine tkH (i:=1) (v:=?_) (hS:=hHeld) (hy:=Or.inl ⟨by rfl,?_⟩) (h:=?_)
               rotate_left 1
               ·(intro w0 hSw;(try dsimp only at hSw);go_simp;try (with_reducible rfl))
               simp only [Act.put,sSet];refine tkH (i:=2) (v:=?_) (hS:=hHeld) (hy:=Or.inl ⟨by rfl,?_⟩) (h:=?_)
               rotate_left 1
               ·(intro w0 hSw;(try dsimp only at hSw);go_simp;try (with_reducible rfl))
               simp only [Act.put,sSet];refine tkH (i:=3) (v:=?_) (hS:=hHeld) (hy:=Or.inl ⟨by rfl,?_⟩) (h:=?_)
               rotate_left 1
               ·(intro w0 hSw;(try dsimp only at hSw);go_simp;try (with_reducible rfl))
               simp only [Act.put,sSet];refine tkH (i:=4) (v:=?_) (hS:=hHeld) (hy:=Or.inl ⟨by rfl,?_⟩) (h:=?_)
               rotate_left 1
               ·(intro w0 hSw;(try dsimp only at hSw);go_simp;try (with_reducible rfl))
               simp only [Act.put,sSet];refine tkH (i:=5) (v:=?_) (hS:=hHeld) (hy:=Or.inl ⟨by rfl,?_⟩) (h:=?_)
               rotate_left 1
               ·(intro w0 hSw;(try dsimp only at hSw);go_simp;try (with_reducible rfl))
               simp only [Act.put,sSet];refine tkH (i:=6) (v:=?_) (hS:=hHeld) (hy:=Or.inl ⟨by rfl,?_⟩) (h:=?_)
               rotate_left 1
               ·(intro w0 hSw;(try dsimp only at hSw);go_simp;try (with_reducible rfl))
               simp only [Act.put,sSet];refine tkH (i:=7) (v:=?_) (hS:=hHeld) (hy:=Or.inl ⟨by rfl,?_⟩) (h:=?_)
               rotate_left 1
               ·(intro w0 hSw;(try dsimp only at hSw);go_simp;try (with_reducible rfl))
               simp only [Act.put,sSet];refine wpAnyH_ready (rs:=[8]) (by kernel_rfl) (by simp) (AllReadyH.cons (by simp only [List.getElem?_toArray,List.getElem?_cons_succ,List.getElem?_cons_zero];rfl) (fun K hK=>?_) AllReadyH.nil);go_simp;refine hK.out _ _ ?_ (fun hHeld=>?_)
               ·exact hHeld
               clear hK K
               try simp only [Act.put,sSet]
               refine wpAnyH_ready (rs:=[9]) (by kernel_rfl) (by simp) (AllReadyH.cons (by simp only [List.getElem?_toArray,List.getElem?_cons_succ,List.getElem?_cons_zero];rfl) (fun K hK=>?_) AllReadyH.nil);go_simp;refine (PA.out s1 _ (by rw [NL.out];exact f2) GNB).mono ?_;rintro e w' ⟨rfl,e9⟩;obtain rfl:=e9.symm;dsimp only;refine hK.out _ _ ?_ (fun hHeld=>?_)
               ·exact hHeld
               clear hK K
               try simp only [Act.put,sSet]
               refine tkH (i:=10) (v:=?_) (hS:=hHeld) (hy:=Or.inl ⟨by rfl,?_⟩) (h:=?_)
               rotate_left 1
               ·(intro w0 hSw;(try dsimp only at hSw);go_simp;try (with_reducible rfl))
               simp only [Act.put,sSet];refine wpAnyH_ready (rs:=[11]) (by kernel_rfl) (by simp) (AllReadyH.cons (by simp only [List.getElem?_toArray,List.getElem?_cons_succ,List.getElem?_cons_zero];rfl) (fun K hK=>?_) AllReadyH.nil);go_simp;refine hK.out _ _ ?_ (fun hHeld=>?_)
               ·exact (World.cell?_of_block (Deep.blk_setCell_other _ _ _ _ (show w.heap.size≠g by omega))).trans hHeld
               clear hK K
               try simp only [Act.put,sSet]
               refine wpAnyH_done (by kernel_rfl) (NoPanic.normal ?_) _;clear hHeld;go_wp2
               go_roundw
               case rel=>exact ⟨k+1,by omega,by go_num,by rw [←HK.out];exact X1.out,⟨Y1.out.os.trans gr.os,Y1.out.tape.trans gr.tape,Y1.out.output.trans gr.output,Nat.le_trans gr.size Y1.out.size,fun j hj ho=>(Y1.out.block j (Nat.lt_of_lt_of_le hj gr.size) ho).trans (gr.block j hj ho)⟩⟩
               case measure=>simp [intOf];omega
              ·have hkN:k=os.length:=by omega
               rw [hkN,aIM] at own;rw [hkN];clear hkN hk2 hk;obtain ⟨wz,rfl⟩:∃wz,wz=wr:=⟨_,rfl⟩
               have bRz:=(gr.block (w.heap.size+1) (by omega) (fun e=>by have:=ltO _ e.symm;omega)).trans bRq;have oL8:wz.ownsRow B 54 2 (.slice la ls.length lc) ls.length (flat (nmL nm ls ls.length)):=aL OL7.out (fun q hq=>gr.block q (OL7.out.lt q hq).2 (fun e=>HLO.out q hq e.symm));have oG8:wz.ownsRow (w.heap.size+3) 56 2 (.slice ga st.length gc) st.length (flat (z2 st)):=aL oG7 (fun q hq=>gr.block q (oG7.lt q hq).2 (fun e=>by have:=ltO _ e.symm;have:=(oG7.lt q hq).1;omega));have bB8:Below B w wz:=bB7.trans ⟨gr.os,gr.tape,gr.output,gr.size,fun j hj=>gr.block j (by omega) (fun e=>by have:=ltO _ e.symm;omega)⟩;have q0:wz.cell? ⟨w.heap.size,0,none⟩=some (.int .i64 n):=(by rw [cell_of_row _ _ _ _ _ _ bCz];rfl)
               have q1:wz.cell? ⟨w.heap.size,1,none⟩=some (.slice la ls.length lc):=(by rw [cell_of_row _ _ _ _ _ _ bCz];rfl)
               have q2:wz.cell? ⟨w.heap.size,2,none⟩=some (.slice ga st.length gc):=(by rw [cell_of_row _ _ _ _ _ _ bCz];rfl)
               obtain ⟨u0,u1,u2,u3⟩:=aK bRz;have v0:wz.frozen? ⟨w.heap.size+1,0,none⟩=false:=frozen_of_row _ _ _ _ _ bRz;have v1:wz.frozen? ⟨w.heap.size+1,1,none⟩=false:=frozen_of_row _ _ _ _ _ bRz;have v2:wz.frozen? ⟨w.heap.size+1,2,none⟩=false:=frozen_of_row _ _ _ _ _ bRz;have v3:wz.frozen? ⟨w.heap.size+1,3,none⟩=false:=frozen_of_row _ _ _ _ _ bRz;have OF:=aE own;have s8:=gr.size;clear own gr;go_wp2;refine aE8 (b:=w.heap.size+1) (aS bRz _ _ _ _) (by rfl) ?_;have ex:∀q v0 v1 v2 v3,q≠w.heap.size+1→((((wz.setCell ⟨w.heap.size+1,0,none⟩ v0).setCell ⟨w.heap.size+1,1,none⟩ v1).setCell ⟨w.heap.size+1,2,none⟩ v2).setCell ⟨w.heap.size+1,3,none⟩ v3).heap[q]?=wz.heap[q]?:=fun q v0 v1 v2 v3 hq=>by
                rw [Deep.blk_setCell_other _ _ _ _ hq,Deep.blk_setCell_other _ _ _ _ hq,Deep.blk_setCell_other _ _ _ _ hq,Deep.blk_setCell_other _ _ _ _ hq]
               have bs:B≤w.heap.size+1:=(by omega)
               rw [←HNM.out,←HST.out];refine ⟨.slice ga st.length gc,rfl,?_,?_,?_,(((bB8.setCell (p:=⟨w.heap.size+1,0,none⟩) bs _).setCell (p:=⟨w.heap.size+1,1,none⟩) bs _).setCell (p:=⟨w.heap.size+1,2,none⟩) bs _).setCell (p:=⟨w.heap.size+1,3,none⟩) bs _⟩
               ·rw [jA];exact aL oL8 (fun q hq=>ex q _ _ _ _ (by have:=ltL q hq;omega))
               ·rw [fZ];exact (aL oG8 (fun q hq=>ex q _ _ _ _ (by have:=(oG8.lt q hq).1;omega))).lower (by omega)
               ·rw [jB];exact aL OF.out (fun q hq=>ex q _ _ _ _ (by have:=ltO q hq;omega))
end Go.Proofs.YtgpaajdfkekjiaaGreatDoor
