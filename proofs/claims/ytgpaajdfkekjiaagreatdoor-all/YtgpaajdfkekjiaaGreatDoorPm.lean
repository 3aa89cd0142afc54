/-
  A part of the proof of the statement All: texts of ours, made small by program (blanks, names).
-/
import Derived.Test.YtgpaajdfkekjiaaGreatDoorPl
import Derived.Test.YtgpaajdfkekjiaaGreatDoorPi
import Derived.ArgAppend
import Derived.Test.YtgpaajdfkekjiaaGreatDoorPg
namespace Go.Proofs.YtgpaajdfkekjiaaGreatDoor
set_option maxHeartbeats 8000000
set_option maxRecDepth 100000
open Go.RowKit
theorem aEH {f:Ieee.Format}{x:Nat}(h:(f.read x).isNaN=false):f.order x x=some .eq:=by
 unfold Ieee.Format.order
 cases hd:f.read x with
 | number s m e=>simp [Ieee.Datum.order]
 | infinity s=>simp [Ieee.Datum.order]
 | nan s t=>rw [hd] at h;simp [Ieee.Datum.isNaN] at h
theorem jI (f:Ieee.Format) (neg:Bool){r:Nat}(hr:r≤f.infRung):(f.read (f.word neg r)).isNaN=false:=by
 have hlt:=f.infRung_lt;have hmod:f.word neg r % f.signWeight=r:=by
  unfold Ieee.Format.word
  cases neg
  ·simp only [Bool.false_eq_true,if_false];exact Nat.mod_eq_of_lt (by omega)
  ·simp only [if_true,Nat.add_mod_left];exact Nat.mod_eq_of_lt (by omega)
 unfold Ieee.Format.read;simp only [hmod]
 split
 ·rfl
 ·split
  ·rfl
  ·split
   ·rfl
   ·omega
theorem tL (f:Ieee.Format) (neg:Bool) (m:Nat) (p:Int):(f.read (f.nearest neg m p)).isNaN=false:=by
 unfold Ieee.Format.nearest
 split
 ·exact jI f neg (Nat.zero_le _)
 ·exact jI f neg (Nat.min_le_right _ _)
theorem rK (n:Int):Ieee.double.order (floatOfInt .f64 n) (floatOfInt .f64 n)=some .eq:=aEH (tL _ _ _ _)
theorem aDT (n:Int):Value.bool (FloatKind.f64.format.order (floatOfInt .f64 n) (floatOfInt .f64 n)==some .eq)=.bool true:=by
 rw [show FloatKind.f64.format.order (floatOfInt .f64 n) (floatOfInt .f64 n)=some .eq from rK n];rfl
theorem Slot.look {R:Nat→Nat}{w:World}{P c:Nat}{T:TypeId}{sz:Nat}{mk:Nat→Nat→Value}{hv:Value}{es:List Entry}(h:Slot R w P c T sz mk hv es){j:Nat}(hj:j<es.length){ha:Option Addr}{hc n:Nat}(hv':hv=.slice ha n hc) :
  ∃q ea el ec,ha=some ⟨q,0,none⟩∧w.cell? ⟨q,j,none⟩=some (.slice ea el ec)∧el≤1000∧(el=0∨∃b,ea=some ⟨b,0,none⟩∧∀i,i<el*sz→w.cell? ⟨b,i,none⟩=some (mk (j / 4) i)):=by
 have own:=h.own;obtain ⟨q,cap,hq,_,hlt⟩:=own.form (by omega);have hcj:w.cell? ⟨q,j,none⟩=some (es[j].val):=by
  rw [hq] at own;rw [own.cellAt j (by omega)];simp [hj]
 obtain ⟨l1,gd⟩:=h.good j hj;rw [hv'] at hq;simp only [Value.slice.injEq] at hq;refine ⟨q,es[j].a,es[j].len,es[j].cap,hq.1,hcj,l1,?_⟩
 rcases gd with h0 | ⟨b,hb,_,_,hcell⟩
 ·exact .inl h0
 ·exact .inr ⟨b,hb,hcell⟩
theorem Slot.form {R:Nat→Nat}{w:World}{P c:Nat}{T:TypeId}{sz:Nat}{mk:Nat→Nat→Value}{hv:Value}{es:List Entry}(h:Slot R w P c T sz mk hv es):∃ha hc,hv=.slice ha es.length hc:=by
 rcases h.own.2 with ⟨h,h0⟩ | ⟨g,cap,cur,h,_⟩
 ·exact ⟨none,0,by rw [h,h0]⟩
 ·exact ⟨_,_,h⟩
theorem qM (j m:Nat):mkP j (m*2)=.int .i64 (-1 - (j:Int)):=by unfold mkP;rw [if_neg (by omega)]
theorem wP (j m:Nat):mkP j (m*2+1)=.int .i64 0:=by unfold mkP;rw [if_pos (by omega)]
theorem gW {w w':World}(h:Below w.heap.size w w'){a:Addr}{v:Value}(hc:w.cell? a=some v):w'.cell? a=some v:=(h.cell (p:=a) (block_lt_of_cell hc)).trans hc
theorem dK (R:Nat→Nat) (P N:Nat) (v:Nat→Value) (es:Nat→List Entry) (w:World) (hB:Book2 R w P v es N) (hN:N≤700000000000) :
  Calls Tryz.prog 21 #[.pointer (some ⟨P,0,none⟩)] w fun e w'=>e=.returned (.bool true)∧Below w.heap.size w w':=by
 obtain ⟨ha0,hc0,e0⟩:=(hB.slot 0 (by omega)).form;have HC0:=hidK ((hB.slot 0 (by omega)).cell);rw [e0] at HC0;have HL0:=hidK (fun j (hj:j<(es 0).length)=>(hB.slot 0 (by omega)).look hj e0);have hn0:(es 0).length≤2800000000000:=by obtain ⟨j,h1,h2⟩:=hB.len 0 (by omega);omega
 obtain ⟨n0,hN0⟩:∃n,n=(es 0).length:=⟨_,rfl⟩
 rw [←hN0] at HC0 hn0;simp only [←hN0] at HL0;clear hN0 e0;obtain ⟨ha1,hc1,e1⟩:=(hB.slot 1 (by omega)).form;have HC1:=hidK ((hB.slot 1 (by omega)).cell);rw [e1] at HC1;have HL1:=hidK (fun j (hj:j<(es 1).length)=>(hB.slot 1 (by omega)).look hj e1);have hn1:(es 1).length≤2800000000000:=by obtain ⟨j,h1,h2⟩:=hB.len 1 (by omega);omega
 obtain ⟨n1,hN1⟩:∃n,n=(es 1).length:=⟨_,rfl⟩
 rw [←hN1] at HC1 hn1;simp only [←hN1] at HL1;clear hN1 e1;obtain ⟨ha2,hc2,e2⟩:=(hB.slot 2 (by omega)).form;have HC2:=hidK ((hB.slot 2 (by omega)).cell);rw [e2] at HC2;have HL2:=hidK (fun j (hj:j<(es 2).length)=>(hB.slot 2 (by omega)).look hj e2);have hn2:(es 2).length≤2800000000000:=by obtain ⟨j,h1,h2⟩:=hB.len 2 (by omega);omega
 obtain ⟨n2,hN2⟩:∃n,n=(es 2).length:=⟨_,rfl⟩
 rw [←hN2] at HC2 hn2;simp only [←hN2] at HL2;clear hN2 e2;obtain ⟨ha3,hc3,e3⟩:=(hB.slot 3 (by omega)).form;have HC3:=hidK ((hB.slot 3 (by omega)).cell);rw [e3] at HC3;have HL3:=hidK (fun j (hj:j<(es 3).length)=>(hB.slot 3 (by omega)).look hj e3);have hn3:(es 3).length≤2800000000000:=by obtain ⟨j,h1,h2⟩:=hB.len 3 (by omega);omega
 obtain ⟨n3,hN3⟩:∃n,n=(es 3).length:=⟨_,rfl⟩
 rw [←hN3] at HC3 hn3;simp only [←hN3] at HL3;clear hN3 e3;clear hB
 go_enter Tryz.func21,Tryz.ntmps21
 go_wp2
 go_loopw [3,4,5] (fun ok k _ w0=>∃j:Nat,j≤n0∧k=.int .i64 j∧ok=.bool true∧Below w.heap.size w w0) (fun _ k _ _=>n0 - (intOf k).toNat)
 case atStart=>exact ⟨0,Nat.zero_le _,rfl,rfl,Below.refl _ _⟩
 case round =>
  obtain ⟨k,hk,rfl,rfl,hbel0⟩:=hrel;have cP:=gW hbel0 HC0.out
  by_cases hk2:k<n0
  ·obtain ⟨q,ea,el,ec,ha,hcj0,l1000,gd⟩:=HL0.out k hk2
   subst ha;have hk3:(k:Int)<(n0:Int):=(by omega)
   have hcj:=gW hbel0 hcj0;have HCJ:=hidK hcj0;clear hcj0;go_wp2
   go_loopw [3,5] (fun ok i wi=>∃m:Nat,m≤el∧i=.int .i64 m∧ok=.bool true∧Below w.heap.size w wi) (fun _ i _=>el - (intOf i).toNat)
   case atStart=>exact ⟨0,Nat.zero_le _,rfl,rfl,hbel0⟩
   case round =>
    clear cP hcj;obtain ⟨m,hm,rfl,rfl,hb2⟩:=hrel;have cP:=gW hb2 HC0.out;have hcj:=gW hb2 HCJ.out
    by_cases hm2:m<el
    ·rcases gd with h0 | ⟨b,hb,hcells⟩
     ·omega
     ·subst hb
      have hcm:=gW hb2 (hcells m (by show m<el*1;omega));rw [show mkOf 0 (k / 4) m=.int .i64 (-1 - ((k / 4:Nat):Int)) from rfl] at hcm;clear hcells;go_wp2
      go_roundw
      case rel=>exact ⟨m+1,by omega,by go_num,rfl,hb2⟩
      case measure=>simp [intOf];omega
    ·clear gd
     go_wp2
     go_roundw
     case rel=>exact ⟨k+1,by omega,by go_num,rfl,hb2⟩
     case measure=>simp [intOf];omega
  ·go_wp2
   go_loopw [3,6,7] (fun ok k _ w1=>∃j:Nat,j≤n1∧k=.int .i64 j∧ok=.bool true∧Below w.heap.size w w1) (fun _ k _ _=>n1 - (intOf k).toNat)
   case atStart=>exact ⟨0,Nat.zero_le _,rfl,rfl,hbel0⟩
   case round =>
    obtain ⟨k,hk,rfl,rfl,hbel1⟩:=hrel;have cP:=gW hbel1 HC1.out
    by_cases hk2:k<n1
    ·obtain ⟨q,ea,el,ec,ha,hcj0,l1000,gd⟩:=HL1.out k hk2
     subst ha;have hk3:(k:Int)<(n1:Int):=(by omega)
     have hcj:=gW hbel1 hcj0;have HCJ:=hidK hcj0;clear hcj0;go_wp2
     go_loopw [3,7] (fun ok i wi=>∃m:Nat,m≤el∧i=.int .i64 m∧ok=.bool true∧Below w.heap.size w wi) (fun _ i _=>el - (intOf i).toNat)
     case atStart=>exact ⟨0,Nat.zero_le _,rfl,rfl,hbel1⟩
     case round =>
      clear cP hcj;obtain ⟨m,hm,rfl,rfl,hb2⟩:=hrel;have cP:=gW hb2 HC1.out;have hcj:=gW hb2 HCJ.out
      by_cases hm2:m<el
      ·rcases gd with h0 | ⟨b,hb,hcells⟩
       ·omega
       ·subst hb
        have hcm:=gW hb2 (hcells m (by show m<el*1;omega));rw [show mkOf 1 (k / 4) m=.float .f64 (floatOfInt .f64 (-1 - ((k / 4:Nat):Int))) from rfl] at hcm;clear hcells;go_wp2
        go_roundw
        case rel=>exact ⟨m+1,by omega,by go_num,aDT _,hb2⟩
        case measure=>simp [intOf];omega
      ·clear gd
       go_wp2
       go_roundw
       case rel=>exact ⟨k+1,by omega,by go_num,rfl,hb2⟩
       case measure=>simp [intOf];omega
    ·go_wp2
     go_loopw [3,8,9] (fun ok k _ w2=>∃j:Nat,j≤n2∧k=.int .i64 j∧ok=.bool true∧Below w.heap.size w w2) (fun _ k _ _=>n2 - (intOf k).toNat)
     case atStart=>exact ⟨0,Nat.zero_le _,rfl,rfl,hbel1⟩
     case round =>
      obtain ⟨k,hk,rfl,rfl,hbel2⟩:=hrel;have cP:=gW hbel2 HC2.out
      by_cases hk2:k<n2
      ·obtain ⟨q,ea,el,ec,ha,hcj0,l1000,gd⟩:=HL2.out k hk2
       subst ha;have hk3:(k:Int)<(n2:Int):=(by omega)
       have hcj:=gW hbel2 hcj0;have HCJ:=hidK hcj0;clear hcj0;go_wp2
       go_loopw [3,9] (fun ok i wi=>∃m:Nat,m≤el∧i=.int .i64 m∧ok=.bool true∧Below w.heap.size w wi) (fun _ i _=>el - (intOf i).toNat)
       case atStart=>exact ⟨0,Nat.zero_le _,rfl,rfl,hbel2⟩
       case round =>
        clear cP hcj;obtain ⟨m,hm,rfl,rfl,hb2⟩:=hrel;have cP:=gW hb2 HC2.out;have hcj:=gW hb2 HCJ.out
        by_cases hm2:m<el
        ·rcases gd with h0 | ⟨b,hb,hcells⟩
         ·omega
         ·subst hb
          have hcm0:=gW hb2 (hcells (m*2) (by show m*2<el*2;omega));have hcm1:=gW hb2 (hcells (m*2+1) (by show m*2+1<el*2;omega));rw [show mkOf 2=mkP from rfl,qM] at hcm0;rw [show mkOf 2=mkP from rfl,wP] at hcm1;clear hcells;go_wp2
          go_roundw
          case rel=>exact ⟨m+1,by omega,by go_num,rfl,hb2⟩
          case measure=>simp [intOf];omega
        ·clear gd
         go_wp2
         go_roundw
         case rel=>exact ⟨k+1,by omega,by go_num,rfl,hb2⟩
         case measure=>simp [intOf];omega
      ·go_wp2
       go_loopw [3,10,11] (fun ok k _ w3=>∃j:Nat,j≤n3∧k=.int .i64 j∧ok=.bool true∧Below w.heap.size w w3) (fun _ k _ _=>n3 - (intOf k).toNat)
       case atStart=>exact ⟨0,Nat.zero_le _,rfl,rfl,hbel2⟩
       case round =>
        obtain ⟨k,hk,rfl,rfl,hbel3⟩:=hrel;have cP:=gW hbel3 HC3.out
        by_cases hk2:k<n3
        ·obtain ⟨q,ea,el,ec,ha,hcj0,l1000,gd⟩:=HL3.out k hk2
         subst ha;have hk3:(k:Int)<(n3:Int):=(by omega)
         have hcj:=gW hbel3 hcj0;have HCJ:=hidK hcj0;clear hcj0;go_wp2
         go_loopw [3,11] (fun ok i wi=>∃m:Nat,m≤el∧i=.int .i64 m∧ok=.bool true∧Below w.heap.size w wi) (fun _ i _=>el - (intOf i).toNat)
         case atStart=>exact ⟨0,Nat.zero_le _,rfl,rfl,hbel3⟩
         case round =>
          clear cP hcj;obtain ⟨m,hm,rfl,rfl,hb2⟩:=hrel;have cP:=gW hb2 HC3.out;have hcj:=gW hb2 HCJ.out
          by_cases hm2:m<el
          ·rcases gd with h0 | ⟨b,hb,hcells⟩
           ·omega
           ·subst hb
            have hcm0:=gW hb2 (hcells (m*2) (by show m*2<el*2;omega));have hcm1:=gW hb2 (hcells (m*2+1) (by show m*2+1<el*2;omega));rw [show mkOf 3=mkP from rfl,qM] at hcm0;rw [show mkOf 3=mkP from rfl,wP] at hcm1;clear hcells;go_wp2
            go_roundw
            case rel=>exact ⟨m+1,by omega,by go_num,rfl,hb2⟩
            case measure=>simp [intOf];omega
          ·clear gd
           go_wp2
           go_roundw
           case rel=>exact ⟨k+1,by omega,by go_num,rfl,hb2⟩
           case measure=>simp [intOf];omega
        ·go_wp2
         go_ret
         exact ⟨rfl,hbel3⟩
end Go.Proofs.YtgpaajdfkekjiaaGreatDoor
namespace Go.Proofs.YtgpaajdfkekjiaaGreatDoor
set_option maxHeartbeats 8000000
set_option maxRecDepth 100000
open Go.RowKit
def MarkUp (E:TypeId) (sz:Nat) (f:Nat→Value) (w:World) (V:Value) (n k:Nat):Prop :=
 (V=.slice none 0 0∧n=0)∨∃g cap F,V=.slice (some ⟨g,0,none⟩) n cap∧w.rowIs g E (cap*sz) F∧n≤cap∧cap≤maxLen∧∀i,i<k*sz→F i=f i
section
variable {E:TypeId}{sz:Nat}{f:Nat→Value}{w w' w0:World}{V:Value}{n k r:Nat}{es:List Entry}
theorem MarkUp.start {base:Nat}{xs:List Value}(h:w.ownsRow base E sz V n xs):MarkUp E sz f w V n 0:=by
 rcases h.2 with h | ⟨g,cap,cur,hv,_,hg,hn,hm,hs,_⟩
 ·exact .inl h
 ·exact .inr ⟨g,cap,fun i=>cur[i]?.getD undef,hv,⟨cur,hg,hs,fun i hi=>by simp [Array.getElem?_eq_getElem (show i<cur.size by omega)]⟩,hn,hm,fun i hi=>by omega⟩
theorem MarkUp.marked (h:MarkUp E sz f w V n n):Marked E sz f w V n n:=by
 rcases h with ⟨h1,h2⟩ | ⟨g,cap,F,hv,⟨cur,hg,hs,hc⟩,hn,hm,hF⟩
 ·exact .inl ⟨h1,h2,h2⟩
 ·refine .inr ⟨g,cap,cur,hv,hg,Nat.le_refl _,hn,hm,hs,fun i hi=>?_⟩
  have:n*sz≤cap*sz:=Nat.mul_le_mul_right _ hn;rw [hc i (by omega),hF i hi]
structure AppSt (E:TypeId) (sz:Nat) (f:Nat→Value) (w0:World) (V:Value) (n:Nat) (w:World) (r:Nat) (es:List Entry):Prop where
 m:Marked E sz f w V n r
 k:Keeps (fun k=>V.ownBlock=some k) w0 w
 v:∀b,V.ownBlock=some b→b<w0.heap.size
 ents:∀e∈es,e.len≤1000∧(e.len=0∨∃b,e.a=some ⟨b,0,none⟩∧((V.ownBlock=some b∧e.len≤r)∨(w0.heap.size≤b∧b<w.heap.size∧∀i,i<e.len*sz→w.cell? ⟨b,i,none⟩=some (f i))))
theorem AppSt.start {a:Option Addr}{cap:Nat}(h:Marked E sz f w (.slice a n cap) n n) (k:Keeps (fun k=>(Value.slice a n cap).ownBlock=some k) w0 w) (v:∀b,(Value.slice a n cap).ownBlock=some b→b<w0.heap.size) (hn:n≤1000) :
  AppSt E sz f w0 (.slice a n cap) n w n [⟨a,n,cap⟩]:=by
 refine ⟨h,k,v,fun e he=>?_⟩;simp only [List.mem_cons,List.not_mem_nil,or_false] at he;subst he;refine ⟨hn,?_⟩
 rcases h with ⟨_,h0,_⟩ | ⟨g,cap',cur,hv,_⟩
 ·exact .inl h0
 ·simp only [Value.slice.injEq] at hv
  exact .inr ⟨g,hv.1,.inl ⟨by rw [hv.1];rfl,Nat.le_refl _⟩⟩
theorem AppSt.next {o:Obj}{r' k g' cap':Nat}(h:AppSt E sz f w0 V n w r es) (hg:(w.alloc o).grownBy w' V.ownBlock) (hm:Marked E sz f w' V n r') (hr:r≤r') (hn:aCJ sz f (w.alloc o) w' V k r' g') (hk:k≤1000) :
  AppSt E sz f w0 V n w' r' (es++[⟨some ⟨g',0,none⟩,k,cap'⟩]):=by
 have hs:w.heap.size≤(w.alloc o).heap.size:=by simp
 have hs':=hg.size;have hblk:∀b,b<w.heap.size→V.ownBlock≠some b→w'.heap[b]?=w.heap[b]?:=fun b hb hv=>(hg.block b (by omega) (fun e=>hv e.symm)).trans (((Below.refl w.heap.size w).alloc (Nat.le_refl _) o).block b hb)
 have h0:=h.k.size;refine ⟨hm,⟨hg.os.trans h.k.os,hg.tape.trans h.k.tape,hg.output.trans h.k.output,by omega,fun b hb hv=>(hblk b (by omega) hv).trans (h.k.block b hb hv)⟩,h.v,fun e he=>?_⟩;rw [List.mem_append] at he
 rcases he with he | he
 ·obtain ⟨l1,hh⟩:=h.ents e he
  refine ⟨l1,?_⟩
  rcases hh with h1 | ⟨b,hb,h2⟩
  ·exact .inl h1
  ·refine .inr ⟨b,hb,?_⟩
   rcases h2 with ⟨h2,h3⟩ | ⟨h2,h3,h4⟩
   ·exact .inl ⟨h2,by omega⟩
   ·refine .inr ⟨h2,by omega,fun i hi=>?_⟩
    rw [World.cell?_of_block (w:=w) (hblk b h3 (fun e=>by have:=h.v b e;omega))]
    exact h4 i hi
 ·simp only [List.mem_cons,List.not_mem_nil,or_false] at he
  subst he;refine ⟨hk,.inr ⟨g',rfl,?_⟩⟩
  rcases hn with ⟨h1,h2⟩ | ⟨h1,h2,h3⟩
  ·exact .inl ⟨h1,h2⟩
  ·exact .inr ⟨by omega,h2,h3⟩
theorem AppSt.new2 (h:AppSt E sz f w0 V n w r es) (o:Obj):∀e∈es,Entry.New2 V.ownBlock sz w0 (w.alloc o) f e:=fun e he=>by
 obtain ⟨l1,hh⟩:=h.ents e he;refine ⟨l1,?_⟩;have hs:w.heap.size≤(w.alloc o).heap.size:=by simp
 rcases hh with h1 | ⟨b,hb,h2⟩
 ·exact .inl h1
 ·refine .inr ⟨b,hb,?_⟩
  rcases h2 with ⟨h2,h3⟩ | ⟨h2,h3,h4⟩
  ·have hb':=h.v b h2
   have:=h.k.size;refine ⟨.inl h2,by omega,fun i hi=>?_⟩;rw [World.cell?_alloc_past _ _ _ (by show b < _;omega)]
   exact h.m.cell h2 (Nat.lt_of_lt_of_le hi (Nat.mul_le_mul_right _ h3))
  ·refine ⟨.inr h2,by omega,fun i hi=>?_⟩
   rw [World.cell?_alloc_past _ _ _ h3]
   exact h4 i hi
theorem AppSt.book {R:Nat→Nat}{P N:Nat}{v:Nat→Value}{bs:Nat→List Entry}(h:AppSt E sz f w0 V n w r es) (hB:Book2 R w0 P v bs N) (hab:∀b,V.ownBlock=some b→6≤R b):Book2 R w P v bs N :=
 hB.keeps h.k.size (fun k hk h6=>h.k.block k hk (fun e=>by have:=hab k e;omega))
theorem Book2.at4 {R:Nat→Nat}{P N c:Nat}{v:Nat→Value}{bs:Nat→List Entry}{o:Obj}{w4:World}(hB:Book2 R w P v bs N) (hc:c<4) (grow4:(w.alloc o).grownBy w4 (v c).ownBlock) :
  w4.cell? ⟨P,c,none⟩=some (v c)∧w4.frozen? ⟨P,c,none⟩=false:=by
 have hPq:some P≠(v c).ownBlock:=fun e=>by
  have:=(hB.slot c hc).hb P e.symm;rw [hB.p] at this;omega
 have hlt:=hB.lt;have h1:P<(w.alloc o).heap.size:=by simp;omega
 refine ⟨?_,?_⟩
 ·rw [grow4.cell_far ⟨P,c,none⟩ h1 hPq,World.cell?_alloc_past _ _ _ hlt];exact (hB.slot c hc).cell
 ·rw [grow4.frozen_far ⟨P,c,none⟩ h1 hPq,World.frozen?_alloc_past _ _ _ hlt];exact hB.fz c
theorem kP {R:Nat→Nat}{P N c j:Nat}{v:Nat→Value}{bs:Nat→List Entry}{o:Obj}{w4:World}{g' cap':Nat}(hB:Book2 R w0 P v bs N) (hc:c<4) (hj:(bs c).length=4*j) (A:AppSt E (szOf c) (mkOf c j) w0 V n w r es) (hnl:es.length=4) (hab:∀b,V.ownBlock=some b→6≤R b)
  (own4:w4.ownsRow 0 (tyOf c) 1 (.slice (some ⟨g',0,none⟩) (4*j+4) cap') (4*j+4) ((bs c).map Entry.val++es.map Entry.val)) (grow4:(w.alloc o).grownBy w4 (v c).ownBlock) (hat:(v c).ownBlock=some g'∨g'=(w.alloc o).heap.size) :
  KeepResL R w0 P N c bs V.ownBlock (w4.setCell ⟨P,c,none⟩ (.slice (some ⟨g',0,none⟩) (4*j+4) cap')) :=
 hB.growsL (news:=es) (w3:=w.alloc o) ⟨hB.slot c hc,hB.p,hB.lt,hc,hB.hR,hj,fun b e=>⟨hab b e,A.v b e⟩,A.k.trans (Keeps.of_below ((Below.refl _ _).alloc (Nat.le_refl _) o)),hnl,A.new2 o,own4,grow4,hat⟩
end
theorem rX {sz n m:Nat}{f:Nat→Value}(hp:∀i,f (n*sz+i)=f i):bF f (n*sz)++ bF f (m*sz)=bF f ((n+m)*sz):=by
 apply List.ext_getElem?
 intro i
 by_cases hi:i<n*sz
 ·rw [List.getElem?_append_left (by rw [eC];exact hi),eT hi,eT (by rw [Nat.add_mul];omega)]
 ·rw [List.getElem?_append_right (by rw [eC];omega),eC]
  by_cases h2:i<(n+m)*sz
  ·rw [eT h2,eT (by rw [Nat.add_mul] at h2;omega),←hp (i - n*sz),show n*sz+(i - n*sz)=i by omega]
  ·rw [List.getElem?_eq_none (by rw [eC];rw [Nat.add_mul] at h2;omega),List.getElem?_eq_none (by rw [eC];omega)]
theorem aBH {j n m:Nat}:bF (mkI j) (n*1)++ bF (mkI j) (m*1)=bF (mkI j) ((n+m)*1):=rX (fun _=>rfl)
theorem aBG {j n m:Nat}:bF (mkF j) (n*1)++ bF (mkF j) (m*1)=bF (mkF j) ((n+m)*1):=rX (fun _=>rfl)
theorem aBI {j n m:Nat}:bF (mkP j) (n*2)++ bF (mkP j) (m*2)=bF (mkP j) ((n+m)*2):=rX (fun i=>by unfold mkP;rw [show (n*2+i) % 2=i % 2 by omega])
end Go.Proofs.YtgpaajdfkekjiaaGreatDoor
namespace Go.Proofs.YtgpaajdfkekjiaaGreatDoor
set_option maxHeartbeats 8000000
set_option maxRecDepth 100000
open Go.RowKit
theorem Marked.alloc {E:TypeId}{sz:Nat}{f:Nat→Value}{w:World}{V:Value}{n r:Nat}(h:Marked E sz f w V n r) (o:Obj):Marked E sz f (w.alloc o) V n r:=h.block (fun g hg=>((Below.refl w.heap.size w).alloc (Nat.le_refl _) o).block g (h.lt hg))
theorem AppSt.alloc {E:TypeId}{sz:Nat}{f:Nat→Value}{w0 w:World}{V:Value}{n r:Nat}{es:List Entry}(h:AppSt E sz f w0 V n w r es) (o:Obj):Marked E sz f (w.alloc o) V n r:=h.m.alloc o
attribute [local go_sem] fD
theorem Tryz.infoIntsK:(Tryz.prog.info? 32).map (fun i=>(i.zero,i.size,i.bytes))=some (some (.slice none 0 0),1,24):=by kernel_rfl
theorem Tryz.infoFloatsK:(Tryz.prog.info? 74).map (fun i=>(i.zero,i.size,i.bytes))=some (some (.slice none 0 0),1,24):=by kernel_rfl
theorem mZ (R:Nat→Nat) (P N:Nat) (v:Nat→Value) (es:Nat→List Entry) (a:Option Addr) (n cap base:Nat) (xs:List Value) (w:World) (hB:Book2 R w P v es N) (hN:N≤700000000000) (hn:n≤900)
  (hO:w.ownsRow base 3 1 (.slice a n cap) n xs) (hab:∀b,(Value.slice a n cap).ownBlock=some b→6≤R b) :
  Calls Tryz.prog 26 #[.pointer (some ⟨P,0,none⟩),.slice a n cap] w fun e w'=>e=.returned (.tuple #[])∧KeepResL R w P N 0 es (Value.slice a n cap).ownBlock w':=by
 obtain ⟨i0,hi0,hz0,hz1,hz2⟩:=info_parts Tryz.infoInt;obtain ⟨i1,hi1,hy0,hy1,hy2⟩:=info_parts Tryz.infoIntsK;obtain ⟨j,hj,hjN⟩:=hB.len 0 (by omega);obtain ⟨ha,hc,hv⟩:=(hB.slot 0 (by omega)).form;rw [hj] at hv;have c0:=(hB.slot 0 (by omega)).cell;rw [hv] at c0;have hvb:∀b,(Value.slice a n cap).ownBlock=some b→b<w.heap.size:=fun b e=>(hO.lt b e).2
 obtain ⟨M,hM⟩:∃M:Int,-1 - (j:Int)=M:=⟨_,rfl⟩
 have hmk:∀i,mkI j i=.int .i64 M:=fun i=>by rw [←hM];rfl
 have e1:bF (mkI j) (n*1)++ [.int .i64 M]=bF (mkI j) ((n+1)*1):=by rw [←aBH,show bF (mkI j) (1*1)=[.int .i64 M] by rw [←hmk 0];rfl]
 have e2:bF (mkI j) (n*1)++ [.int .i64 M,.int .i64 M]=bF (mkI j) ((n+2)*1):=by rw [←aBH,show bF (mkI j) (2*1)=[.int .i64 M,.int .i64 M] by rw [←hmk 0];rfl]
 have e3:bF (mkI j) (n*1)++ [.int .i64 M,.int .i64 M,.int .i64 M]=bF (mkI j) ((n+3)*1):=by rw [←aBH,show bF (mkI j) (3*1)=[.int .i64 M,.int .i64 M,.int .i64 M] by rw [←hmk 0];rfl]
 have hM0:M≤-1:=by omega
 have hM1:-700000000001≤M:=by omega
 have HE1:=hidK e1;have HE2:=hidK e2;have HE3:=hidK e3;have HMK:=hidK hmk;have HB:=hidK hB;have HJ:=hidK hj;have HV:=hidK hv;have HU:=hidK (MarkUp.start (f:=mkI j) hO);clear e1 e2 e3 hmk hB hj hv hO
 go_enter Tryz.func26,Tryz.ntmps26
 go_wp2
 go_loopw [5] (fun i wr=>∃k:Nat,k≤n∧i=.int .i64 k∧MarkUp 3 1 (mkI j) wr (.slice a n cap) n k∧Keeps (fun k=>(Value.slice a n cap).ownBlock=some k) w wr) (fun i _=>n - (intOf i).toNat)
 case atStart=>exact ⟨0,Nat.zero_le _,rfl,HU.out,Keeps.refl _ _⟩
 case round =>
  obtain ⟨k,hk,rfl,hup,K⟩:=hrel
  by_cases hk2:k<n
  ·rcases hup with ⟨_,h0⟩ | ⟨g,cp,F,hv',hr,hnc,hcm,hF⟩
   ·omega
   ·simp only [Value.slice.injEq,true_and] at hv'
    obtain ⟨rfl,rfl⟩:=hv';have c1:=hr.cell (i:=k) (by omega);have f1:=hr.frozen k;obtain ⟨u,hu⟩:∃u,u=F k:=⟨_,rfl⟩
    rw [←hu] at c1;have hk3:(k:Int)<(n:Int):=(by omega)
    clear hu c0;go_wp2
    go_roundw
    case rel=>exact ⟨k+1,by omega,by go_num,.inr ⟨g,cap,_,rfl,hr.set k (.int .i64 M),hnc,hcm,fun i hi=>by by_cases h:i=k<;>simp [h,HMK.out];rw [hF i (by omega)];exact HMK.out i⟩,K.trans ⟨rfl,rfl,rfl,by rw [Deep.nblk_setCell];exact Nat.le_refl _,fun q _ ho=>Deep.blk_setCell_other _ _ _ _ (fun e=>ho (by simp at e;rw [e];rfl))⟩⟩
    case measure=>simp [intOf];omega
  ·obtain rfl:k=n:=by omega
   have A0:=AppSt.start hup.marked K hvb (by omega);have e1:=HE1.out;have e2:=HE2.out;have e3:=HE3.out;clear hup c0
   go_wp2_with (first
    | (at_builtin;refine aO _ rfl (.tmp 26) (.tmp 28) 32 rfl 3 i0 (.int .i64 0) 1 8 Tryz.underlying32 hi0 hz0 hz1 hz2 rfl (by omega) (mkI j) (.slice a k cap) k k rfl (A0.alloc _) ⟨wr.heap.size,0,none⟩ 1 1 [.int .i64 M] rfl rfl (World.news_of_block (heap_alloc_new wr _)) (by simp;rfl) e1 (by omega) (by omega) (by unfold maxLen;omega) (by omega) ?_;intro g1 cap1 w1 r1 hr1 hs1 m1 grow1 nm1;have A1:=A0.next (cap':=cap1) grow1 m1 hr1 nm1 (by omega))
    | (at_builtin;refine aO _ rfl (.tmp 30) (.tmp 33) 32 rfl 3 i0 (.int .i64 0) 1 8 Tryz.underlying32 hi0 hz0 hz1 hz2 rfl (by omega) (mkI j) (.slice a k cap) k r1 rfl (A1.alloc _) ⟨w1.heap.size,0,none⟩ 2 2 [.int .i64 M,.int .i64 M] rfl rfl (World.news_of_block (heap_alloc_new w1 _)) (by simp;rfl) e2 (by omega) (by omega) (by unfold maxLen;omega) (by omega) ?_;intro g2 cap2 w2 r2 hr2 hs2 m2 grow2 nm2;have A2:=A1.next (cap':=cap2) grow2 m2 hr2 nm2 (by omega))
    | (at_builtin;refine aO _ rfl (.tmp 35) (.tmp 39) 32 rfl 3 i0 (.int .i64 0) 1 8 Tryz.underlying32 hi0 hz0 hz1 hz2 rfl (by omega) (mkI j) (.slice a k cap) k r2 rfl (A2.alloc _) ⟨w2.heap.size,0,none⟩ 3 3 [.int .i64 M,.int .i64 M,.int .i64 M] rfl rfl (World.news_of_block (heap_alloc_new w2 _)) (by simp;rfl) e3 (by omega) (by omega) (by unfold maxLen;omega) (by omega) ?_;intro g3 cap3 w3 r3 hr3 hs3 m3 grow3 nm3;have A3:=A2.next (cap':=cap3) grow3 m3 hr3 nm3 (by omega);have hB3:=A3.book HB.out hab;have cP3:=(hB3.slot 0 (by omega)).cell;have ownH:=(hB3.slot 0 (by omega)).own;rw [HJ.out] at ownH;rw [HV.out] at cP3 ownH)
    | (at_builtin;refine wpList_append_lies _ rfl (.tmp 45) (.tmp 50) 24 rfl 0 32 i1 (.slice none 0 0) 1 24 Tryz.underlying24 hi1 hy0 hy1 hy2 rfl (by omega) (.slice ha (4*j) hc) (4*j) ((es 0).map Entry.val) rfl (ownH.alloc _) ⟨w3.heap.size,0,none⟩ 4 4 [.slice a k cap,.slice (some ⟨g1,0,none⟩) (k+1) cap1,.slice (some ⟨g2,0,none⟩) (k+2) cap2,.slice (some ⟨g3,0,none⟩) (k+3) cap3] rfl rfl (World.news_of_block (heap_alloc_new w3 _)) (by simp [Value.oneCell']) (by omega) (by unfold maxLen;omega) (by omega) (by simp) _ rfl ?_;intro g4 cap4 w4 own4 grow4 hat hlt4;rw [←HV.out] at grow4;obtain ⟨cP4,fP4⟩:=hB3.at4 (by omega) grow4;rw [HV.out] at cP4)
    | fail)
   go_end0
   exact ⟨rfl,kP HB.out (by omega) HJ.out A3 rfl hab own4 grow4 (by rw [HV.out];rcases hat with h | h;exact .inl h;exact .inr (by rw [h]))⟩
theorem pI (R:Nat→Nat) (P N:Nat) (v:Nat→Value) (es:Nat→List Entry) (a:Option Addr) (n cap base:Nat) (xs:List Value) (w:World) (hB:Book2 R w P v es N) (hN:N≤700000000000) (hn:n≤900)
  (hO:w.ownsRow base 3 1 (.slice a n cap) n xs) (hab:∀b,(Value.slice a n cap).ownBlock=some b→6≤R b) :
  Calls Tryz.prog 26 #[.pointer (some ⟨P,0,none⟩),.slice a n cap] w fun e w'=>e=.returned (.tuple #[])∧aAU R w P N (Value.slice a n cap).ownBlock w' :=
 (mZ R P N v es a n cap base xs w hB hN hn hO hab).mono fun _ _ h=>⟨h.1,h.2.res⟩
theorem rR (R:Nat→Nat) (P N:Nat) (v:Nat→Value) (es:Nat→List Entry) (a:Option Addr) (n cap base:Nat) (xs:List Value) (w:World) (hB:Book2 R w P v es N) (hN:N≤700000000000) (hn:n≤900)
  (hO:w.ownsRow base 106 1 (.slice a n cap) n xs) (hab:∀b,(Value.slice a n cap).ownBlock=some b→6≤R b) :
  Calls Tryz.prog 32 #[.pointer (some ⟨P,0,none⟩),.slice a n cap] w fun e w'=>e=.returned (.tuple #[])∧KeepResL R w P N 1 es (Value.slice a n cap).ownBlock w':=by
 obtain ⟨i0,hi0,hz0,hz1,hz2⟩:=info_parts Tryz.infoFloat;obtain ⟨i1,hi1,hy0,hy1,hy2⟩:=info_parts Tryz.infoFloatsK;obtain ⟨j,hj,hjN⟩:=hB.len 1 (by omega);obtain ⟨ha,hc,hv⟩:=(hB.slot 1 (by omega)).form;rw [hj] at hv;have c0:=(hB.slot 1 (by omega)).cell;rw [hv] at c0;have hvb:∀b,(Value.slice a n cap).ownBlock=some b→b<w.heap.size:=fun b e=>(hO.lt b e).2
 obtain ⟨M,hM⟩:∃M:Int,-1 - (j:Int)=M:=⟨_,rfl⟩
 have hmk:∀i,mkF j i=.float .f64 (floatOfInt .f64 M):=fun i=>by rw [←hM];rfl
 have e1:bF (mkF j) (n*1)++ [.float .f64 (floatOfInt .f64 M)]=bF (mkF j) ((n+1)*1):=by rw [←aBG,show bF (mkF j) (1*1)=[.float .f64 (floatOfInt .f64 M)] by rw [←hmk 0];rfl]
 have e2:bF (mkF j) (n*1)++ [.float .f64 (floatOfInt .f64 M),.float .f64 (floatOfInt .f64 M)]=bF (mkF j) ((n+2)*1):=by rw [←aBG,show bF (mkF j) (2*1)=[.float .f64 (floatOfInt .f64 M),.float .f64 (floatOfInt .f64 M)] by rw [←hmk 0];rfl]
 have e3:bF (mkF j) (n*1)++ [.float .f64 (floatOfInt .f64 M),.float .f64 (floatOfInt .f64 M),.float .f64 (floatOfInt .f64 M)]=bF (mkF j) ((n+3)*1):=by rw [←aBG,show bF (mkF j) (3*1)=[.float .f64 (floatOfInt .f64 M),.float .f64 (floatOfInt .f64 M),.float .f64 (floatOfInt .f64 M)] by rw [←hmk 0];rfl]
 have hM0:M≤-1:=by omega
 have hM1:-700000000001≤M:=by omega
 have HE1:=hidK e1;have HE2:=hidK e2;have HE3:=hidK e3;have HMK:=hidK hmk;have HB:=hidK hB;have HJ:=hidK hj;have HV:=hidK hv;have HU:=hidK (MarkUp.start (f:=mkF j) hO);clear e1 e2 e3 hmk hB hj hv hO
 go_enter Tryz.func32,Tryz.ntmps32
 go_wp2
 go_loopw [5] (fun i wr=>∃k:Nat,k≤n∧i=.int .i64 k∧MarkUp 106 1 (mkF j) wr (.slice a n cap) n k∧Keeps (fun k=>(Value.slice a n cap).ownBlock=some k) w wr) (fun i _=>n - (intOf i).toNat)
 case atStart=>exact ⟨0,Nat.zero_le _,rfl,HU.out,Keeps.refl _ _⟩
 case round =>
  obtain ⟨k,hk,rfl,hup,K⟩:=hrel
  by_cases hk2:k<n
  ·rcases hup with ⟨_,h0⟩ | ⟨g,cp,F,hv',hr,hnc,hcm,hF⟩
   ·omega
   ·simp only [Value.slice.injEq,true_and] at hv'
    obtain ⟨rfl,rfl⟩:=hv';have c1:=hr.cell (i:=k) (by omega);have f1:=hr.frozen k;obtain ⟨u,hu⟩:∃u,u=F k:=⟨_,rfl⟩
    rw [←hu] at c1;have hk3:(k:Int)<(n:Int):=(by omega)
    clear hu c0;go_wp2
    go_roundw
    case rel=>exact ⟨k+1,by omega,by go_num,.inr ⟨g,cap,_,rfl,hr.set k (.float .f64 (floatOfInt .f64 M)),hnc,hcm,fun i hi=>by by_cases h:i=k<;>simp [h,HMK.out];rw [hF i (by omega)];exact HMK.out i⟩,K.trans ⟨rfl,rfl,rfl,by rw [Deep.nblk_setCell];exact Nat.le_refl _,fun q _ ho=>Deep.blk_setCell_other _ _ _ _ (fun e=>ho (by simp at e;rw [e];rfl))⟩⟩
    case measure=>simp [intOf];omega
  ·obtain rfl:k=n:=by omega
   have A0:=AppSt.start hup.marked K hvb (by omega);have e1:=HE1.out;have e2:=HE2.out;have e3:=HE3.out;clear hup c0
   go_wp2_with (first
    | (at_builtin;refine aO _ rfl (.tmp 27) (.tmp 29) 74 rfl 106 i0 (.float .f64 0) 1 8 Tryz.underlying74 hi0 hz0 hz1 hz2 rfl (by omega) (mkF j) (.slice a k cap) k k rfl (A0.alloc _) ⟨wr.heap.size,0,none⟩ 1 1 [.float .f64 (floatOfInt .f64 M)] rfl rfl (World.news_of_block (heap_alloc_new wr _)) (by simp;rfl) e1 (by omega) (by omega) (by unfold maxLen;omega) (by omega) ?_;intro g1 cap1 w1 r1 hr1 hs1 m1 grow1 nm1;have A1:=A0.next (cap':=cap1) grow1 m1 hr1 nm1 (by omega))
    | (at_builtin;refine aO _ rfl (.tmp 31) (.tmp 34) 74 rfl 106 i0 (.float .f64 0) 1 8 Tryz.underlying74 hi0 hz0 hz1 hz2 rfl (by omega) (mkF j) (.slice a k cap) k r1 rfl (A1.alloc _) ⟨w1.heap.size,0,none⟩ 2 2 [.float .f64 (floatOfInt .f64 M),.float .f64 (floatOfInt .f64 M)] rfl rfl (World.news_of_block (heap_alloc_new w1 _)) (by simp;rfl) e2 (by omega) (by omega) (by unfold maxLen;omega) (by omega) ?_;intro g2 cap2 w2 r2 hr2 hs2 m2 grow2 nm2;have A2:=A1.next (cap':=cap2) grow2 m2 hr2 nm2 (by omega))
    | (at_builtin;refine aO _ rfl (.tmp 36) (.tmp 40) 74 rfl 106 i0 (.float .f64 0) 1 8 Tryz.underlying74 hi0 hz0 hz1 hz2 rfl (by omega) (mkF j) (.slice a k cap) k r2 rfl (A2.alloc _) ⟨w2.heap.size,0,none⟩ 3 3 [.float .f64 (floatOfInt .f64 M),.float .f64 (floatOfInt .f64 M),.float .f64 (floatOfInt .f64 M)] rfl rfl (World.news_of_block (heap_alloc_new w2 _)) (by simp;rfl) e3 (by omega) (by omega) (by unfold maxLen;omega) (by omega) ?_;intro g3 cap3 w3 r3 hr3 hs3 m3 grow3 nm3;have A3:=A2.next (cap':=cap3) grow3 m3 hr3 nm3 (by omega);have hB3:=A3.book HB.out hab;have cP3:=(hB3.slot 1 (by omega)).cell;have ownH:=(hB3.slot 1 (by omega)).own;rw [HJ.out] at ownH;rw [HV.out] at cP3 ownH)
    | (at_builtin;refine wpList_append_lies _ rfl (.tmp 46) (.tmp 51) 25 rfl 0 74 i1 (.slice none 0 0) 1 24 Tryz.underlying25 hi1 hy0 hy1 hy2 rfl (by omega) (.slice ha (4*j) hc) (4*j) ((es 1).map Entry.val) rfl (ownH.alloc _) ⟨w3.heap.size,0,none⟩ 4 4 [.slice a k cap,.slice (some ⟨g1,0,none⟩) (k+1) cap1,.slice (some ⟨g2,0,none⟩) (k+2) cap2,.slice (some ⟨g3,0,none⟩) (k+3) cap3] rfl rfl (World.news_of_block (heap_alloc_new w3 _)) (by simp [Value.oneCell']) (by omega) (by unfold maxLen;omega) (by omega) (by simp) _ rfl ?_;intro g4 cap4 w4 own4 grow4 hat hlt4;rw [←HV.out] at grow4;obtain ⟨cP4,fP4⟩:=hB3.at4 (by omega) grow4;rw [HV.out] at cP4)
    | fail)
   go_end0
   exact ⟨rfl,kP HB.out (by omega) HJ.out A3 rfl hab own4 grow4 (by rw [HV.out];rcases hat with h | h;exact .inl h;exact .inr (by rw [h]))⟩
theorem tI (R:Nat→Nat) (P N:Nat) (v:Nat→Value) (es:Nat→List Entry) (a:Option Addr) (n cap base:Nat) (xs:List Value) (w:World) (hB:Book2 R w P v es N) (hN:N≤700000000000) (hn:n≤900)
  (hO:w.ownsRow base 106 1 (.slice a n cap) n xs) (hab:∀b,(Value.slice a n cap).ownBlock=some b→6≤R b) :
  Calls Tryz.prog 32 #[.pointer (some ⟨P,0,none⟩),.slice a n cap] w fun e w'=>e=.returned (.tuple #[])∧aAU R w P N (Value.slice a n cap).ownBlock w' :=
 (rR R P N v es a n cap base xs w hB hN hn hO hab).mono fun _ _ h=>⟨h.1,h.2.res⟩
end Go.Proofs.YtgpaajdfkekjiaaGreatDoor
namespace Go.Proofs.YtgpaajdfkekjiaaGreatDoor
set_option maxHeartbeats 8000000
set_option maxRecDepth 100000
open Go.RowKit
theorem mC (aa ba:Option Addr) (n ac bc:Nat) (xs:List Int) (w:World) (hn:n=xs.length) (hx:xs.length≤1000) (hX:IntsAt w aa xs) (hY:IntsAt w ba xs) :
  Calls Tryz.prog 17 #[.slice aa n ac,.slice ba n bc] w fun e w'=>e=.returned (.bool true)∧Below w.heap.size w w':=by
 subst hn
 go_enter Tryz.func17,Tryz.ntmps17
 go_wp2
 go_loopw [5] (fun i wr=>∃k:Nat,k≤xs.length∧i=.int .i64 k∧Below w.heap.size w wr) (fun i _=>xs.length - (intOf i).toNat)
 case atStart=>exact ⟨0,Nat.zero_le _,rfl,Below.refl _ _⟩
 case round =>
  obtain ⟨k,hk,rfl,hbel⟩:=hrel
  by_cases hk2:k<xs.length
  ·obtain ⟨b,off,rfl,hlt,hc⟩:=hX.get (by omega)
   obtain ⟨b',off',rfl,hlt',hc'⟩:=hY.get (by omega);have hcy:wr.cell? ⟨b,off+k,none⟩=some (.int .i64 (xs.getD k 0)):=(hbel.cell (p:=⟨b,_,none⟩) hlt).trans (hc k hk2);have hcz:wr.cell? ⟨b',off'+k,none⟩=some (.int .i64 (xs.getD k 0)):=(hbel.cell (p:=⟨b',_,none⟩) hlt').trans (hc' k hk2);obtain ⟨x,hx'⟩:∃x,x=xs.getD k 0:=⟨_,rfl⟩
   rw [←hx'] at hcy hcz;have k1:(k:Int)<(xs.length:Int):=(by omega)
   clear hx' hc hc';go_wp2
   go_quiet (fail)
   go_wp2
   go_roundw
   case rel=>exact ⟨k+1,by omega,by go_num,below_drewN hbel _⟩
   case measure=>simp [intOf];omega
  ·go_wp2
   go_ret
   exact ⟨rfl,hbel⟩
theorem lZ (x:Int) (w:World):Calls Tryz.prog 14 #[.int .i64 x] w fun e w'=>e=.returned (.int .i64 x)∧w'=w:=by
 go_enter Tryz.func14,Tryz.ntmps14
 go_wp2
 go_ret
 exact ⟨rfl,rfl⟩
end Go.Proofs.YtgpaajdfkekjiaaGreatDoor
