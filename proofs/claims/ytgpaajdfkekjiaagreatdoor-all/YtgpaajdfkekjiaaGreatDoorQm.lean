/-
  A part of the proof of the statement All: texts of ours, made small by program (blanks, names).
-/
import Derived.Test.YtgpaajdfkekjiaaGreatDoorQw
import Derived.Lib.AppendIntMem
import Derived.Test.YtgpaajdfkekjiaaGreatDoorQl
import Derived.Test.YtgpaajdfkekjiaaGreatDoorPd
namespace Go.Proofs.YtgpaajdfkekjiaaGreatDoor
set_option maxHeartbeats 8000000
set_option maxRecDepth 100000
open Go.RowKit
structure Lib0 (w:World):Prop where
 mx:∃m,w.cell? ⟨2,0,none⟩=some (.int .i64 m)
 es:∃tp p,w.cell? ⟨4,0,none⟩=some (.iface tp p)
 er:∃tp p,w.cell? ⟨5,0,none⟩=some (.iface tp p)
 tab:Lib.TabIs Tryz.prog w "internal/strconv.uint64pow10" .u64 Lib.pow10Tab
theorem gPow:Tryz.prog.globalNamed "internal/strconv.uint64pow10"=some 3:=by kernel_rfl
def jO (k:Nat):Prop:=k=2∨k=4∨k=5∨k=3
theorem aMB {P:Program}{w:World}{n:String}{g:Nat}{cs:Array Value}(hg:P.globalNamed n=some g) (h:w.var? P n=some cs):g<w.heap.size:=by
 unfold World.var? at h;rw [hg] at h;simp only [Option.bind_some] at h
 rcases Nat.lt_or_ge g w.heap.size with hlt | hge
 ·exact hlt
 ·rw [Array.getElem?_eq_none hge] at h;cases h
theorem aH9 {P:Program}{w w':World}{n:String}{g:Nat}(hg:P.globalNamed n=some g) (h:w'.heap[g]?=w.heap[g]?):w'.var? P n=w.var? P n:=by
 unfold World.var?;rw [hg];simp only [Option.bind_some,h]
theorem Lib0.lt {w:World}(h:Lib0 w){k:Nat}(hk:jO k):k<w.heap.size:=by
 rcases hk with rfl | rfl | rfl | rfl
 ·obtain ⟨m,hm⟩:=h.mx;exact World.block_lt_of_cell? _ _ hm
 ·obtain ⟨t,p,hm⟩:=h.es;exact World.block_lt_of_cell? _ _ hm
 ·obtain ⟨t,p,hm⟩:=h.er;exact World.block_lt_of_cell? _ _ hm
 ·exact aMB gPow h.tab
theorem Lib0.blocks {w w':World}(h:Lib0 w) (hk:∀k,jO k→w'.heap[k]?=w.heap[k]?):Lib0 w':=by
 refine ⟨?_,?_,?_,?_⟩
 ·obtain ⟨m,hm⟩:=h.mx;exact ⟨m,(World.cell?_of_block (w:=w) (hk _ (.inl rfl))).trans hm⟩
 ·obtain ⟨t,p,hm⟩:=h.es;exact ⟨t,p,(World.cell?_of_block (w:=w) (hk _ (.inr (.inl rfl)))).trans hm⟩
 ·obtain ⟨t,p,hm⟩:=h.er;exact ⟨t,p,(World.cell?_of_block (w:=w) (hk _ (.inr (.inr (.inl rfl))))).trans hm⟩
 ·exact (aH9 gPow (hk _ (.inr (.inr (.inr rfl))))).trans h.tab
theorem Lib0.below {w w':World}(h:Lib0 w) (hb:Below w.heap.size w w'):Lib0 w':=h.blocks (fun k hk=>hb.block k (h.lt hk))
theorem aHM:∀n:Fin 10,Lib.atoiAll [UInt8.ofNat (48+n.val)]=.ok (n.val:Int):=by decide
theorem aHN:∀a b:Fin 10,Lib.atoiAll [UInt8.ofNat (48+a.val),UInt8.ofNat (48+b.val)]=.ok ((10*a.val+b.val:Nat):Int):=by decide
theorem tZ (n:Nat) (h:n<100):Lib.atoiAll (Lib.decDigits n)=.ok (n:Int):=by
 by_cases h1:n<10
 ·rw [Lib.decDigits_one h1];exact aHM ⟨n,h1⟩
 ·rw [Lib.decDigits_two h1 h]
  have:=aHN ⟨n / 10,by omega⟩ ⟨n % 10,by omega⟩;simp only at this;rw [this]
  congr 2
  omega
theorem aIA (n:Nat) (h:n<9223372036854775808) (w:World) (hL:Lib0 w) :
  Calls Tryz.prog 93 #[.int .i64 (n:Int)] w fun e w'=>e=.returned (.string ⟨(Lib.decDigits n).toArray⟩)∧Below w.heap.size w w':=by
 refine (Any.strconv_Itoa aML (n:Int) (by omega) (by omega) w hL.tab).mono ?_;rintro e w' ⟨rfl,k,os,rfl⟩;refine ⟨by rw [Lib.itoa_nonneg],?_⟩
 exact Lib.below_grow _ _ (Nat.le_refl _) _ _
theorem aIB (v:Int) (h0:¬v<0) (h:v<9223372036854775808) (w:World) (hL:Lib0 w) :
  Calls Tryz.prog 93 #[.int .i64 v] w fun e w'=>e=.returned (.string ⟨(Lib.decDigits v.toNat).toArray⟩)∧Below w.heap.size w w':=by
 obtain ⟨n,rfl⟩:=Int.eq_ofNat_of_zero_le (show 0≤v by omega)
 exact aIA n (by omega) w hL
theorem aF4 (X:List UInt8) (v:Int) (h:Lib.atoiAll X=.ok v) (hl:X.length≤2000) (w:World) :
  Calls Tryz.prog 116 #[.string ⟨X.toArray⟩] w fun e w'=>e=.returned (.tuple #[.int .i64 v,.nilIface])∧Below w.heap.size w w':=by
 refine (Any.strconv_Atoi_ok qJ ⟨X.toArray⟩ (by show X.toArray.size≤_;simp;omega) v (by simpa using h) w).mono ?_;rintro e w' ⟨rfl,h1⟩;refine ⟨rfl,?_⟩
 rcases h1 with rfl | ⟨t,rfl⟩
 ·exact Below.refl _ _
 ·exact Lib.bytesWorld_below _ _ _
theorem aHL (X:List UInt8) (h:Lib.atoiAll X=.«syntax»∨Lib.atoiAll X=.range) (hl:X.length≤2000) (w:World) (hL:Lib0 w) :
  Calls Tryz.prog 116 #[.string ⟨X.toArray⟩] w fun e w'=>∃x t p,e=.returned (.tuple #[.int .i64 x,.iface t p])∧Below w.heap.size w w':=by
 have hs:(⟨X.toArray⟩:ByteArray).size≤281474976710656:=by show X.toArray.size≤_;simp;omega
 rcases h with h | h
 ·obtain ⟨tp,p,he⟩:=hL.es
  refine (Any.strconv_Atoi_syntax qJ ⟨X.toArray⟩ hs (by simpa using h) (.iface tp p) w he (.inr ⟨tp,p,rfl⟩)).mono ?_;rintro e w' ⟨N,rfl,_,_,b⟩
  exact ⟨_,_,_,rfl,b⟩
 ·obtain ⟨tp,p,he⟩:=hL.er
  refine (Any.strconv_Atoi_range qJ ⟨X.toArray⟩ hs (by simpa using h) (.iface tp p) w he (.inr ⟨tp,p,rfl⟩)).mono ?_;rintro e w' ⟨N,rfl,_,_,b⟩
  exact ⟨_,_,_,rfl,b⟩
def pS (ws:List (List UInt8)):List Value:=ws.map fun x=>.string ⟨x.toArray⟩
theorem aEV {ws:List (List UInt8)}{k:Nat}(h:k<ws.length):(pS ws)[k]?=some (.string ⟨(ws.getD k []).toArray⟩):=by simp [pS,h]
def aCK (ws:List (List UInt8)):Prop:=∀ns:List Nat,ws=ns.map Lib.decDigits→∃n∈ns,100≤n
theorem zO {ws:List (List UInt8)}{k:Nat}(h:k<ws.length) (hx:∀n,n<100→ws.getD k []≠Lib.decDigits n):aCK ws:=by
 intro ns e;subst e;have hk:k<ns.length:=by simpa using h
 refine ⟨ns[k],List.getElem_mem hk,?_⟩
 rcases Nat.lt_or_ge ns[k] 100 with hlt | hge
 ·exact absurd (by simp [hk]) (hx _ hlt)
 ·exact hge
def upTo (ns:List Nat) (i:Nat):Value:=.int .i64 ((ns.getD i 0:Nat):Int)
theorem aH7 (ns:List Nat) (n i:Nat):(if i=ns.length then (Value.int .i64 ((n:Nat):Int)) else upTo ns i)=upTo (ns++[n]) i:=by
 unfold upTo
 by_cases h:i=ns.length
 ·subst h;simp
 ·rw [if_neg h]
  simp only [List.getD_eq_getElem?_getD]
  by_cases h2:i<ns.length
  ·rw [List.getElem?_append_left h2]
  ·rw [List.getElem?_eq_none (by omega),List.getElem?_eq_none (by simp;omega)]
theorem wQ (ws:List (List UInt8)) (wb:Nat) (fz:Nat×Nat) (w:World) (hL:Lib0 w) (hb:w.heap[wb]?=some (.cells (pS ws).toArray 9 fz)) (hlen:ws.length≤2000) (hw:∀x∈ws,x.length≤2000) :
  Calls Tryz.prog 97 #[.slice (some ⟨wb,0,none⟩) ws.length ws.length] w fun e w'=>Below w.heap.size w w' ∧
   ((∃ns g,ws=ns.map Lib.decDigits∧(∀n∈ns,n<9223372036854775808)∧e=.returned (.tuple #[.slice (some ⟨g,0,none⟩) ns.length ns.length,.bool true])∧w.heap.size≤g∧w'.rowIs g 3 ns.length (upTo ns))∨
    (e=.returned (.tuple #[.slice none 0 0,.bool false])∧aCK ws)):=by
 obtain ⟨i0,hi0,hz0,hz1,hz2⟩:=info_parts Tryz.infoInt;have hmk:=fun w=>run_make_row (P:=Tryz.prog) 32 3 i0 (.int .i64 0) Tryz.underlying32 hi0 hz0 hz1 rfl .i64 .i64 ws.length (by rw [hz2];omega) (by omega) w
 simp only [pM] at hmk;have hblt:wb<w.heap.size:=by
  rcases Nat.lt_or_ge wb w.heap.size with hlt | hge
  ·exact hlt
  ·rw [Array.getElem?_eq_none hge] at hb;cases hb
 go_enter Tryz.func97,Tryz.ntmps97
 go_wp2
 go_loopw [5,6,7,8,14] (fun _ _ _ _ i wr=>∃ns:List Nat,ns.length≤ws.length∧ws.take ns.length=ns.map Lib.decDigits∧(∀n∈ns,n<9223372036854775808)∧i=.int .i64 ns.length∧wr.rowIs w.heap.size 3 ws.length (upTo ns)∧Below w.heap.size w wr)
  (fun _ _ _ _ i _=>ws.length - (intOf i).toNat)
 case atStart =>
  refine ⟨[],Nat.zero_le _,by simp,by simp,rfl,?_,(Below.refl _ _).alloc (Nat.le_refl _) _⟩
  exact ⟨_,heap_alloc_new _ _,by simp,fun i hi=>by simp [upTo,hi]⟩
 case round =>
  obtain ⟨ns,hns,htk,hbd,rfl,hrow,hbel⟩:=hrel
  by_cases hk:ns.length<ws.length
  ·obtain ⟨X,hX⟩:∃X,X=ws.getD ns.length []:=⟨_,rfl⟩
   have hc:wr.cell? ⟨wb,ns.length,none⟩=some (.string ⟨X.toArray⟩):=by
    rw [hbel.cell (p:=⟨wb,ns.length,none⟩) hblt,cell_of_row w wb _ _ _ _ hb,hX]
    simpa using aEV hk
   have hXl:X.length≤2000:=hw X (by rw [hX];simp [hk]);have hLr:=hL.below hbel;have HX:Hid (X=ws.getD ns.length []):=hX;have HR:=hrow.cell hk;have hfz:=hrow.frozen ns.length;have hk3:(ns.length:Int)<(ws.length:Int):=(by omega)
   obtain ⟨u,hu⟩:∃u,u=upTo ns ns.length:=⟨_,rfl⟩
   rw [←hu] at HR;clear hX hmk
   cases hat:Lib.atoiAll X with
   | ok v =>
    have hvb:=Lib.atoiAll_bounds hat;have bad:(v<0∨Lib.decDigits v.toNat≠X)→aCK ws:=fun h=>zO hk (fun n hn e=>by
     rw [←HX.out] at e;rw [e,tZ n hn] at hat
     injection hat with hat
     subst hat
     rcases h with h | h
     ·omega
     ·exact h (by rw [e];rfl))
    by_cases hv:v<0
    ·go_wp2_with fail
     refine (aF4 X v hat hXl _).mono ?_;rintro e w1 ⟨rfl,b1⟩;go_wp2
     go_ret2
     exact ⟨hbel.trans (b1.mono hbel.size),.inr ⟨rfl,bad (.inl hv)⟩⟩
    ·go_wp2_with fail
     refine (aF4 X v hat hXl _).mono ?_;rintro e w1 ⟨rfl,b1⟩;have hL1:=hLr.below b1
     go_wp2_with fail
     refine (aIB v (by omega) (by omega) _ hL1).mono ?_;rintro e w2 ⟨rfl,b2⟩;have b12:=b1.trans (b2.mono b1.size);have hrow2:=aD hrow b12;have HR2:=hrow2.cell hk;have hfz2:=hrow2.frozen ns.length;rw [←hu] at HR2;clear HR hfz hrow
     by_cases he:Lib.decDigits v.toNat=X
     ·subst he
      go_wp2
      go_roundw
      case rel =>
       refine ⟨ns++[v.toNat],by simp;omega,?_,?_,by simp,?_,(hbel.trans (b12.mono hbel.size)).setCell (Nat.le_refl _) _⟩
       ·rw [List.length_append,List.length_singleton,List.take_add_one,htk,List.map_append]
        have:=HX.out;simp only [List.getD_eq_getElem?_getD,List.getElem?_eq_getElem hk,Option.getD_some] at this
        simp [List.getElem?_eq_getElem hk,←this]
       ·intro n hn
        simp only [List.mem_append,List.mem_singleton] at hn
        rcases hn with hn | rfl
        ·exact hbd n hn
        ·omega
       ·refine (hrow2.set ns.length (.int .i64 v)).congr (fun i hi=>?_)
        rw [←aH7,show ((v.toNat:Nat):Int)=v by omega]
      case measure=>simp [intOf];omega
     ·go_wp2
      ·go_ret2
       exact ⟨hbel.trans (b12.mono hbel.size),.inr ⟨rfl,bad (.inr he)⟩⟩
      ·rename_i h
       simp [he] at h
   | _ =>
    go_wp2_with fail
    refine (aHL X (by simp [hat]) hXl _ hLr).mono ?_;rintro e w1 ⟨x,t,p,rfl,b1⟩;go_wp2
    go_ret2
    refine ⟨hbel.trans (b1.mono hbel.size),.inr ⟨rfl,zO hk (fun n hn e=>?_)⟩⟩;rw [←HX.out] at e;rw [e,tZ n hn] at hat
    cases hat
  ·obtain rfl:ws=ns.map Lib.decDigits:=by
    rw [←htk,List.take_of_length_le (by omega)]
   go_wp2
   go_ret2
   simp only [List.length_map] at hrow
   exact ⟨hbel,.inl ⟨ns,w.heap.size,rfl,hbd,by simp,Nat.le_refl _,hrow⟩⟩
theorem bget {X:List UInt8}{k:Nat}(h:k<X.length):(⟨X.toArray⟩:ByteArray)[k]'(by show k<X.toArray.size;simpa using h)=X[k]:=rfl
theorem aKX (n:Nat) (hn:n<100) (h1:1<(Lib.decDigits n).length):(Lib.decDigits n)[0]'(by omega)≠48:=by
 by_cases h:n<10
 ·rw [Lib.decDigits_one h] at h1;simp at h1
 ·have e:=Lib.decDigits_two h hn
  have:(Lib.decDigits n)[0]'(by omega)=UInt8.ofNat (48+n / 10):=by simp [e]
  rw [this];intro e2;have:=congrArg UInt8.toNat e2;rw [UInt8.toNat_ofNat'] at this
  simp at this
  omega
theorem nG (X:List UInt8) (w:World) (hl:X.length≤2000) :
  Calls Tryz.prog 73 #[.string ⟨X.toArray⟩] w fun e w'=>(∃d,w'=w.drewN d)∧((∃n,X=Lib.decDigits n∧n<1000000∧e=.returned (.int .i64 n))∨(e=.returned (.int .i64 (-1))∧∀n,n<100→X≠Lib.decDigits n)):=by
 have hc:((⟨X.toArray⟩:ByteArray).size:Int)=X.length:=by show ((X.toArray.size:Nat):Int)=_;simp
 by_cases h0:X=[]
 ·subst h0
  go_enter Tryz.func73,Tryz.ntmps73
  go_wp2
  go_ret
  exact ⟨⟨0,rfl⟩,.inr ⟨rfl,fun n _ e=>aLR n e.symm⟩⟩
 ·have hne:¬X.length=0:=fun e=>h0 (List.eq_nil_of_length_eq_zero e)
  have hX1:0<X.length:=by omega
  have hE:(X==[])=false:=by cases X with | nil=>exact absurd rfl h0 | cons=>rfl
  by_cases h6:6<X.length
  ·have h6':(6:Int)<(X.length:Int):=by omega
   go_enter Tryz.func73,Tryz.ntmps73
   go_wp2
   go_ret
   exact ⟨⟨0,rfl⟩,.inr ⟨rfl,fun n hn e=>by have:=rC n hn;rw [←e] at this;omega⟩⟩
  ·have h6':¬(6:Int)<(X.length:Int):=by omega
   by_cases h1:1<X.length
   ·have h1':(1:Int)<(X.length:Int):=by omega
    go_enter Tryz.func73,Tryz.ntmps73
    go_wp2
    ·rename_i hz
     go_ret
     refine ⟨⟨0,rfl⟩,.inr ⟨rfl,fun n hn e=>?_⟩⟩;have hz2:X[0]=48:=by
      rw [bget hX1,beq_iff_eq] at hz
      exact UInt8.toNat_inj.1 (by show X[0].toNat=48;omega)
     subst e
     exact aKX n hn h1 hz2
    ·have hz0:(((⟨X.toArray⟩:ByteArray)[0]'(by show 0<X.toArray.size;simpa using hX1)).toNat:Int)≠48:=by
      have h:((((⟨X.toArray⟩:ByteArray)[0]'(by show 0<X.toArray.size;simpa using hX1)).toNat:Int)==48)=false:=by assumption
      simpa using h
     have hzz:1<X.length→X.head?≠some 48:=fun _ e=>by
      rw [List.head?_eq_getElem?,List.getElem?_eq_getElem hX1] at e
      injection e with e
      apply hz0
      rw [bget hX1,e]
      rfl
     go_loopw [3,4] (fun n i wr=>∃k:Nat,k≤X.length∧i=.int .i64 k∧n=.int .i64 ((valD (X.take k):Nat):Int)∧(∀c∈X.take k,48≤c.toNat∧c.toNat≤57)∧valD (X.take k)<10^k∧∃d,wr=w.drewN d) (fun _ i _=>X.length - (intOf i).toNat)
     case atStart=>exact ⟨0,Nat.zero_le _,rfl,rfl,by simp,by simp [valD],0,rfl⟩
     case round =>
      obtain ⟨k,hk,rfl,rfl,hdig,hval,d,rfl⟩:=hrel
      by_cases hk2:k<X.length
      ·by_cases hd:48≤X[k].toNat∧X[k].toNat≤57
       ·have g1:¬(((⟨X.toArray⟩:ByteArray)[k]'(by show k<X.toArray.size;simpa using hk2)).toNat:Int)<48:=by rw [bget hk2];omega
        have g2:¬(57:Int)<(((⟨X.toArray⟩:ByteArray)[k]'(by show k<X.toArray.size;simpa using hk2)).toNat:Int):=(by rw [bget hk2];omega)
        have hv6:valD (X.take k)<1000000:=by
         have:10^k≤10^6:=Nat.pow_le_pow_right (by omega) (by omega)
         omega
        have HV:Hid (valD (X.take (k+1))=10*valD (X.take k)+(X[k].toNat - 48)):=by
         show valD (X.take (k+1))=_
         rw [List.take_add_one,List.getElem?_eq_getElem hk2];exact nZ _ _
        have HD:Hid (∀c∈X.take (k+1),48≤c.toNat∧c.toNat≤57):=by
         show ∀c∈X.take (k+1),_
         intro c hcm;rw [List.take_add_one,List.getElem?_eq_getElem hk2] at hcm;simp only [Option.toList_some,List.mem_append,List.mem_singleton] at hcm
         rcases hcm with hcm | rfl
         ·exact hdig c hcm
         ·exact hd
        go_wp2
        go_roundw
        case rel =>
         refine ⟨k+1,by omega,by go_num,?_,HD.out,by rw [HV.out,Nat.pow_succ];omega,d,rfl⟩;rw [HV.out];have hB:=congrArg UInt8.toNat (bget hk2)
         congr 1
         omega
        case measure=>simp [intOf];omega
       ·have fin:∀n,n<100→X≠Lib.decDigits n:=fun n _ e=>hd (by subst e;exact mQ n _ (List.getElem_mem hk2))
        go_wp2
        all_goals first
         | (go_ret;exact ⟨⟨d,rfl⟩,.inr ⟨rfl,fin⟩⟩)
         | (exfalso;simp only [bget hk2] at *;simp_all;omega)
      ·have hkX:X.take k=X:=List.take_of_length_le (by omega)
       rw [hkX] at hdig hval;have hfin:=aCP X.length X rfl h0 hdig hzz;have h106:valD X<1000000:=by
        have:10^k≤10^6:=Nat.pow_le_pow_right (by omega) (by omega)
        omega
       have HX:Hid (X.take k=X):=hkX;clear hkX;go_wp2
       go_ret
       exact ⟨⟨d,rfl⟩,.inl ⟨valD X,hfin.symm,h106,by show Ending.returned (.int .i64 ((valD (X.take k):Nat):Int))=_;rw [HX.out]⟩⟩
   ·have hzz:1<X.length→X.head?≠some 48:=fun e=>absurd e h1
    have h1':¬(1:Int)<(X.length:Int):=by omega
    go_enter Tryz.func73,Tryz.ntmps73
    go_wp2
    go_loopw [3,4] (fun n i wr=>∃k:Nat,k≤X.length∧i=.int .i64 k∧n=.int .i64 ((valD (X.take k):Nat):Int)∧(∀c∈X.take k,48≤c.toNat∧c.toNat≤57)∧valD (X.take k)<10^k∧∃d,wr=w.drewN d) (fun _ i _=>X.length - (intOf i).toNat)
    case atStart=>exact ⟨0,Nat.zero_le _,rfl,rfl,by simp,by simp [valD],0,rfl⟩
    case round =>
     obtain ⟨k,hk,rfl,rfl,hdig,hval,d,rfl⟩:=hrel
     by_cases hk2:k<X.length
     ·by_cases hd:48≤X[k].toNat∧X[k].toNat≤57
      ·have g1:¬(((⟨X.toArray⟩:ByteArray)[k]'(by show k<X.toArray.size;simpa using hk2)).toNat:Int)<48:=by rw [bget hk2];omega
       have g2:¬(57:Int)<(((⟨X.toArray⟩:ByteArray)[k]'(by show k<X.toArray.size;simpa using hk2)).toNat:Int):=(by rw [bget hk2];omega)
       have hv6:valD (X.take k)<1000000:=by
        have:10^k≤10^6:=Nat.pow_le_pow_right (by omega) (by omega)
        omega
       have HV:Hid (valD (X.take (k+1))=10*valD (X.take k)+(X[k].toNat - 48)):=by
        show valD (X.take (k+1))=_
        rw [List.take_add_one,List.getElem?_eq_getElem hk2];exact nZ _ _
       have HD:Hid (∀c∈X.take (k+1),48≤c.toNat∧c.toNat≤57):=by
        show ∀c∈X.take (k+1),_
        intro c hcm;rw [List.take_add_one,List.getElem?_eq_getElem hk2] at hcm;simp only [Option.toList_some,List.mem_append,List.mem_singleton] at hcm
        rcases hcm with hcm | rfl
        ·exact hdig c hcm
        ·exact hd
       go_wp2
       go_roundw
       case rel =>
        refine ⟨k+1,by omega,by go_num,?_,HD.out,by rw [HV.out,Nat.pow_succ];omega,d,rfl⟩;rw [HV.out];have hB:=congrArg UInt8.toNat (bget hk2)
        congr 1
        omega
       case measure=>simp [intOf];omega
      ·have fin:∀n,n<100→X≠Lib.decDigits n:=fun n _ e=>hd (by subst e;exact mQ n _ (List.getElem_mem hk2))
       go_wp2
       all_goals first
        | (go_ret;exact ⟨⟨d,rfl⟩,.inr ⟨rfl,fin⟩⟩)
        | (exfalso;simp only [bget hk2] at *;simp_all;omega)
     ·have hkX:X.take k=X:=List.take_of_length_le (by omega)
      rw [hkX] at hdig hval;have hfin:=aCP X.length X rfl h0 hdig hzz;have h106:valD X<1000000:=by
       have:10^k≤10^6:=Nat.pow_le_pow_right (by omega) (by omega)
       omega
      have HX:Hid (X.take k=X):=hkX;clear hkX;go_wp2
      go_ret
      exact ⟨⟨d,rfl⟩,.inl ⟨valD X,hfin.symm,h106,by show Ending.returned (.int .i64 ((valD (X.take k):Nat):Int))=_;rw [HX.out]⟩⟩
theorem oJ {M R rest:List UInt8}{ns:List Nat}(h0:ns≠[]) (h:eF M R ns rest):∃l,R=M++l++10 :: rest∧(10:UInt8) ∉ l∧dP l=ns.map Lib.decDigits:=by
 obtain ⟨ms,m,rfl⟩:∃ms m,ns=ms++[m]:=⟨_,_,(List.dropLast_concat_getLast h0).symm⟩
 refine ⟨pre ms++Lib.decDigits m,?_,sC ms m,lI ms m⟩;unfold eF at h;rw [h,gI]
 simp
theorem uH {M R l b rest:List UInt8}{ns:List Nat}(hM:(10:UInt8) ∉ M) (hR:R=M++l++10 :: b) (hl:(10:UInt8) ∉ l) (h0:ns≠[]) (h:eF M R ns rest):dP l=ns.map Lib.decDigits∧rest=b:=by
 obtain ⟨l',h1,h2,h3⟩:=oJ h0 h;have e:(M++l)++ 10 :: b=(M++l')++ 10 :: rest:=hR.symm.trans h1;obtain ⟨e1,e2⟩:=gP (by simp [hM,hl]) (by simp [hM,h2]) e;rw [List.append_cancel_left e1]
 exact ⟨h3,e2.symm⟩
theorem wM {M R l b:List UInt8}{ns:List Nat}(hR:R=M++l++10 :: b) (hw:dP l=ns.map Lib.decDigits):eF M R ns b:=by
 obtain ⟨ms,m,rfl,rfl⟩:=aEW _ l ns hw rfl;unfold eF;rw [hR,gI]
 simp
theorem aM2 {M R:List UInt8}{c:Nat}(hc:0<c) (h:(10:UInt8) ∉ R):dC M c R=none:=eQ (fun ns rest h1 _ h3=>by
 obtain ⟨l,e,_⟩:=oJ (fun e=>by rw [e] at h1;simp at h1;omega) h3
 exact h (by rw [e];simp))
theorem aKV {M R a b:List UInt8}{c:Nat}(hc:0<c) (hM:(10:UInt8) ∉ M) (hR:R=a++10 :: b) (ha:(10:UInt8) ∉ a) (hp:M.isPrefixOf a=false):dC M c R=none:=eQ (fun ns rest h1 _ h3=>by
 obtain ⟨l,e,hl,_⟩:=oJ (fun e=>by rw [e] at h1;simp at h1;omega) h3;obtain ⟨e1,_⟩:=gP ha (by simp [hM,hl]) (hR.symm.trans e);rw [e1,List.isPrefixOf_iff_prefix.2 (List.prefix_append M l)] at hp
 cases hp)
theorem aIP {M R l b:List UInt8}{c:Nat}(hc:0<c) (hM:(10:UInt8) ∉ M) (hR:R=M++l++10 :: b) (hl:(10:UInt8) ∉ l) (hp:(dP l).length≠c):dC M c R=none:=eQ (fun ns rest h1 _ h3=>by
 obtain ⟨e,_⟩:=uH hM hR hl (fun e=>by rw [e] at h1;simp at h1;omega) h3;rw [e,List.length_map] at hp
 exact hp h1)
theorem aKW {M R l b:List UInt8}{c:Nat}(hc:0<c) (hM:(10:UInt8) ∉ M) (hR:R=M++l++10 :: b) (hl:(10:UInt8) ∉ l) (hp:aCK (dP l)):dC M c R=none:=eQ (fun ns rest h1 h2 h3=>by
 obtain ⟨e,_⟩:=uH hM hR hl (fun e=>by rw [e] at h1;simp at h1;omega) h3;obtain ⟨n,hn,h100⟩:=hp ns e;have:=h2 n hn
 omega)
theorem hi9:(Tryz.prog.info? 9).map (fun i=>(i.zero,i.size,i.bytes))=some (some (.string ByteArray.empty),1,16):=by kernel_rfl
theorem rA (l:List UInt8):(⟨l.toArray⟩:ByteArray).size=l.length:=by show l.toArray.size=_;simp
theorem aB2 (R:List UInt8) (h:(10:UInt8) ∉ R) (hl:R.length≤2000) (w:World) (hL:Lib0 w) :
  Calls Tryz.prog 94 #[.string ⟨R.toArray⟩,.string ⟨#[10]⟩] w fun e w'=>e=.returned (.tuple #[.string ⟨R.toArray⟩,.string ⟨([]:List UInt8).toArray⟩,.bool false])∧∃n,w'=w.drewN n:=by
 obtain ⟨m,hm⟩:=hL.mx;have c:=Any.strings_Cut aFR ⟨R.toArray⟩ ⟨#[10]⟩ m w (by rw [rA];omega) hm;have e:Lib.cut (⟨R.toArray⟩:ByteArray).data.toList (⟨#[10]⟩:ByteArray).data.toList=(R,[],false):=by simpa using aHX 10 R h
 rw [e] at c
 exact c
theorem aDQ (a b:List UInt8) (h:(10:UInt8) ∉ a) (hl:(a++10 :: b).length≤2000) (w:World) (hL:Lib0 w) :
  Calls Tryz.prog 94 #[.string ⟨(a++10 :: b).toArray⟩,.string ⟨#[10]⟩] w fun e w'=>e=.returned (.tuple #[.string ⟨a.toArray⟩,.string ⟨b.toArray⟩,.bool true])∧∃n,w'=w.drewN n:=by
 obtain ⟨m,hm⟩:=hL.mx;have c:=Any.strings_Cut aFR ⟨(a++10 :: b).toArray⟩ ⟨#[10]⟩ m w (by rw [rA];omega) hm;have e:Lib.cut (⟨(a++10 :: b).toArray⟩:ByteArray).data.toList (⟨#[10]⟩:ByteArray).data.toList=(a,b,true):=aKJ 10 a b h;rw [e] at c
 exact c
theorem sF (a M:List UInt8) (w:World) :
  Calls Tryz.prog 95 #[.string ⟨a.toArray⟩,.string ⟨M.toArray⟩] w fun e w'=>e=.returned (.tuple #[.string ⟨(Lib.trimPrefix a M).toArray⟩,.bool (M.isPrefixOf a)])∧w'=w :=
 Any.strings_CutPrefix aKR ⟨a.toArray⟩ ⟨M.toArray⟩ w
theorem xG (l:List UInt8) (hl:l.length≤2000) (w:World) (hL:Lib0 w) :
  Calls Tryz.prog 96 #[.string ⟨l.toArray⟩,.string ⟨#[32]⟩] w fun e w'=>e=.returned (.slice (some ⟨w.heap.size,0,none⟩) (dP l).length (dP l).length)∧w'=w.alloc (.cells (pS (dP l)).toArray 9):=by
 obtain ⟨m,hm⟩:=hL.mx;have c:=Any.strings_Split aKS hi9 ⟨l.toArray⟩ ⟨#[32]⟩ m w (by rw [rA];omega) hm (by decide);obtain ⟨e1,e2⟩:=aC5 ⟨l.toArray⟩;rw [e1,e2] at c;have e3:((dP (⟨l.toArray⟩:ByteArray).data.toList).map (fun w=>(⟨w.toArray⟩:ByteArray))).map Value.string=pS (dP l):=by simp [pS]
 rw [e3] at c
 exact c
theorem aDF (a M:List UInt8) (h:a.length≤1000):(Lib.trimPrefix a M).length≤2000:=by
 unfold Lib.trimPrefix
 split
 ·simp;omega
 ·omega
theorem aHC (l:List UInt8):(dP l).length≤l.length+1∧∀x∈dP l,x.length≤l.length:=by
 induction l with
 | nil=>simp [dP]
 | cons c l ih =>
  unfold dP
  split
  ·refine ⟨by simp;omega,fun x hx=>?_⟩
   simp only [List.mem_cons] at hx
   rcases hx with rfl | hx
   ·simp
   ·have:=ih.2 x hx;simp;omega
  ·split
   ·simp
   ·rename_i w ws e
    rw [e] at ih;simp only [List.length_cons,List.mem_cons,forall_eq_or_imp] at ih ⊢
    exact ⟨by omega,by omega,fun x hx=>by have:=ih.2.2 x hx;omega⟩
structure RdAt (w:World) (rb:Nat) (R:List UInt8) (line:Nat):Prop where
 c0:w.cell? ⟨rb,0,none⟩=some (.string ⟨R.toArray⟩)
 c1:w.cell? ⟨rb,1,none⟩=some (.int .i64 line)
 f0:w.frozen? ⟨rb,0,none⟩=false
 f1:w.frozen? ⟨rb,1,none⟩=false
theorem RdAt.lt {w:World}{rb:Nat}{R:List UInt8}{line:Nat}(h:RdAt w rb R line):rb<w.heap.size:=World.block_lt_of_cell? _ _ h.c0
theorem RdAt.blk {w w':World}{rb:Nat}{R:List UInt8}{line:Nat}(h:RdAt w rb R line) (hb:w'.heap[rb]?=w.heap[rb]?):RdAt w' rb R line :=
 ⟨(World.cell?_of_block (w:=w) hb).trans h.c0,(World.cell?_of_block (w:=w) hb).trans h.c1,(World.frozen?_of_block (w:=w) hb).trans h.f0,(World.frozen?_of_block (w:=w) hb).trans h.f1⟩
theorem RdAt.next {w:World}{rb:Nat}{R:List UInt8}{line:Nat}(h:RdAt w rb R line):RdAt (w.setCell ⟨rb,1,none⟩ (.int .i64 (line+1:Nat))) rb R (line+1) :=
 ⟨by rw [World.cell?_setCell_other _ _ _ _ (by simp)];exact h.c0,World.cell?_setCell_same' _ _ _ (by rw [h.c1];rfl),by rw [World.frozen?_setCell];exact h.f0,by rw [World.frozen?_setCell];exact h.f1⟩
theorem RdAt.left {w:World}{rb:Nat}{R b:List UInt8}{line:Nat}(h:RdAt w rb R line):RdAt (w.setCell ⟨rb,0,none⟩ (.string ⟨b.toArray⟩)) rb b line :=
 ⟨World.cell?_setCell_same' _ _ _ (by rw [h.c0];rfl),by rw [World.cell?_setCell_other _ _ _ _ (by simp)];exact h.c1,by rw [World.frozen?_setCell];exact h.f0,by rw [World.frozen?_setCell];exact h.f1⟩
theorem RdAt.below {w w':World}{rb:Nat}{R:List UInt8}{line:Nat}(h:RdAt w rb R line) (hb:Below w.heap.size w w'):RdAt w' rb R line:=h.blk (hb.block rb h.lt)
theorem RdAt.drewN {w:World}{rb:Nat}{R:List UInt8}{line:Nat}(h:RdAt w rb R line) (n:Nat):RdAt (w.drewN n) rb R line:=⟨h.c0,h.c1,h.f0,h.f1⟩
theorem Lib0.drewN {w:World}(h:Lib0 w) (n:Nat):Lib0 (w.drewN n):=⟨h.mx,h.es,h.er,h.tab⟩
theorem Lib0.set {w:World}(h:Lib0 w){rb i:Nat}(hr:¬jO rb) (v:Value):Lib0 (w.setCell ⟨rb,i,none⟩ v):=h.blocks (fun _ hk=>Deep.blk_setCell_other _ _ _ _ (fun e=>hr (by rw [←show _=rb from e];exact hk)))
theorem Span.set1 (w:World) (rb i:Nat) (v:Value):Span rb (rb+1) w (w.setCell ⟨rb,i,none⟩ v):=Span.setCell (Span.refl rb (rb+1) w) (p:=⟨rb,i,none⟩) (Nat.le_refl rb) (Nat.lt_succ_self rb) v
theorem Span.drewN {lo hi:Nat}{a b:World}(h:Span lo hi a b) (n:Nat):Span lo hi a (b.drewN n):=⟨h.os,h.tape,h.output,h.size,h.block⟩
def aKB (M:List UInt8) (c:Nat) (R:List UInt8) (line rb:Nat) (w:World) (e:Ending) (w':World):Prop :=
 Span rb (rb+1) w w'∧((∃ns g R',Got M c R ns R'∧(∀n∈ns,n<9223372036854775808)∧RdAt w' rb R' (line+1)∧R'.length≤R.length∧e=.returned (.tuple #[.slice (some ⟨g,0,none⟩) ns.length ns.length,.bool true])∧w.heap.size≤g∧w'.rowIs g 3 ns.length (upTo ns))∨
  (∃R',dC M c R=none∧RdAt w' rb R' (line+1)∧e=.returned (.tuple #[.slice none 0 0,.bool false])))
theorem gQ (M R:List UInt8) (c line rb:Nat) (w:World) (hL:Lib0 w) (hg:¬jO rb) (hr:RdAt w rb R line) (hR:R.length≤1000) (hM:M.length≤1000) (hM10:(10:UInt8) ∉ M) (hc:0<c) (hc5:c≤5) (hl:line≤100) :
  Calls Tryz.prog 70 #[.pointer (some ⟨rb,0,none⟩),.string ⟨M.toArray⟩,.int .i64 c] w (aKB M c R line rb w):=by
 have hcast:((line+1:Nat):Int)=(line:Int)+1:=by omega
 obtain ⟨w1,hw1⟩:∃w1,w1=w.setCell ⟨rb,1,none⟩ (.int .i64 ((line:Int)+1)):=⟨_,rfl⟩
 have hn:RdAt w1 rb R (line+1):=by rw [hw1,←hcast];exact hr.next
 have hL1:Lib0 w1:=by rw [hw1];exact hL.set hg _
 have hsp:Span rb (rb+1) w w1:=by rw [hw1];exact Span.set1 _ _ _ _
 have c0:=hr.c0;have c1:=hr.c1;have f1:=hr.f1;have hn0:=hn.c0;rw [hw1] at hn0
 by_cases h10:(10:UInt8)∈R
 ·obtain ⟨a,b,rfl,ha⟩:=List.eq_append_cons_of_mem h10
  have hal:a.length≤1000:=by simp at hR;omega
  have hbl:b.length≤1000:=by simp at hR;omega
  go_enter Tryz.func70,Tryz.ntmps70
  go_wp2_with fail
  rw [←hw1];refine (aDQ a b ha (by omega) _ hL1).mono ?_;rintro e w2 ⟨rfl,d,rfl⟩;clear hw1 hn0 c0 c1 f1;have hL2:=hL1.drewN d;have hn2:=hn.drewN d;have hsp2:=hsp.drewN d;obtain ⟨w2,hw2⟩:∃w2,w2=w1.drewN d:=⟨_,rfl⟩
  rw [←hw2] at hL2 hn2 hsp2 ⊢;clear hw2 hL1 hn hsp
  cases hp:M.isPrefixOf a
  ·go_wp2_with fail
   refine (sF a M _).mono ?_;rw [hp];rintro e w3 ⟨rfl,hw⟩;have hw:=hw.symm;subst hw;have htl:(Lib.trimPrefix a M).length≤2000:=aDF a M (by omega)
   go_wp2_with fail
   refine (xG _ htl _ hL2).mono ?_;rintro e w4 ⟨rfl,rfl⟩;go_wp2
   go_ret2
   exact ⟨hsp2.alloc _,.inr ⟨_,aKV hc hM10 rfl ha hp,hn2.below ((Below.refl _ _).alloc (Nat.le_refl _) _),rfl⟩⟩
  ·obtain ⟨l,rfl⟩:=List.isPrefixOf_iff_prefix.1 hp
   have ht:Lib.trimPrefix (M++l) M=l:=(by simp [Lib.trimPrefix,Lib.hasPrefix])
   have hl10:(10:UInt8) ∉ l:=fun e=>ha (by simp [e])
   have hll:l.length≤2000:=(by simp at hal;omega)
   have hwl:=aHC l
   go_wp2_with fail
   refine (sF _ M _).mono ?_;rw [hp,ht];rintro e w3 ⟨rfl,hw⟩;have hw:=hw.symm;subst hw
   go_wp2_with fail
   refine (xG _ hll _ hL2).mono ?_;rintro e w4 ⟨rfl,hw4⟩;have hb4:w4.heap[w2.heap.size]?=some (.cells (pS (dP l)).toArray 9 (0,0)):=(by rw [hw4];exact heap_alloc_new _ _)
   have b4:Below w2.heap.size w2 w4:=(by rw [hw4];exact (Below.refl _ _).alloc (Nat.le_refl _) _)
   have hL4:=hL2.below b4;have hn4:=hn2.below b4;have hsp4:Span rb (rb+1) w w4:=(by rw [hw4];exact hsp2.alloc _)
   have hne:w2.heap.size≠rb:=(by have:=hn2.lt;omega)
   clear hw4
   by_cases hcount:c=(dP l).length
   ·subst hcount
    have q0:=hn4.c0;have qf:=hn4.f0;obtain ⟨w5,hw5⟩:∃w5,w5=w4.setCell ⟨rb,0,none⟩ (.string ⟨b.toArray⟩):=⟨_,rfl⟩
    have hn5:RdAt w5 rb b (line+1):=(by rw [hw5];exact hn4.left)
    have hL5:Lib0 w5:=(by rw [hw5];exact hL4.set hg _)
    have hsp5:Span rb (rb+1) w w5:=(by rw [hw5];exact hsp4.trans (Span.set1 _ _ _ _))
    have hb5:w5.heap[w2.heap.size]?=some (.cells (pS (dP l)).toArray 9 (0,0)):=(by rw [hw5,Deep.blk_setCell_other _ _ _ _ hne];exact hb4)
    have no:=wQ (dP l) w2.heap.size (0,0) w5 hL5 hb5 (by omega) (fun x hx=>by have:=hwl.2 x hx;omega);clear hb4 b4 hwl hb5
    go_wp2_with fail
    rw [←hw5];refine no.mono ?_;rintro e w6 ⟨b6,hres⟩;have hn6:=hn5.below b6;have hsp6:=hsp5.trans (Span.of_below b6)
    rcases hres with ⟨ns,g,hws,hbd,rfl,hge,hrow⟩ | ⟨rfl,hno⟩
    ·go_wp2
     go_ret2
     refine ⟨hsp6,.inl ⟨ns,g,b,⟨by rw [hws];simp,wM (l:=l) (by simp) hws⟩,hbd,hn6,by simp;omega,rfl,Nat.le_trans hsp5.size hge,hrow⟩⟩
    ·go_wp2
     go_ret2
     exact ⟨hsp6,.inr ⟨b,aKW (l:=l) (b:=b) hc hM10 (by simp) hl10 hno,hn6,rfl⟩⟩
   ·go_wp2
    go_ret2
    exact ⟨hsp4,.inr ⟨_,aIP (l:=l) (b:=b) hc hM10 (by simp) hl10 (fun e=>hcount e.symm),hn4,rfl⟩⟩
 ·go_enter Tryz.func70,Tryz.ntmps70
  go_wp2_with fail
  rw [←hw1];refine (aB2 R h10 (by omega) _ hL1).mono ?_;rintro e w2 ⟨rfl,d,rfl⟩;have hL2:=hL1.drewN d;have hn2:=hn.drewN d;have hsp2:=hsp.drewN d;obtain ⟨w2,hw2⟩:∃w2,w2=w1.drewN d:=⟨_,rfl⟩
  rw [←hw2] at hL2 hn2 hsp2 ⊢;clear hw1 hn0 c0 c1 f1 hw2
  go_wp2_with fail
  refine (sF R M _).mono ?_;rintro e w3 ⟨rfl,hw⟩;have hw:=hw.symm;subst hw;have htl:(Lib.trimPrefix R M).length≤2000:=aDF R M (by omega)
  go_wp2_with fail
  refine (xG _ htl _ hL2).mono ?_;rintro e w4 ⟨rfl,rfl⟩;go_wp2
  go_ret2
  exact ⟨hsp2.alloc _,.inr ⟨_,aM2 hc h10,hn2.below ((Below.refl _ _).alloc (Nat.le_refl _) _),rfl⟩⟩
end Go.Proofs.YtgpaajdfkekjiaaGreatDoor
namespace Go.Proofs.YtgpaajdfkekjiaaGreatDoor
set_option maxHeartbeats 8000000
set_option maxRecDepth 100000
open Go
theorem aAO (az:List Nat) (b:List UInt8):dP (pre az++b)=az.map Lib.decDigits++dP b:=by
 induction az with
 | nil=>rfl
 | cons a az ih=>rw [pre,List.append_assoc,List.cons_append,iU _ _ (vT a),ih];rfl
theorem aE5 {mark l rest rest':List UInt8}{ms:List Nat}{m:Nat}(h10:(10:UInt8) ∉ l) (h:mark++l++10 :: rest=mark++dV (ms++[m])++ rest'):l=pre ms++Lib.decDigits m∧rest=rest':=by
 rw [gI] at h;have e:l++10 :: rest=(pre ms++Lib.decDigits m)++ 10 :: rest':=by
  have:mark++(l++10 :: rest)=mark++((pre ms++Lib.decDigits m)++ 10 :: rest'):=by simpa using h
  exact List.append_cancel_left this
 exact gP h10 (sC _ _) e
theorem aGX {ns:List Nat}{count:Nat}(h0:0<count) (hl:ns.length=count):∃ms m,ns=ms++[m] :=
 ⟨_,_,(List.dropLast_concat_getLast (fun e=>by rw [e] at hl;simp at hl;omega)).symm⟩
theorem lM {mark l rest:List UInt8}{count:Nat}{az:List Nat}{X:List UInt8}(h0:0<count) (h10:(10:UInt8) ∉ l) (hl:l=pre az++X∨∃b,l=pre az++X++32 :: b) (h32:(32:UInt8) ∉ X) (hX:∀n,n<100→X≠Lib.decDigits n) :
  dC mark count (mark++l++10 :: rest)=none:=by
 refine eQ (fun ns rest' hlen hs h=>?_);obtain ⟨ms,m,rfl⟩:=aGX h0 hlen;obtain ⟨e,-⟩:=aE5 h10 h;have hw:X∈dP l:=by
  rcases hl with rfl | ⟨b,rfl⟩
  ·rw [aAO,oB X h32];simp
  ·rw [List.append_assoc,aAO,iU X b h32];simp
 rw [e,lI] at hw;obtain ⟨n,hn,rfl⟩:=List.mem_map.1 hw
 exact hX n (hs n hn) rfl
theorem aCV {mark l rest:List UInt8}{az:List Nat}{n:Nat}(hl:l=pre az++Lib.decDigits n):eF mark (mark++l++10 :: rest) (az++[n]) rest:=by
 unfold eF;rw [gI,hl]
 simp
theorem rV {mark l rest:List UInt8}{count:Nat}{az:List Nat}{n:Nat}(h0:0<count) (hl:l=pre az++Lib.decDigits n) (hc:az.length+1≠count):dC mark count (mark++l++10 :: rest)=none:=by
 refine eQ (fun ns rest' hlen _ h=>?_);obtain ⟨e,-⟩:=wL (fun e=>by rw [e] at hlen;simp at hlen;omega) (by simp) h (aCV (mark:=mark) (rest:=rest) hl);rw [e] at hlen
 simp at hlen
 omega
theorem wK {mark r:List UInt8}{count:Nat}(h10:(10:UInt8) ∉ r):dC mark count r=none:=by
 refine eQ (fun ns rest' hlen _ h=>?_);unfold eF at h;rw [h] at h10;unfold dV at h10
 simp at h10
theorem lK {mark a rest:List UInt8}{count:Nat}(h0:0<count) (hm:(10:UInt8) ∉ mark) (ha:(10:UInt8) ∉ a) (hp:a.take mark.length≠mark):dC mark count (a++10 :: rest)=none:=by
 refine eQ (fun ns rest' hlen _ h=>?_);obtain ⟨ms,m,rfl⟩:=aGX h0 hlen;unfold eF at h;rw [gI] at h;have e:a++10 :: rest=(mark++(pre ms++Lib.decDigits m))++ 10 :: rest':=by simpa using h
 obtain ⟨e1,-⟩:=gP ha (by simp only [List.mem_append,not_or];exact ⟨hm,by simpa using sC ms m⟩) e
 apply hp
 rw [e1]
 simp
end Go.Proofs.YtgpaajdfkekjiaaGreatDoor
