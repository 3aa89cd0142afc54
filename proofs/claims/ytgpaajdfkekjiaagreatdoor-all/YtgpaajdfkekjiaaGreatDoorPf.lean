/-
  A part of the proof of the statement All: texts of ours, made small by program (blanks, names).
-/
import Derived.Test.YtgpaajdfkekjiaaGreatDoorPe
namespace Go.Proofs.YtgpaajdfkekjiaaGreatDoor
set_option maxHeartbeats 8000000
set_option maxRecDepth 100000
open Go.RowKit
theorem dH {s last below:Int}{b:Bool}(w:World) (hb:below=last+1) (hs1:-9223372036854775808≤s) (hs2:s≤9223372036854775807) (h:inB s (2*last+1)=b) :
  Calls Tryz.prog 74 #[.int .i64 s,.int .i64 below] w fun e w'=>e=.returned (.bool b)∧w'=w:=by
 subst hb;exact aBD w hs1 hs2 h
def upL (last:Int) (ls:List (Int×Int)) (k:Nat):Bool:=decide (∀i,i<k→cJ last (ls.getD i (0,0))=true)
def upO (last:Int) (os:List Int) (k:Nat):Bool:=decide (∀i,i<k→inB (os.getD i 0) (2*last+1)=true)
def upG (b:Int) (gs:List (Int×Int)) (k:Nat):Bool:=decide (∀i,i<k→dG (b+(i:Nat)) (gs.getD i (0,0))=true)
theorem xO (p:Nat→Bool) (k:Nat):decide (∀i,i<k+1→p i=true)=(decide (∀i,i<k→p i=true)&&p k):=by
 rw [Bool.eq_iff_iff];simp only [decide_eq_true_eq,Bool.and_eq_true]
 exact ⟨fun h=>⟨fun i hi=>h i (by omega),h k (by omega)⟩,fun h=>kD h.1 h.2⟩
theorem aJN (last:Int) (ls:List (Int×Int)) (k:Nat):upL last ls (k+1)=(upL last ls k&&cJ last (ls.getD k (0,0))):=xO (fun i=>cJ last (ls.getD i (0,0))) k
theorem aJP (last:Int) (os:List Int) (k:Nat):upO last os (k+1)=(upO last os k&&inB (os.getD k 0) (2*last+1)):=xO (fun i=>inB (os.getD i 0) (2*last+1)) k
theorem aJJ (b:Int) (gs:List (Int×Int)) (k:Nat):upG b gs (k+1)=(upG b gs k&&dG (b+k) (gs.getD k (0,0))):=xO (fun i=>dG (b+(i:Nat)) (gs.getD i (0,0))) k
theorem aJO (last:Int) (ls:List (Int×Int)):upL last ls 0=true:=decide_eq_true (fun i hi=>absurd hi (Nat.not_lt_zero i))
theorem aJQ (last:Int) (os:List Int):upO last os 0=true:=decide_eq_true (fun i hi=>absurd hi (Nat.not_lt_zero i))
theorem aJK (b:Int) (gs:List (Int×Int)):upG b gs 0=true:=decide_eq_true (fun i hi=>absurd hi (Nat.not_lt_zero i))
theorem aI6 {x:Int}(h0:¬x=0) (h1:¬x=1):inB x 1=false:=decide_eq_false (by omega)
theorem aI7 {x:Int}(h0:x=0):inB x 1=true:=decide_eq_true (by omega)
theorem aI8 {x:Int}(h0:x=1):inB x 1=true:=decide_eq_true (by omega)
theorem aAE {n:Int}{l o g:Nat}(h:n<0∨4<n∨4<l∨30<g∨4<o):eJ n l o g=false:=by
 unfold eJ inB
 rcases h with h | h | h | h | h<;>simp<;>omega
theorem aC2 {n:Int}{l o g:Nat}(h0:0≤n) (h1:n≤4) (h2:l≤4) (h3:g≤30) (h4:o≤4):eJ n l o g=true:=by
 unfold eJ inB
 simp;omega
def Fits (x:Int):Prop:=-9223372036854775808≤x∧x≤9223372036854775807
theorem bH (n:Int) (la ga oa:Option Addr) (lc gc oc:Nat) (ls gs:List (Int×Int)) (os:List Int) (w:World)
  (hL:PairsAt w la ls) (hG:PairsAt w ga gs) (hO:IntsAt w oa os) (fL:∀i,i<ls.length→Fits (ls.getD i (0,0)).1) (fG:∀i,i<gs.length→Fits (gs.getD i (0,0)).1∧Fits (gs.getD i (0,0)).2) (fO:∀i,i<os.length→Fits (os.getD i 0)) :
  Calls Tryz.prog 46 #[.agg #[.int .i64 n,.slice la ls.length lc,.slice ga gs.length gc,.slice oa os.length oc]] w fun e w' =>
   e=.returned (.bool (aG n ls gs os))∧Below w.heap.size w w':=by
 by_cases hbad:n<0∨4<n∨4<ls.length∨30<gs.length∨4<os.length
 ·have hr:aG n ls gs os=false:=by unfold aG;rw [aAE hbad];rfl
  rw [hr]
  by_cases h0:n<0
  ·go_enter Tryz.func46,Tryz.ntmps46
   go_wp2
   go_ret
   exact ⟨rfl,(Below.refl _ _).alloc (Nat.le_refl _) _⟩
  ·by_cases h1:4<n
   ·go_enter Tryz.func46,Tryz.ntmps46
    go_wp2
    go_ret
    exact ⟨rfl,(Below.refl _ _).alloc (Nat.le_refl _) _⟩
   ·by_cases h2:4<ls.length
    ·go_enter Tryz.func46,Tryz.ntmps46
     go_wp2
     go_ret
     exact ⟨rfl,(Below.refl _ _).alloc (Nat.le_refl _) _⟩
    ·by_cases h3:30<gs.length
     ·go_enter Tryz.func46,Tryz.ntmps46
      go_wp2
      go_ret
      exact ⟨rfl,(Below.refl _ _).alloc (Nat.le_refl _) _⟩
     ·have h4:4<os.length:=by omega
      clear hbad
      go_enter Tryz.func46,Tryz.ntmps46
      go_wp2
      go_ret
      exact ⟨rfl,(Below.refl _ _).alloc (Nat.le_refl _) _⟩
 ·obtain ⟨h0,h1,h2,h3,h4⟩:0≤n∧n≤4∧ls.length≤4∧gs.length≤30∧os.length≤4:=by omega
  clear hbad;have hr:aG n ls gs os=(upL (n+ls.length+gs.length) ls ls.length&&upO (n+ls.length+gs.length) os os.length&&upG (n+ls.length) gs gs.length):=by
   unfold aG;rw [aC2 h0 h1 h2 h3 h4]
   show (true&&upL _ ls ls.length&&upG _ gs gs.length&&upO _ os os.length)=_
   cases upL (n+ls.length+gs.length) ls ls.length<;>cases upO (n+ls.length+gs.length) os os.length<;>cases upG (n+ls.length) gs gs.length<;>rfl
  rw [hr];clear hr;have bel0:Below w.heap.size w (w.alloc (.cells #[.int .i64 n,.slice la ls.length lc,.slice ga gs.length gc,.slice oa os.length oc] 34)):=(Below.refl _ _).alloc (Nat.le_refl _) _
  go_enter Tryz.func46,Tryz.ntmps46
  go_wp2_with (go_at_call 48;refine (aH6 n _ _ _ ls.length _ gs.length _ _ _ _ h0 h1 (by omega) (by omega)).mono ?_;rintro e w' ⟨rfl,rfl⟩)
  go_loopw [4,5,6,7] (fun ok i _ _ wr=>∃k:Nat,k≤ls.length∧i=.int .i64 k∧ok=.bool (upL (n+ls.length+gs.length) ls k)∧
    wr.cell? ⟨w.heap.size,0,none⟩=some (.int .i64 n)∧wr.cell? ⟨w.heap.size,1,none⟩=some (.slice la ls.length lc)∧wr.cell? ⟨w.heap.size,2,none⟩=some (.slice ga gs.length gc)∧wr.cell? ⟨w.heap.size,3,none⟩=some (.slice oa os.length oc)∧w.heap.size<wr.heap.size∧Below w.heap.size w wr)
   (fun _ i _ _ _=>ls.length - (intOf i).toNat)
  case atStart =>
   refine ⟨0,Nat.zero_le _,rfl,(congrArg Value.bool (aJO _ _)).symm,?_,?_,?_,?_,by simp;omega,bel0.alloc (by simp) _⟩
   ·rw [World.cell?_alloc_past _ _ _ (by simp)];simp
   ·rw [World.cell?_alloc_past _ _ _ (by simp)];simp
   ·rw [World.cell?_alloc_past _ _ _ (by simp)];simp
   ·rw [World.cell?_alloc_past _ _ _ (by simp)];simp
  case round =>
   obtain ⟨k,hk,rfl,rfl,q0,q1,q2,q3,hz,hbel⟩:=hrel
   by_cases hk2:k<ls.length
   ·obtain ⟨b,off,rfl,hlt,hc⟩:=hL.get (by omega)
    have hcy:wr.cell? ⟨b,off+k*2,none⟩=some (.int .i64 (ls.getD k (0,0)).1):=(hbel.cell (p:=⟨b,_,none⟩) hlt).trans (hc k hk2).1;have hcz:wr.cell? ⟨b,off+k*2+1,none⟩=some (.int .i64 (ls.getD k (0,0)).2):=(hbel.cell (p:=⟨b,_,none⟩) hlt).trans (hc k hk2).2;obtain ⟨fx1,fx2⟩:=fL k hk2;have hu:=aJN (n+ls.length+gs.length) ls k;obtain ⟨x,hX⟩:∃x,x=ls.getD k (0,0):=⟨_,rfl⟩
    rw [←hX] at hcy hcz fx1 fx2 hu;obtain ⟨x1,x2⟩:=x;dsimp only at hcy hcz fx1 fx2;have HU:Hid (upL (n+ls.length+gs.length) ls (k+1)=(upL (n+ls.length+gs.length) ls k&&(inB x1 (2*(n+ls.length+gs.length)+1)&&inB x2 1))):=hu;clear hX hc hu fL fG fO;have fin:∀c:Bool,c=(upL (n+ls.length+gs.length) ls k&&(inB x1 (2*(n+ls.length+gs.length)+1)&&inB x2 1))→Value.bool c=Value.bool (upL (n+ls.length+gs.length) ls (k+1)):=fun c h=>by rw [HU.out,h]
    have r0:∀o j v,wr.cell? ⟨w.heap.size,j,none⟩=some v→(wr.alloc o).cell? ⟨w.heap.size,j,none⟩=some v:=fun o j v h=>by rw [World.cell?_alloc_past _ _ _ hz];exact h
    have FIN:Hid (∀c:Bool,c=(upL (n+ls.length+gs.length) ls k&&(inB x1 (2*(n+ls.length+gs.length)+1)&&inB x2 1))→Value.bool c=Value.bool (upL (n+ls.length+gs.length) ls (k+1))):=fin;have R0:Hid (∀o j v,wr.cell? ⟨w.heap.size,j,none⟩=some v→(wr.alloc o).cell? ⟨w.heap.size,j,none⟩=some v):=r0;clear fin r0
    cases hok:upL (n+ls.length+gs.length) ls k
    ·go_wp2_with (go_at_call 74;refine (dH _ rfl fx1 fx2 rfl).mono ?_;rintro e w' ⟨rfl,hw⟩;have hw:=hw.symm;subst hw)
     go_roundw
     case rel=>exact ⟨k+1,by omega,by go_num,FIN.out _ (by rw [hok];rfl),R0.out _ _ _ q0,R0.out _ _ _ q1,R0.out _ _ _ q2,R0.out _ _ _ q3,by simp;omega,hbel.alloc (by omega) _⟩
     case measure=>simp [intOf];omega
    ·cases hq:inB x1 (2*(n+ls.length+gs.length)+1)
     ·go_wp2_with (go_at_call 74;refine (dH _ rfl fx1 fx2 hq).mono ?_;rintro e w' ⟨rfl,hw⟩;have hw:=hw.symm;subst hw)
      go_roundw
      case rel=>exact ⟨k+1,by omega,by go_num,FIN.out _ (by rw [hok,hq];rfl),R0.out _ _ _ q0,R0.out _ _ _ q1,R0.out _ _ _ q2,R0.out _ _ _ q3,by simp;omega,hbel.alloc (by omega) _⟩
      case measure=>simp [intOf];omega
     ·by_cases e0:x2=0
      ·go_wp2_with (go_at_call 74;refine (dH _ rfl fx1 fx2 hq).mono ?_;rintro e w' ⟨rfl,hw⟩;have hw:=hw.symm;subst hw)
       go_roundw
       case rel=>exact ⟨k+1,by omega,by go_num,FIN.out _ (by rw [hok,hq,aI7 e0];rfl),R0.out _ _ _ q0,R0.out _ _ _ q1,R0.out _ _ _ q2,R0.out _ _ _ q3,by simp;omega,hbel.alloc (by omega) _⟩
       case measure=>simp [intOf];omega
      ·by_cases e1:x2=1
       ·go_wp2_with (go_at_call 74;refine (dH _ rfl fx1 fx2 hq).mono ?_;rintro e w' ⟨rfl,hw⟩;have hw:=hw.symm;subst hw)
        go_roundw
        case rel=>exact ⟨k+1,by omega,by go_num,FIN.out _ (by rw [hok,hq,aI8 e1];rfl),R0.out _ _ _ q0,R0.out _ _ _ q1,R0.out _ _ _ q2,R0.out _ _ _ q3,by simp;omega,hbel.alloc (by omega) _⟩
        case measure=>simp [intOf];omega
       ·go_wp2_with (go_at_call 74;refine (dH _ rfl fx1 fx2 hq).mono ?_;rintro e w' ⟨rfl,hw⟩;have hw:=hw.symm;subst hw)
        go_roundw
        case rel=>exact ⟨k+1,by omega,by go_num,FIN.out _ (by rw [hok,hq,aI6 e0 e1];simp [e0,e1]),R0.out _ _ _ q0,R0.out _ _ _ q1,R0.out _ _ _ q2,R0.out _ _ _ q3,by simp;omega,hbel.alloc (by omega) _⟩
        case measure=>simp [intOf];omega
   ·obtain rfl:k=ls.length:=by omega
    obtain ⟨LB,hLB⟩:∃LB,LB=upL (n+ls.length+gs.length) ls ls.length:=⟨_,rfl⟩
    obtain ⟨w4,rfl⟩:∃w4,w4=wr:=⟨wr,rfl⟩
    rw [←hLB];have HLB:Hid (LB=upL (n+ls.length+gs.length) ls ls.length):=hLB;clear hLB fL;go_wp2
    go_loop [4,8,9] (fun ok i _=>∃k:Nat,k≤os.length∧i=.int .i64 k∧ok=.bool (LB&&upO (n+ls.length+gs.length) os k)) (fun _ i _=>os.length - (intOf i).toNat)
    case atStart=>exact ⟨0,Nat.zero_le _,rfl,by rw [aJQ,Bool.and_true]⟩
    case round =>
     obtain ⟨k,hk,rfl,rfl⟩:=hrel
     by_cases hk2:k<os.length
     ·obtain ⟨b,off,rfl,hlt,hc⟩:=hO.get (by omega)
      have hcy:w4.cell? ⟨b,off+k,none⟩=some (.int .i64 (os.getD k 0)):=(hbel.cell (p:=⟨b,_,none⟩) hlt).trans (hc k hk2);obtain ⟨fx1,fx2⟩:=fO k hk2;have hu:=aJP (n+ls.length+gs.length) os k;obtain ⟨x,hX⟩:∃x,x=os.getD k 0:=⟨_,rfl⟩
      rw [←hX] at hcy fx1 fx2 hu;have HU:Hid (upO (n+ls.length+gs.length) os (k+1)=(upO (n+ls.length+gs.length) os k&&inB x (2*(n+ls.length+gs.length)+1))):=hu;obtain ⟨U,hU⟩:∃U,U=(LB&&upO (n+ls.length+gs.length) os k):=⟨_,rfl⟩
      rw [←hU];have HE:Hid (U=(LB&&upO (n+ls.length+gs.length) os k)):=hU;clear hX hc hu fO fG hU;have fin:∀c:Bool,c=(U&&inB x (2*(n+ls.length+gs.length)+1))→Value.bool c=Value.bool (LB&&upO (n+ls.length+gs.length) os (k+1)):=fun c h=>by rw [HU.out,h,HE.out,Bool.and_assoc]
      have FIN:Hid (∀c:Bool,c=(U&&inB x (2*(n+ls.length+gs.length)+1))→Value.bool c=Value.bool (LB&&upO (n+ls.length+gs.length) os (k+1))):=fin;clear fin
      cases U
      ·go_wp2_with (go_at_call 74;refine (dH _ rfl fx1 fx2 rfl).mono ?_;rintro e w' ⟨rfl,hw⟩;have hw:=hw.symm;subst hw)
       go_round
       case rel=>exact ⟨k+1,by omega,by go_num,FIN.out _ rfl⟩
       case measure=>simp [intOf];omega
      ·go_wp2_with (go_at_call 74;refine (dH _ rfl fx1 fx2 rfl).mono ?_;rintro e w' ⟨rfl,hw⟩;have hw:=hw.symm;subst hw)
       go_round
       case rel=>exact ⟨k+1,by omega,by go_num,FIN.out _ rfl⟩
       case measure=>simp [intOf];omega
     ·obtain rfl:k=os.length:=by omega
      obtain ⟨OB,hOB⟩:∃OB,OB=(LB&&upO (n+ls.length+gs.length) os os.length):=⟨_,rfl⟩
      rw [←hOB];have HOB:Hid (OB=(LB&&upO (n+ls.length+gs.length) os os.length)):=hOB;clear hOB fO;go_wp2
      go_loop [4,10,11,12,13] (fun ok i _ _ _=>∃k:Nat,k≤gs.length∧i=.int .i64 k∧ok=.bool (OB&&upG (n+ls.length) gs k)) (fun _ i _ _ _=>gs.length - (intOf i).toNat)
      case atStart=>exact ⟨0,Nat.zero_le _,rfl,by rw [aJK,Bool.and_true]⟩
      case round =>
       obtain ⟨k,hk,rfl,rfl⟩:=hrel
       by_cases hk2:k<gs.length
       ·obtain ⟨b,off,rfl,hlt,hc⟩:=hG.get (by omega)
        have hcy:w4.cell? ⟨b,off+k*2,none⟩=some (.int .i64 (gs.getD k (0,0)).1):=(hbel.cell (p:=⟨b,_,none⟩) hlt).trans (hc k hk2).1;have hcz:w4.cell? ⟨b,off+k*2+1,none⟩=some (.int .i64 (gs.getD k (0,0)).2):=(hbel.cell (p:=⟨b,_,none⟩) hlt).trans (hc k hk2).2;obtain ⟨⟨fx1,fx2⟩,fy1,fy2⟩:=fG k hk2;have hu:=aJJ (n+ls.length) gs k;obtain ⟨x,hX⟩:∃x,x=gs.getD k (0,0):=⟨_,rfl⟩
        rw [←hX] at hcy hcz fx1 fx2 fy1 fy2 hu;obtain ⟨x1,x2⟩:=x;dsimp only at hcy hcz fx1 fx2 fy1 fy2;have HU:Hid (upG (n+ls.length) gs (k+1)=(upG (n+ls.length) gs k&&(inB x1 (2*(n+ls.length+k)+1)&&inB x2 (2*(n+ls.length+k)+1)))):=hu;obtain ⟨U,hU⟩:∃U,U=(OB&&upG (n+ls.length) gs k):=⟨_,rfl⟩
        rw [←hU];have HE:Hid (U=(OB&&upG (n+ls.length) gs k)):=hU;clear hX hc hu fG hU;have fin:∀c:Bool,c=(U&&(inB x1 (2*(n+ls.length+k)+1)&&inB x2 (2*(n+ls.length+k)+1)))→Value.bool c=Value.bool (OB&&upG (n+ls.length) gs (k+1)):=fun c h=>by rw [HU.out,h,HE.out,Bool.and_assoc]
        have FIN:Hid (∀c:Bool,c=(U&&(inB x1 (2*(n+ls.length+k)+1)&&inB x2 (2*(n+ls.length+k)+1)))→Value.bool c=Value.bool (OB&&upG (n+ls.length) gs (k+1))):=fin;clear fin;have hbw:n+(ls.length:Int)+1+(k:Int)=n+ls.length+k+1:=(by omega)
        have HBW:Hid (n+(ls.length:Int)+1+(k:Int)=n+ls.length+k+1):=hbw;clear hbw
        cases hq1:inB x1 (2*(n+ls.length+k)+1)<;> cases hq2:inB x2 (2*(n+ls.length+k)+1)<;> cases U <;>
        ·go_wp2_with (first | (go_at_call_of 74 (Value.int IntKind.i64 x1);refine (dH _ HBW.out fx1 fx2 hq1).mono ?_;rintro e w' ⟨rfl,hw⟩;have hw:=hw.symm;subst hw) | (go_at_call_of 74 (Value.int IntKind.i64 x2);refine (dH _ HBW.out fy1 fy2 hq2).mono ?_;rintro e w' ⟨rfl,hw⟩;have hw:=hw.symm;subst hw))
         go_round
         case rel=>exact ⟨k+1,by omega,by go_num,FIN.out _ (by rw [hq1,hq2];rfl)⟩
         case measure=>simp [intOf];omega
       ·obtain rfl:k=gs.length:=by omega
        go_wp2
        go_ret
        exact ⟨aU (by rw [HOB.out,HLB.out]),hbel⟩
theorem eA {n:Int}{la ga oa:Option Addr}{lc gc oc:Nat}{ls gs:List (Int×Int)}{os:List Int}{b:Bool}(w:World)
  (hL:PairsAt w la ls) (hG:PairsAt w ga gs) (hO:IntsAt w oa os) (fL:∀i,i<ls.length→Fits (ls.getD i (0,0)).1) (fG:∀i,i<gs.length→Fits (gs.getD i (0,0)).1∧Fits (gs.getD i (0,0)).2) (fO:∀i,i<os.length→Fits (os.getD i 0)) (h:aG n ls gs os=b) :
  Calls Tryz.prog 46 #[.agg #[.int .i64 n,.slice la ls.length lc,.slice ga gs.length gc,.slice oa os.length oc]] w fun e w' =>
   e=.returned (.bool b)∧Below w.heap.size w w':=by subst h;exact bH n la ga oa lc gc oc ls gs os w hL hG hO fL fG fO

theorem aA7 (n:Int) (la ga oa:Option Addr) (lc gc oc:Nat) (ls gs:List (Int×Int)) (os:List Int) (iv:Value) (w:World)
  (hL:PairsAt w la ls) (hG:PairsAt w ga gs) (hO:IntsAt w oa os) (fL:∀i,i<ls.length→Fits (ls.getD i (0,0)).1) (fG:∀i,i<gs.length→Fits (gs.getD i (0,0)).1∧Fits (gs.getD i (0,0)).2) (fO:∀i,i<os.length→Fits (os.getD i 0)) (hr:aG n ls gs os=false) :
  Calls Tryz.prog 25 #[.agg #[.int .i64 n,.slice la ls.length lc,.slice ga gs.length gc,.slice oa os.length oc],iv] w fun e w' =>
   e=.returned (.tuple #[.slice none 0 0,.int .i64 2])∧Below w.heap.size w w':=by
 have bel0:Below w.heap.size w (w.alloc (.cells #[.int .i64 n,.slice la ls.length lc,.slice ga gs.length gc,.slice oa os.length oc] 34)):=(Below.refl _ _).alloc (Nat.le_refl _) _;have hL0:=hL.below bel0;have hG0:=hG.below bel0;have hO0:=hO.below bel0
 go_enter Tryz.func25,Tryz.ntmps25
 go_wp2_with (go_at_call 46;refine (eA _ hL0 hG0 hO0 fL fG fO hr).mono ?_;rintro e w1 ⟨rfl,b1⟩)
 go_ret2
 exact ⟨rfl,bel0.trans (b1.mono (by simp))⟩
def upI (n:Nat) (ins:List Int) (k:Nat):Bool:=decide (∀i,i<k→inB (ins.getD i 0) (2^n - 1)=true)
theorem aJL (n:Nat) (ins:List Int) (k:Nat):upI n ins (k+1)=(upI n ins k&&inB (ins.getD k 0) (2^n - 1)):=xO (fun i=>inB (ins.getD i 0) (2^n - 1)) k
theorem aJM (n:Nat) (ins:List Int):upI n ins 0=true:=decide_eq_true (fun i hi=>absurd hi (Nat.not_lt_zero i))
theorem aLO {x:Int}{M:Nat}(h:¬x<0):decide ((M:Int)≤x)=(false||!inB x ((M:Int) - 1)):=by
 unfold inB
 by_cases h2:(M:Int)≤x
 ·rw [decide_eq_true h2,decide_eq_false (by omega)];rfl
 ·rw [decide_eq_false h2,decide_eq_true (by omega)];rfl
theorem aDW (n:Nat) (ins:List Int):dU n ins=!(decide (50<ins.length)||!upI n ins ins.length):=by
 unfold dU upI;rw [Bool.eq_iff_iff];simp only [decide_eq_true_eq,Bool.not_eq_true',Bool.or_eq_false_iff,decide_eq_false_iff_not,Bool.not_eq_false']
 exact and_congr (by omega) Iff.rfl
def aD2 (n:Nat) (ls gs:List (Int×Int)) (os ins:List Int) (k:Nat):List Nat:=(List.range k).map (wS n ls gs os ins)
theorem aBR (n:Nat) (ls gs:List (Int×Int)) (os ins:List Int) (k:Nat):aD2 n ls gs os ins (k+1)=aD2 n ls gs os ins k++[wS n ls gs os ins k]:=by
 simp [aD2,List.range_succ]
theorem qI {X w5:World}{B b o:Nat}{c0 c1 c2 c3 c4:Value}(h5:Below X.heap.size X w5) (hB:B<X.heap.size) (hb:b<X.heap.size)
  (h0:X.cell? ⟨B,0,none⟩=some c0) (h1:X.cell? ⟨B,1,none⟩=some c1) (h2:X.cell? ⟨B,2,none⟩=some c2) (h3:X.cell? ⟨B,3,none⟩=some c3) (h4:X.cell? ⟨b,o,none⟩=some c4) :
  w5.cell? ⟨B,0,none⟩=some c0∧w5.cell? ⟨B,1,none⟩=some c1∧w5.cell? ⟨B,2,none⟩=some c2∧w5.cell? ⟨B,3,none⟩=some c3∧w5.cell? ⟨b,o,none⟩=some c4 :=
 ⟨((bZ h5).1 _ _ hB).trans h0,((bZ h5).1 _ _ hB).trans h1,((bZ h5).1 _ _ hB).trans h2,((bZ h5).1 _ _ hB).trans h3,((bZ h5).1 _ _ hb).trans h4⟩
theorem mN {B:Nat}{w w':World}(h:Below B w.drew w'):Below B w w':=⟨h.os,h.tape,h.output,h.size,h.block⟩

theorem aA6 (n:Nat) (la ga oa ia:Option Addr) (lc gc oc ic:Nat) (ls gs:List (Int×Int)) (os ins:List Int) (w:World) (hm:ins.length≤maxLen)
  (hL:PairsAt w la ls) (hG:PairsAt w ga gs) (hO:IntsAt w oa os) (hI:IntsAt w ia ins) (fL:∀i,i<ls.length→Fits (ls.getD i (0,0)).1) (fG:∀i,i<gs.length→Fits (gs.getD i (0,0)).1∧Fits (gs.getD i (0,0)).2) (fO:∀i,i<os.length→Fits (os.getD i 0)) (hr:aG n ls gs os=true) :
  Calls Tryz.prog 25 #[.agg #[.int .i64 n,.slice la ls.length lc,.slice ga gs.length gc,.slice oa os.length oc],.slice ia ins.length ic] w fun e w' =>
   (dU n ins=false→e=.returned (.tuple #[.slice none 0 0,.int .i64 3])∧Below w.heap.size w w')∧
   (dU n ins=true→∃v,e=.returned (.tuple #[v,.int .i64 0])∧w'.ownsRow w.heap.size 3 1 v ins.length (aP (outs n ls gs os ins))∧Below w.heap.size w w'):=by
 unfold maxLen at hm;have bel0:Below w.heap.size w (w.alloc (.cells #[.int .i64 n,.slice la ls.length lc,.slice ga gs.length gc,.slice oa os.length oc] 34)):=(Below.refl _ _).alloc (Nat.le_refl _) _;have hL0:=hL.below bel0;have hG0:=hG.below bel0;have hO0:=hO.below bel0;obtain ⟨⟨_,hn4,hl4,ho4,hg30⟩,hokl,hokg,hoko⟩:=cD hr;have hn4:n≤4:=by omega
 obtain ⟨i0,hi0,hz0,hz1,hz2⟩:=info_parts Tryz.infoInt;have hinit:∀i,i<ls.length→inB (ls.getD i (0,0)).2 1=true:=fun i h=>by have:=hokl i h;simp only [cJ,Bool.and_eq_true] at this;exact this.2
 have hnext:∀i,i<ls.length→inB (ls.getD i (0,0)).1 (2*(n+ls.length+gs.length)+1)=true:=fun i h=>by have:=hokl i h;simp only [cJ,Bool.and_eq_true] at this;exact this.1
 obtain ⟨M,hM⟩:∃M:Nat,(M:Int)=2^n:=⟨2^n,by simp⟩
 have hM16:M≤16:=by
  have hp:(2:Nat)^n≤2^4:=Nat.pow_le_pow_right (by omega) hn4;have e:M=2^n:=by exact_mod_cast hM
  omega
 have hsh:IntKind.i64.wrap ((2:Int)^n)=(M:Int):=by rw [←hM,cZ];omega
 have HM:Hid ((M:Int)=2^n):=hM;clear hM
 go_enter Tryz.func25,Tryz.ntmps25
 go_wp2_with (go_at_call 46;refine (eA _ hL0 hG0 hO0 fL fG fO hr).mono ?_;rintro e w1 ⟨rfl,b1⟩)
 have bel1:Below w.heap.size w w1:=bel0.trans (b1.mono (by simp));have y1:w.heap.size<w1.heap.size:=Nat.lt_of_lt_of_le (by simp) b1.size;have qq:∀j,w1.cell? ⟨w.heap.size,j,none⟩=(w.alloc (.cells #[.int .i64 n,.slice la ls.length lc,.slice ga gs.length gc,.slice oa os.length oc] 34)).cell? ⟨w.heap.size,j,none⟩:=fun j=>(bZ b1).1 _ _ (by simp)
 have q0:w1.cell? ⟨w.heap.size,0,none⟩=some (.int .i64 n):=by rw [qq];simp
 have q1:w1.cell? ⟨w.heap.size,1,none⟩=some (.slice la ls.length lc):=by rw [qq];simp
 have q2:w1.cell? ⟨w.heap.size,2,none⟩=some (.slice ga gs.length gc):=by rw [qq];simp
 have q3:w1.cell? ⟨w.heap.size,3,none⟩=some (.slice oa os.length oc):=by rw [qq];simp
 clear qq b1 bel0 hL0 hG0 hO0 fL fG fO
 go_loopw [7,8] (fun bad i wr=>∃k:Nat,k≤ins.length∧i=.int .i64 k∧bad=.bool (decide (50<ins.length)||!upI n ins k)∧Below w1.heap.size w1 wr) (fun _ i _=>ins.length - (intOf i).toNat)
 case atStart=>exact ⟨0,Nat.zero_le _,rfl,by rw [aJM];simp;omega,Below.refl _ _⟩
 case round =>
  obtain ⟨k,hk,rfl,rfl,hb⟩:=hrel
  by_cases hk2:k<ins.length
  ·obtain ⟨b,off,rfl,hlt,hc⟩:=hI.get (by omega)
   have hcy:wr.cell? ⟨b,off+k,none⟩=some (.int .i64 (ins.getD k 0)):=((hb.cell (p:=⟨b,_,none⟩) (Nat.lt_of_lt_of_le hlt bel1.size)).trans (bel1.cell (p:=⟨b,_,none⟩) hlt)).trans (hc k hk2);have p0:=(hb.cell (p:=⟨w.heap.size,0,none⟩) y1).trans q0;have hu:=aJL n ins k;obtain ⟨x,hX⟩:∃x,x=ins.getD k 0:=⟨_,rfl⟩
   rw [←hX] at hcy hu;obtain ⟨U,hU⟩:∃U,U=(decide (50<ins.length)||!upI n ins k):=⟨_,rfl⟩
   have fin:∀c:Bool,c=(U||!inB x (2^n - 1))→Value.bool c=Value.bool (decide (50<ins.length)||!upI n ins (k+1)):=fun c h=>by
    rw [hu,h,hU];cases decide (50<ins.length)<;> cases upI n ins k<;>rfl
   have FIN:Hid (∀c:Bool,c=(U||!inB x (2^n - 1))→Value.bool c=Value.bool (decide (50<ins.length)||!upI n ins (k+1))):=fin;rw [←hU];have hk3:(k:Int)<(ins.length:Int):=(by omega)
   have hk0:(0:Int)≤(k:Int):=(by omega)
   clear hX hc hu hU fin hinit hnext hokl hokg hoko q0 q1 q2 q3
   cases U
   ·by_cases hx0:x<0
    ·have hd:decide (x<0)=true:=by simpa using hx0
     go_wp2
     go_quiet (fail)
     go_wp2
     go_roundw
     case rel=>exact ⟨k+1,by omega,by go_num,FIN.out _ (by unfold inB;rw [decide_eq_false (by omega)];rfl),hb.trans (below_drewN (Below.refl _ _) _ |>.mono hb.size)⟩
     case measure=>simp [intOf];omega
    ·have hd:decide (x<0)=false:=by simpa using hx0
     go_wp2
     go_quiet (fail)
     go_wp2
     go_roundw
     case rel=>exact ⟨k+1,by omega,by go_num,FIN.out _ (by rw [←HM.out];exact aLO (by omega)),hb.trans (below_drewN (Below.refl _ _) _ |>.mono hb.size)⟩
     case measure=>simp [intOf];omega
   ·go_wp2
    go_quiet (fail)
    go_wp2
    go_roundw
    case rel=>exact ⟨k+1,by omega,by go_num,FIN.out _ rfl,hb.trans (below_drewN (Below.refl _ _) _ |>.mono hb.size)⟩
    case measure=>simp [intOf];omega
  ·obtain rfl:k=ins.length:=by omega
   have hup:=aDW n ins;obtain ⟨U,hU⟩:∃U,U=(decide (50<ins.length)||!upI n ins ins.length):=⟨_,rfl⟩
   rw [←hU] at hup;rw [←hU];have HUP:Hid (dU n ins=!U):=hup;obtain ⟨w2,rfl⟩:∃w2,w2=wr:=⟨wr,rfl⟩
   have bel2:Below w.heap.size w w2:=bel1.trans (hb.mono (by omega));have p0:=(hb.cell (p:=⟨w.heap.size,0,none⟩) y1).trans q0;have p1:=(hb.cell (p:=⟨w.heap.size,1,none⟩) y1).trans q1;have p2:=(hb.cell (p:=⟨w.heap.size,2,none⟩) y1).trans q2;have p3:=(hb.cell (p:=⟨w.heap.size,3,none⟩) y1).trans q3;have y2:w.heap.size<w2.heap.size:=Nat.lt_of_lt_of_le y1 hb.size;clear hU hup q0 q1 q2 q3 hb bel1 y1 hsh
   cases U
   ·have hL2:=hL.below bel2
    have hin:dU n ins=true:=(by rw [HUP.out];rfl)
    have h50:ins.length≤50:=(of_decide_eq_true hin).1
    go_wp2_with (go_at_call 52;refine (mM _ la lc _ _ ls _ hl4 hL2 hinit).mono ?_;rintro e w3 ⟨rfl,b3⟩)
    have bel3:Below w.heap.size w w3:=bel2.trans (b3.mono (by omega));have y3:w.heap.size<w3.heap.size:=Nat.lt_of_lt_of_le y2 b3.size;have r0:=((bZ b3).1 _ 0 y2).trans p0;have r1:=((bZ b3).1 _ 1 y2).trans p1;have r2:=((bZ b3).1 _ 2 y2).trans p2;have r3:=((bZ b3).1 _ 3 y2).trans p3;clear p0 p1 p2 p3 b3 bel2 hL2 hokl hinit y2
    go_loopw [9,10,11,12] (fun st v i _ wr=>∃k:Nat,k≤ins.length∧i=.int .i64 k∧st=.int .i64 (fE n ls gs ins k:Nat)∧wr.ownsRow (w.heap.size+1) 3 1 v k (aP (aD2 n ls gs os ins k))∧
      wr.cell? ⟨w.heap.size,0,none⟩=some (.int .i64 n)∧wr.cell? ⟨w.heap.size,1,none⟩=some (.slice la ls.length lc)∧wr.cell? ⟨w.heap.size,2,none⟩=some (.slice ga gs.length gc)∧wr.cell? ⟨w.heap.size,3,none⟩=some (.slice oa os.length oc)∧
      w.heap.size<wr.heap.size∧Below w.heap.size w wr) (fun _ _ i _ _=>ins.length - (intOf i).toNat)
    case atStart=>exact ⟨0,Nat.zero_le _,rfl,rfl,World.ownsRow_nil _ _ _ _,r0,r1,r2,r3,y3,bel3⟩
    case round =>
     clear r0 r1 r2 r3 y3 bel3;obtain ⟨k,hk,rfl,rfl,hown,q0,q1,q2,q3,hz,hbel⟩:=hrel
     by_cases hk2:k<ins.length
     ·obtain ⟨b,off,rfl,hlt,hc⟩:=hI.get (by omega)
      obtain ⟨X,hX,hX16⟩:=zD hn4 hin hk2;have hcy:wr.cell? ⟨b,off+k,none⟩=some (.int .i64 (X:Int)):=(by rw [←hX];exact (hbel.cell (p:=⟨b,_,none⟩) hlt).trans (hc k hk2))
      obtain ⟨S,hS⟩:∃S,S=fE n ls gs ins k:=⟨_,rfl⟩
      have hS16:S<16:=(by rw [hS];exact vF n ls gs ins k hl4)
      have HN:Hid (dB ls (vals n ls.length gs S X) ls.length=fE n ls gs ins (k+1)):=by
       show _=dB ls (vals n ls.length gs (fE n ls gs ins k) (ins.getD k 0).toNat) ls.length
       rw [hS,hX];rfl
      have HO:Hid (dZ os (vals n ls.length gs S X) os.length=wS n ls gs os ins k):=by
       unfold Hid wS;rw [hS,hX];rfl
      rw [←hS];obtain ⟨NX,hNX⟩:∃NX,NX=dB ls (vals n ls.length gs S X) ls.length:=⟨_,rfl⟩
      obtain ⟨OX,hOX⟩:∃OX,OX=dZ os (vals n ls.length gs S X) os.length:=⟨_,rfl⟩
      have hLr:=hL.below hbel;have hGr:=hG.below hbel;have hOr:=hO.below hbel;have hbz:b<wr.heap.size:=Nat.lt_of_lt_of_le hlt hbel.size;have co:=fN n S X la ga oa lc gc oc ls.length gs os wr.drew hn4 hl4 hg30 ho4 hS16 hX16 (hGr.below (Below.refl _ _).drew) (hOr.below (Below.refl _ _).drew) hokg hoko;rw [←hOX] at co;have hk0:(0:Int)≤(k:Int):=(by omega)
      have hk3:(k:Int)<(ins.length:Int):=(by omega)
      have HNX:Hid (NX=dB ls (vals n ls.length gs S X) ls.length):=hNX;have HOX:Hid (OX=dZ os (vals n ls.length gs S X) os.length):=hOX;clear hS hX hc hNX hOX;go_wp2
      go_region_held3 (fun w'=>w'.cell? ⟨w.heap.size,0,none⟩=some (.int .i64 n)∧w'.cell? ⟨w.heap.size,1,none⟩=some (.slice la ls.length lc)∧w'.cell? ⟨w.heap.size,2,none⟩=some (.slice ga gs.length gc)∧w'.cell? ⟨w.heap.size,3,none⟩=some (.slice oa os.length oc)∧w'.cell? ⟨b,off+k,none⟩=some (.int .i64 (X:Int))) (first | (simp [go_sem,q0,q1,q2,q3,hcy];done) | (exact qI b5 hz hbz q0 q1 q2 q3 hcy)) (first | (go_at_call 53;refine co.mono ?_;rintro e w5 ⟨rfl,b5⟩) | fail)
      have b5':Below wr.heap.size wr w5:=mN b5;obtain ⟨s0,s1,s2,s3,s4⟩:=qI b5' hz hbz q0 q1 q2 q3 hcy;have own5:=iK hown (fun q hq=>b5'.block q (hown.lt q hq).2);have z5:w.heap.size<w5.heap.size:=Nat.lt_of_lt_of_le hz b5'.size;have bel5:Below w.heap.size w w5:=hbel.trans (b5'.mono (by omega));clear q0 q1 q2 q3 hcy hown hLr hGr hOr co b5 b5'
      go_wp2_with (first | (at_builtin;refine wpList_append_lies _ rfl (.tmp 60) (.tmp 62) 32 rfl (w.heap.size+1) 3 i0 (.int .i64 0) 1 8 Tryz.underlying32 hi0 hz0 hz1 hz2 rfl (by omega) _ _ _ rfl (own5.alloc _) ⟨w5.heap.size,0,none⟩ 1 1 [.int .i64 OX] rfl rfl (cell_one_new _ _ _) (by simp;rfl) (by omega) (by unfold maxLen;omega) (by omega) (by simp;omega) _ rfl ?_) | fail)
      intro g' cap' w6 own6 hgrow hat hlt6;have far:∀c o,c≤w.heap.size→c<w5.heap.size→w6.cell? ⟨c,o,none⟩=w5.cell? ⟨c,o,none⟩:=fun c o hc1 hc2=>by
       rw [hgrow.cell_far ⟨c,o,none⟩ (by show c<(w5.alloc _).heap.size;simp;omega) (fun e=>by have:=(own5.lt c e.symm).1;omega),World.cell?_alloc_past _ _ _ hc2]
      have t0:=(far _ 0 (Nat.le_refl _) z5).trans s0;have t1:=(far _ 1 (Nat.le_refl _) z5).trans s1;have t2:=(far _ 2 (Nat.le_refl _) z5).trans s2;have t3:=(far _ 3 (Nat.le_refl _) z5).trans s3;have hb5:b<w5.heap.size:=Nat.lt_of_lt_of_le hlt bel5.size;have t4:=(far b (off+k) (by omega) hb5).trans s4;have bel6:Below w.heap.size w w6:=(bel5.alloc (by omega) _).grown hgrow (by simp;omega) (fun q hq=>by have:=(own5.lt q hq).1;omega);have z6:w.heap.size<w6.heap.size:=Nat.lt_of_lt_of_le z5 (Nat.le_trans (by simp) hgrow.size);have hb6:b<w6.heap.size:=Nat.lt_of_lt_of_le hlt bel6.size;have cb:=kE n S X la ga lc gc (.slice oa os.length oc) ls gs w6.drew hn4 hl4 hg30 hS16 hX16 ((hL.below bel6).below (Below.refl _ _).drew) ((hG.below bel6).below (Below.refl _ _).drew) hokg hnext;rw [←HNX.out] at cb;clear s0 s1 s2 s3 s4 own5 hgrow hat far bel5 z5 hb5;go_wp2
      go_region_held3 (fun w'=>w'.cell? ⟨w.heap.size,0,none⟩=some (.int .i64 n)∧w'.cell? ⟨w.heap.size,1,none⟩=some (.slice la ls.length lc)∧w'.cell? ⟨w.heap.size,2,none⟩=some (.slice ga gs.length gc)∧w'.cell? ⟨w.heap.size,3,none⟩=some (.slice oa os.length oc)∧w'.cell? ⟨b,off+k,none⟩=some (.int .i64 (X:Int))) (first | (simp [go_sem,t0,t1,t2,t3,t4];done) | (exact qI b7 z6 hb6 t0 t1 t2 t3 t4)) (first | (go_at_call 54;refine cb.mono ?_;rintro e w7 ⟨rfl,b7⟩) | fail)
      have b7':Below w6.heap.size w6 w7:=mN b7;obtain ⟨s0,s1,s2,s3,s4⟩:=qI b7' z6 hb6 t0 t1 t2 t3 t4;have own7:=iK own6 (fun q hq=>b7'.block q (own6.lt q hq).2);clear t0 t1 t2 t3 t4 own6 cb b7;go_wp2
      go_roundw
      case rel=>exact ⟨k+1,by omega,by go_num,by rw [HNX.out,HN.out],by rw [aBR,aZ,←HO.out,←HOX.out];exact own7,s0,s1,s2,s3,Nat.lt_of_lt_of_le z6 b7'.size,bel6.trans (b7'.mono (by omega))⟩
      case measure=>simp [intOf];omega
     ·obtain rfl:k=ins.length:=by omega
      go_wp2
      go_ret2
      exact ⟨fun h=>(by rw [hin] at h;cases h),fun _=>⟨_,rfl,hown.lower (by omega),hbel⟩⟩
   ·go_wp2
    go_ret2
    exact ⟨fun _=>⟨rfl,bel2⟩,fun h=>by rw [HUP.out] at h;cases h⟩
end Go.Proofs.YtgpaajdfkekjiaaGreatDoor
