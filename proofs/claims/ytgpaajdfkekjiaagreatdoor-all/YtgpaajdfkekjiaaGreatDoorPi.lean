/-
  A part of the proof of the statement All: texts of ours, made small by program (blanks, names).
-/
import Derived.Test.YtgpaajdfkekjiaaGreatDoorPh
import Derived.Test.YtgpaajdfkekjiaaGreatDoorPa
import Derived.ProofKit
import Derived.Deep.OwnRows
import Derived.Laws.AppendOwn
import Derived.Test.YtgpaajdfkekjiaaGreatDoorPd
import Derived.Test.YtgpaajdfkekjiaaGreatDoorPb
import Derived.Laws.FloatArith
import Derived.Test.YtgpaajdfkekjiaaGreatDoorPg
import Derived.Deep.Cut
namespace Go.Proofs.YtgpaajdfkekjiaaGreatDoor
set_option maxHeartbeats 8000000
set_option maxRecDepth 100000
namespace Duo
variable {M:Duo}
theorem aIQ:∀(n:Nat) (l:List Nat),l.Nodup→(∀x∈l,x<n)→l.length≤n:=by
 intro n
 induction n with
 | zero =>
  intro l _ h
  cases l with
  | nil=>simp
  | cons a l=>have:=h a (List.mem_cons_self ..);omega
 | succ n ih =>
  intro l hl h;have h1:=ih (l.filter (· != n)) (hl.filter _) (fun x hx=>by
   obtain ⟨h2,h3⟩:=List.mem_filter.1 hx;have:=h x h2;have h4:x≠n:=by simpa using h3
   omega)
  have h2:(l.filter (·==n)).length≤1:=by
   rw [←List.countP_eq_length_filter]
   exact List.nodup_iff_count.1 hl n
  have h3:l.length=(l.filter (·==n)).length+(l.filter (· != n)).length:=by
   rw [←List.countP_eq_length_filter,←List.countP_eq_length_filter];have:=List.length_eq_countP_add_countP (l:=l) (·==n);rw [this]
   congr 1
   apply List.countP_congr
   intro x _
   simp
  omega
theorem zH {α β:Type}(f:α→β):∀(l:List α),(∀a∈l,∀b∈l,f a=f b→a=b)→l.Nodup→(l.map f).Nodup
 | [],_,_=>by simp
 | a :: l,hf,hl=>by
  rw [List.map_cons,List.nodup_cons];obtain ⟨h1,h2⟩:=List.nodup_cons.1 hl;refine ⟨fun h=>?_,zH f l (fun x hx y hy=>hf x (List.mem_cons_of_mem _ hx) y (List.mem_cons_of_mem _ hy)) h2⟩;obtain ⟨b,hb,e⟩:=List.mem_map.1 h;have:=hf b (List.mem_cons_of_mem _ hb) a (List.mem_cons_self ..) e
  exact h1 (this▸hb)
theorem zY (l:List (Nat×Nat)) (h:l.Nodup) (hb:∀p∈l,p.1<16∧p.2<16):l.length≤256:=by
 have:=aIQ 256 (l.map fun p=>p.1*16+p.2) (zH _ _ (fun a ha b hb' e=>by
  have h1:=hb a ha;have h2:=hb b hb';have e1:a.1=b.1:=by omega
  have e2:a.2=b.2:=by omega
  exact Prod.ext e1 e2) h) (fun x hx=>by
  obtain ⟨p,hp,rfl⟩:=List.mem_map.1 hx;have:=hb p hp
  omega)
 simpa using this
def Small (M:Duo):Prop:=M.p0.1<16∧M.p0.2<16∧∀p i,(M.step p i).1<16∧(M.step p i).2<16
theorem run_small (h:M.Small) (u:List Nat):(M.run u).1<16∧(M.run u).2<16:=by
 rcases cO u with rfl | ⟨q,i,rfl⟩
 ·exact ⟨h.1,h.2.1⟩
 ·rw [M.run_snoc];exact h.2.2 _ _
structure PQ (M:Duo) (todo E:List (List Nat)):Prop where
 search:M.Search E (·∈todo)
 valid:∀x∈todo,M.Valid x
 order:∀u∈E,∀x∈todo,code u≤code x
 len:∀x∈todo,x.length≤E.length
 count:todo.length+E.length≤M.K*E.length+1
theorem PQ.start:M.PQ [[]] [] :=
 ⟨⟨fun u h=>(List.not_mem_nil h).elim,by simp,.inl (by simp),fun u h=>(List.not_mem_nil h).elim⟩,fun x hx=>by simp at hx;subst hx;exact M.valid_nil,fun u h=>(List.not_mem_nil h).elim,fun x hx=>by simp at hx;subst hx;simp,by simp⟩
theorem PQ.perm {todo todo' E:List (List Nat)}(h:M.PQ todo E) (p:todo.Perm todo'):M.PQ todo' E:=by
 obtain ⟨⟨s1,s2,s3,s4⟩,v,o,l,c⟩:=h
 exact ⟨⟨s1,s2,s3.imp (fun h=>p.mem_iff.1 h) id,fun u hu i hi=>(s4 u hu i hi).imp (fun h=>p.mem_iff.1 h) id⟩,fun x hx=>v x (p.mem_iff.2 hx),fun u hu x hx=>o u hu x (p.mem_iff.2 hx),fun x hx=>l x (p.mem_iff.2 hx),by rw [←p.length_eq];exact c⟩
theorem PQ.skip {x:List Nat}{rest E:List (List Nat)}(h:M.PQ (x :: rest) E) (hd:M.difL x=0) (hk:M.run x∈E.map M.run):M.PQ rest E:=by
 obtain ⟨⟨s1,s2,s3,s4⟩,v,o,l,c⟩:=h;obtain ⟨u,hu,hrun⟩:=List.mem_map.1 hk;have hux:=o u hu x (List.mem_cons_self ..);refine ⟨⟨s1,s2,?_,fun y hy i hi=>?_⟩,fun y hy=>v y (List.mem_cons_of_mem _ hy),fun y hy z hz=>o y hy z (List.mem_cons_of_mem _ hz),fun y hy=>l y (List.mem_cons_of_mem _ hy),by simp at c;omega⟩
 ·rcases s3 with h | h
  ·rcases List.mem_cons.1 h with e | h
   ·subst e;exact .inr ⟨hd,u,hu,hux,hrun⟩
   ·exact .inl h
  ·exact .inr h
 ·rcases s4 y hy i hi with h | h
  ·rcases List.mem_cons.1 h with e | h
   ·subst e;exact .inr ⟨hd,u,hu,hux,hrun⟩
   ·exact .inl h
  ·exact .inr h
def kids (x:List Nat) (k:Nat):List (List Nat):=(List.range k).map fun i=>x++[i]
theorem kids_succ (x:List Nat) (k:Nat):kids x (k+1)=kids x k++[x++[k]]:=by simp [kids,List.range_succ]
theorem mem_kids {x y:List Nat}{k:Nat}:y∈kids x k↔∃i,i<k∧y=x++[i]:=by
 simp only [kids,List.mem_map,List.mem_range]
 exact ⟨fun ⟨i,h,e⟩=>⟨i,h,e.symm⟩,fun ⟨i,h,e⟩=>⟨i,h,e.symm⟩⟩
theorem kids_len (x:List Nat) (k:Nat):(kids x k).length=k:=by simp [kids]
theorem PQ.expand {x:List Nat}{rest E:List (List Nat)}(h:M.PQ (x :: rest) E) (hd:M.difL x=0) (hk:M.run x ∉ E.map M.run) (hmin:∀y∈rest,code x≤code y):M.PQ (rest++kids x M.K) (E++[x]):=by
 obtain ⟨⟨s1,s2,s3,s4⟩,v,o,l,c⟩:=h;have hxE:x∈E++[x]:=by simp
 have up:∀z,(M.difL z=0∧∃u∈E,code u≤code z∧M.run u=M.run z)→(M.difL z=0∧∃u∈E++[x],code u≤code z∧M.run u=M.run z):=fun z ⟨h1,u,hu,h2⟩=>⟨h1,u,List.mem_append.2 (.inl hu),h2⟩
 have go:∀z,(z∈x :: rest∨(M.difL z=0∧∃u∈E,code u≤code z∧M.run u=M.run z))→(z∈rest++kids x M.K∨(M.difL z=0∧∃u∈E++[x],code u≤code z∧M.run u=M.run z)):=fun z hz=>by
  rcases hz with h | h
  ·rcases List.mem_cons.1 h with e | h
   ·subst e;exact .inr ⟨hd,z,hxE,Nat.le_refl _,rfl⟩
   ·exact .inl (List.mem_append.2 (.inl h))
  ·exact .inr (up z h)
 have hvx:=v x (List.mem_cons_self ..);refine ⟨⟨fun u hu=>?_,?_,go [] s3,fun u hu i hi=>?_⟩,fun y hy=>?_,fun u hu y hy=>?_,fun y hy=>?_,?_⟩
 ·rcases List.mem_append.1 hu with h | h
  ·exact s1 u h
  ·simp at h;subst h;exact hvx
 ·rw [List.map_append,List.map_singleton]
  refine List.nodup_append.2 ⟨s2,by simp,fun a ha b hb e=>?_⟩
  simp at hb
  subst hb;subst e
  exact hk ha
 ·rcases List.mem_append.1 hu with h | h
  ·exact go _ (s4 u h i hi)
  ·simp at h;subst h
   exact .inl (List.mem_append.2 (.inr (mem_kids.2 ⟨i,hi,rfl⟩)))
 ·rcases List.mem_append.1 hy with h | h
  ·exact v y (List.mem_cons_of_mem _ h)
  ·obtain ⟨i,hi,rfl⟩:=mem_kids.1 h
   exact M.valid_snoc.2 ⟨hvx,hi⟩
 ·have hy2:code x≤code y:=by
   rcases List.mem_append.1 hy with h | h
   ·exact hmin y h
   ·obtain ⟨i,hi,rfl⟩:=mem_kids.1 h
    exact rB (List.prefix_append _ _)
  rcases List.mem_append.1 hu with h | h
  ·exact Nat.le_trans (o u h x (List.mem_cons_self ..)) hy2
  ·simp at h;subst h;exact hy2
 ·rw [List.length_append,List.length_singleton]
  rcases List.mem_append.1 hy with h | h
  ·have:=l y (List.mem_cons_of_mem _ h);omega
  ·obtain ⟨i,hi,rfl⟩:=mem_kids.1 h
   have:=l x (List.mem_cons_self ..)
   simp;omega
 ·have e1:(x :: rest).length=rest.length+1:=rfl
  have e2:(rest++kids x M.K).length=rest.length+M.K:=by rw [List.length_append,kids_len]
  have e3:(E++[x]).length=E.length+1:=by simp
  have e4:M.K*(E.length+1)=M.K*E.length+M.K:=Nat.mul_succ _ _;rw [e1] at c;rw [e2,e3,e4]
  omega
theorem PQ.few {todo E:List (List Nat)}(h:M.PQ todo E) (hs:M.Small):E.length≤256:=by
 have:=zY (E.map M.run) h.search.nodup (fun p hp=>by obtain ⟨u,_,rfl⟩:=List.mem_map.1 hp;exact run_small hs u)
 simpa using this
theorem PQ.room {todo E:List (List Nat)}(h:M.PQ todo E) (hs:M.Small) (hK:M.K≤16):todo.length≤4097:=by
 have h1:=h.few hs;have h2:=h.count;have h3:M.K*E.length≤16*256:=Nat.mul_le_mul hK h1
 omega
theorem PQ.differs {x:List Nat}{rest E:List (List Nat)}(h:M.PQ (x :: rest) E) (hK:M.K≤16) (hd:M.difL x≠0) (hmin:∀y∈rest,code x≤code y):M.Says false 0 x (M.difL x) :=
 h.search.differs hK (h.valid x (List.mem_cons_self ..)) hd (fun y hy=>by
  rcases List.mem_cons.1 hy with e | hy
  ·subst e;exact Nat.le_refl _
  ·exact hmin y hy)
theorem PQ.same {E:List (List Nat)}(h:M.PQ [] E) (hK:M.K≤16):M.Says true E.length [] 0:=h.search.same hK (fun y hy=>by cases hy)
end Duo
end Go.Proofs.YtgpaajdfkekjiaaGreatDoor
namespace Go.Proofs.YtgpaajdfkekjiaaGreatDoor
set_option maxHeartbeats 8000000
set_option maxRecDepth 100000
def duo (n:Nat) (la ga:List (Int×Int)) (oa:List Int) (lb gb:List (Int×Int)) (ob:List Int):Duo where
 K:=2^n
 p0:=(cK la la.length,cK lb lb.length)
 step p i:=(dB la (vals n la.length ga p.1 i) la.length,dB lb (vals n lb.length gb p.2 i) lb.length)
 dif p i:=dZ oa (vals n la.length ga p.1 i) oa.length ^^^ dZ ob (vals n lb.length gb p.2 i) ob.length
theorem eY {n:Nat}(h:n≤4):(2:Nat)^n≤16:=Nat.pow_le_pow_right (by omega) h
theorem aKM {n:Nat}{la ga:List (Int×Int)}{oa:List Int}{lb gb:List (Int×Int)}{ob:List Int}(h:n≤4):(duo n la ga oa lb gb ob).K≤16:=eY h
theorem gK {ls:List (Int×Int)}(h:ls.length≤4):cK ls ls.length<16:=Nat.lt_of_lt_of_le (fM _ (fun _=>by omega) _) (eY h)
theorem sA {ls:List (Int×Int)}(vs:List Nat) (h:ls.length≤4):dB ls vs ls.length<16:=Nat.lt_of_lt_of_le (fM _ (fun _=>dW _ _) _) (eY h)
theorem kR {os:List Int}(vs:List Nat) (h:os.length≤4):dZ os vs os.length<16:=Nat.lt_of_lt_of_le (fM _ (fun _=>dW _ _) _) (eY h)
theorem rI {n:Nat}{la ga:List (Int×Int)}{oa:List Int}{lb gb:List (Int×Int)}{ob:List Int}(ha:la.length≤4) (hb:lb.length≤4):(duo n la ga oa lb gb ob).Small :=
 ⟨gK ha,gK hb,fun _ _=>⟨sA _ ha,sA _ hb⟩⟩
theorem aDS {n:Nat}{la ga:List (Int×Int)}{oa:List Int}{lb gb:List (Int×Int)}{ob:List Int}(hb:ob.length=oa.length) (p:Nat×Nat) (i:Nat):(duo n la ga oa lb gb ob).dif p i<2^oa.length :=
 Nat.xor_lt_two_pow (fM _ (fun _=>dW _ _) _) (hb▸fM _ (fun _=>dW _ _) _)
theorem rH {n:Nat}{la ga:List (Int×Int)}{oa:List Int}{lb gb:List (Int×Int)}{ob:List Int}(hb:ob.length=oa.length) (u:List Nat):(duo n la ga oa lb gb ob).difL u<2^oa.length:=by
 unfold Duo.difL
 split
 ·exact Nat.two_pow_pos _
 ·exact aDS hb _ _
def zs (u:List Nat):List Int:=u.map fun (x:Nat)=>(x:Int)
theorem pU (u:List Nat):(zs u).length=u.length:=by simp [zs]
theorem xJ {α:Type}(l:List α) (d:α) (k:Nat) (hk:k<l.length):l.take (k+1)=l.take k++[l.getD k d]:=by
 rw [List.take_succ_eq_append_getElem hk];simp [hk]
section
variable {n:Nat}{la ga:List (Int×Int)}{oa:List Int}{lb gb:List (Int×Int)}{ob:List Int}
end
end Go.Proofs.YtgpaajdfkekjiaaGreatDoor
namespace Go.Proofs.YtgpaajdfkekjiaaGreatDoor
set_option maxHeartbeats 8000000
set_option maxRecDepth 100000
def nxF (n:Nat) (ls gs:List (Int×Int)) (s i:Nat):Nat:=dB ls (vals n ls.length gs s i) ls.length
def obF (n:Nat) (ls gs:List (Int×Int)) (os:List Int) (k s i:Nat):Nat:=dZ os (vals n ls.length gs s i) os.length / 2^k % 2
def chW (n:Nat) (ls gs:List (Int×Int)) (k t:Nat):Nat:=ways (nxF n ls gs) (2^n) (cK ls ls.length) k t
def chN (n:Nat) (ls gs:List (Int×Int)) (os:List Int) (k i:Nat):Nat:=allG (2^n) (obF n ls gs os i) (chW n ls gs k)
def chL (n:Nat) (ls gs:List (Int×Int)) (os:List Int) (steps:Nat):List Nat:=(List.range os.length).map fun i=>fq (chN n ls gs os (steps - 1) i) (n*steps)
theorem vR (n:Nat) (ls gs:List (Int×Int)) (os:List Int) (steps:Nat):(chL n ls gs os steps).length=os.length:=by simp [chL]
section
variable {n:Nat}{ls gs:List (Int×Int)}{os:List Int}
theorem aIZ {n k:Nat}(hn:n≤4) (hk:k≤10):(2^n)^k≤1099511627776:=by
 rw [←Nat.pow_mul];have:n*k≤40:=Nat.le_trans (Nat.mul_le_mul hn hk) (by omega)
 exact Nat.le_trans (Nat.pow_le_pow_right (by omega) this) (by decide)
theorem zP (hl:ls.length≤4) (s i:Nat):nxF n ls gs s i<16:=sA _ hl
theorem aG6 (k s i:Nat):obF n ls gs os k s i≤1:=by unfold obF;omega
theorem aCL (t:Nat):chW n ls gs 0 t=if t=cK ls ls.length then 1 else 0:=rfl
theorem aHU (k t:Nat):chW n ls gs (k+1) t=mE (nxF n ls gs) (2^n) (chW n ls gs k) t:=rfl
theorem aKI (hl:ls.length≤4) (k:Nat):sumN (chW n ls gs k) 16=(2^n)^k:=xT _ _ (zP hl) _ (gK hl) k
theorem aF8 (hn:n≤4) (hl:ls.length≤4){k t:Nat}(hk:k≤10) (ht:t<16):chW n ls gs k t≤1099511627776 :=
 Nat.le_trans (aLI _ _ (zP hl) _ (gK hl) k t ht) (aIZ hn hk)
theorem xW {g:Nat→Nat→Nat}(hg:∀s i,g s i≤1) (hn:n≤4) (hl:ls.length≤4){k:Nat}(hk:k+1≤10):allG (2^n) g (chW n ls gs k)≤1099511627776:=by
 refine Nat.le_trans (aKE (2^n) hg _) ?_;rw [aKI hl,Nat.mul_comm,←Nat.pow_succ]
 exact aIZ hn hk
theorem oM {g:Nat→Nat→Nat}(hg:∀s i,g s i≤1) (hn:n≤4) (hl:ls.length≤4){k s i:Nat}(hk:k+1≤10) (hs:s<16) (hi:i≤2^n):fF (2^n) g (chW n ls gs k) s i≤1099511627776 :=
 Nat.le_trans (aIY (2^n) hs hi) (xW hg hn hl hk)
theorem uQ (hn:n≤4) (hl:ls.length≤4){k s i:Nat}(hk:k+1≤10) (hs:s<16) (hi:i≤2^n) (t:Nat):fH (nxF n ls gs) (2^n) (chW n ls gs k) s i t≤1099511627776:=by
 rw [aL2]
 exact oM (fun s i=>by by_cases e:nxF n ls gs s i=t<;>simp [e]) hn hl hk hs hi
theorem aK0 (hn:n≤4) (hl:ls.length≤4){k:Nat}(hk:k+1≤10) (i:Nat):chN n ls gs os k i≤1099511627776:=xW (fun s j=>aG6 i s j) hn hl hk
theorem aHT (hn:n≤4) (hl:ls.length≤4){steps:Nat}(h1:1≤steps) (hs:steps≤10):∀i,i<(chL n ls gs os steps).length→Ieee.double.order ((chL n ls gs os steps).getD i 0) ((chL n ls gs os steps).getD i 0)=some .eq:=fun i hi=>by
 rw [vR] at hi;have hle:=aK0 (os:=os) (gs:=gs) hn hl (k:=steps - 1) (by omega) i;have e:(chL n ls gs os steps).getD i 0=fq (chN n ls gs os (steps - 1) i) (n*steps):=by simp [chL,hi]
 rw [e,vW (by omega) (by omega)]
 simp
end
end Go.Proofs.YtgpaajdfkekjiaaGreatDoor
namespace Go.Proofs.YtgpaajdfkekjiaaGreatDoor
set_option maxHeartbeats 8000000
set_option maxRecDepth 100000
open Go.RowKit
theorem hidK {p:Prop}(h:p):Hid p:=h
theorem fD (P:Program) (w:World) (a:Addr) (m:Mode) (k:FloatKind) (b:Nat):(store a (.float k b) m).run P w=stored P w a (.float k b) m:=run_store P w a _ m rfl
theorem Tryz.infoFloat:(Tryz.prog.info? 106).map (fun i=>(i.zero,i.size,i.bytes))=some (some (.float .f64 0),1,8):=by kernel_rfl
def pW (xs:List Nat):List Value:=xs.map fun x=>.float .f64 x

theorem aHQ (o:Int) (t c y z b:Nat) (w:World) (ht:t<16) (hc:w.cell? ⟨b,t,none⟩=some (.float .f64 y)) (hf:w.frozen? ⟨b,t,none⟩=false) (hz:Ieee.double.add y c=some z) :
  Calls Tryz.prog 104 #[.int .i64 o,.int .i64 t,.float .f64 c,.pointer (some ⟨b,0,none⟩)] w fun e w'=>e=.returned (.tuple #[])∧w'=w.setCell ⟨b,t,none⟩ (.float .f64 z):=by
 have hadd:∀W:World,(binOp .add 106 (.float .f64 y) (.float .f64 c)).run Tryz.prog W=.ok (.float .f64 z) W:=fun W=>run_float_arith W .add _ .f64 _ _ z hz
 have htI:(t:Int)<16:=by omega
 have ht0:(0:Int)≤(t:Int):=by omega
 have hst:=@fD Tryz.prog
 go_enter Tryz.func104,Tryz.ntmps104
 go_wp2;refine bodyPost_end (results_none rfl _ _ _) rfl ⟨rfl,rfl⟩
def onF (fl:Nat→Nat) (o x E k j:Nat):Value:=.float .f64 (fq (fl j+if j<k then o / 2^j % 2*x else 0) E)

theorem aGB (o m b g x E:Nat) (nv:Int) (fl:Nat→Nat) (w:World) (ho:o<16) (hm:m≤4) (hbox:w.cell? ⟨b,0,none⟩=some (.slice (some ⟨g,0,none⟩) m m)) (hbg:b≠g)
  (hrow:w.rowIs g 106 m (onF fl o x E 0)) (hfl:∀k,k<m→fl k<9007199254740992) (hx:x<9007199254740992) :
  Calls Tryz.prog 105 #[.int .i64 o,.int .i64 nv,.float .f64 (fq x E),.pointer (some ⟨b,0,none⟩)] w fun e w'=>e=.returned (.tuple #[])∧w'.rowIs g 106 m (onF fl o x E m)∧Keeps (fun q=>q=g) w w':=by
 have hst:=@fD Tryz.prog
 go_enter Tryz.func105,Tryz.ntmps105
 go_wp2_with fail
 go_loopw [10] (fun i wr=>∃k:Nat,k≤m∧i=.int .i64 k∧wr.rowIs g 106 m (onF fl o x E k)∧Keeps (fun q=>q=g) w wr) (fun i _=>m - (intOf i).toNat)
 case atStart=>exact ⟨0,Nat.zero_le _,rfl,hrow,⟨rfl,rfl,rfl,Nat.le_refl _,fun _ _ _=>rfl⟩⟩
 case round =>
  clear hrow;obtain ⟨k,hk,rfl,row,kp⟩:=hrel
  by_cases hk2:k<m
  ·have hkI:(k:Int)<(m:Int):=by omega
   have hk0:(0:Int)≤(k:Int):=(by omega)
   have hbr:=(kp.cell (p:=⟨b,0,none⟩) (World.block_lt_of_cell? _ _ hbox) hbg).trans hbox;obtain ⟨X,hX⟩:∃X,X=o / 2^k % 2:=⟨_,rfl⟩
   have hbit:=iB o k X ho hX;have nxt:∀j,j≠k→onF fl o x E k j=onF fl o x E (k+1) j:=fun j hj=>by
    unfold onF
    by_cases h:j<k
    ·rw [if_pos h,if_pos (by omega)]
    ·rw [if_neg h,if_neg (by omega)]
   have NXT:=hidK nxt;have HX:=hidK hX;clear hX nxt
   by_cases h1:X=1
   ·have hXI:((X:Int)==1)=true:=by simp;omega
    have c0:wr.cell? ⟨g,k,none⟩=some (.float .f64 (fq (fl k) E)):=by
     have h:=row.cell hk2;rw [show onF fl o x E k k=.float .f64 (fq (fl k) E) by unfold onF;rw [if_neg (by omega),Nat.add_zero]] at h
     exact h
    have f0:=row.frozen k;obtain ⟨z,hz⟩:∃z,z=fq (fl k+x) E:=⟨_,rfl⟩
    have hadd:∀W:World,(binOp .add 106 (.float .f64 (fq (fl k) E)) (.float .f64 (fq x E))).run Tryz.prog W=.ok (.float .f64 z) W:=fun W=>run_float_arith W .add _ .f64 _ _ z (by rw [hz];exact aK1 (hfl k hk2) hx)
    have X9:=hidK ((row.set k (.float .f64 z)).congr (g:=onF fl o x E (k+1)) (fun j _=>by
     by_cases e:j=k
     ·rw [if_pos e,e,hz]
      unfold onF;rw [if_pos (by omega),←HX.out,h1,Nat.one_mul]
     ·rw [if_neg e,NXT.out j e]))
    have K9:Keeps (fun q=>q=g) w (wr.setCell ⟨g,k,none⟩ (.float .f64 z)):=⟨kp.os,kp.tape,kp.output,by rw [Deep.nblk_setCell];exact kp.size,fun j hj hn=>(Deep.blk_setCell_other _ _ _ _ hn).trans (kp.block j hj hn)⟩
    have HK9:=hidK K9;clear hz h1 K9;go_wp2
    go_roundw
    case rel=>exact ⟨k+1,by omega,by go_num,X9.out,HK9.out⟩
    case measure=>simp [intOf];omega
   ·have hXI:((X:Int)==1)=false:=by simp;omega
    have X9:=hidK (row.congr (g:=onF fl o x E (k+1)) (fun j _=>by
     by_cases e:j=k
     ·rw [e]
      unfold onF;rw [if_neg (by omega),if_pos (by omega),←HX.out,show X=0 by have:=HX.out;omega,Nat.zero_mul]
     ·exact NXT.out j e))
    clear h1;go_wp2
    go_roundw
    case rel=>exact ⟨k+1,by omega,by go_num,X9.out,kp⟩
    case measure=>simp [intOf];omega
  ·have hkI:¬((k:Int)<(m:Int)):=by omega
   have hkm:k=m:=(by omega)
   have X9:=hidK (show wr.rowIs g 106 m (onF fl o x E m) by rw [←hkm];rw [←hkm] at row;exact row);clear hkm;go_wp2;refine bodyPost_end (results_none rfl _ _ _) rfl ⟨rfl,X9.out,kp⟩
theorem tO {w:World}{B:Nat}{cs:Array Value}{t:TypeId}{fr:Nat×Nat}{ps:List (Int×Int)}(hb:w.heap[B]?=some (.cells cs t fr))
  (h:∀i,i<ps.length→cs[i*2]?=some (.int .i64 (ps.getD i (0,0)).1)∧cs[i*2+1]?=some (.int .i64 (ps.getD i (0,0)).2)):PairsAt w (some ⟨B,0,none⟩) ps:=by
 refine .inr ⟨B,0,rfl,?_,fun i hi=>?_⟩
 ·rcases Nat.lt_or_ge B w.heap.size with hlt | hge
  ·exact hlt
  ·rw [Array.getElem?_eq_none hge] at hb;cases hb
 ·rw [Nat.zero_add,cell_of_row w B _ cs t fr hb,cell_of_row w B _ cs t fr hb]
  exact h i hi
theorem wD {w:World}{B:Nat}{cs:Array Value}{t:TypeId}{fr:Nat×Nat}{xs:List Int}(hb:w.heap[B]?=some (.cells cs t fr))
  (h:∀i,i<xs.length→cs[i]?=some (.int .i64 (xs.getD i 0))):IntsAt w (some ⟨B,0,none⟩) xs:=by
 refine .inr ⟨B,0,rfl,?_,fun i hi=>?_⟩
 ·rcases Nat.lt_or_ge B w.heap.size with hlt | hge
  ·exact hlt
  ·rw [Array.getElem?_eq_none hge] at hb;cases hb
 ·rw [Nat.zero_add,cell_of_row w B _ cs t fr hb]
  exact h i hi
theorem aB (w:World) (o:Obj) (B:Nat) (hB:B=w.heap.size):(w.alloc o).heap[B]?=some o:=by subst hB;exact heap_alloc_new w o
theorem aA {w:World}{o x:Obj}{B:Nat}(h:w.heap[B]?=some x):(w.alloc o).heap[B]?=some x:=by
 rw [Below.heap_alloc w o B ?_];exact h
 rcases Nat.lt_or_ge B w.heap.size with hlt | hge
 ·exact hlt
 ·rw [Array.getElem?_eq_none hge] at h;cases h
def eM (f:Nat→Nat) (E:Nat):Array Value:=#[.float .f64 (fq (f 0) E),.float .f64 (fq (f 1) E),.float .f64 (fq (f 2) E),.float .f64 (fq (f 3) E),.float .f64 (fq (f 4) E),.float .f64 (fq (f 5) E),.float .f64 (fq (f 6) E),.float .f64 (fq (f 7) E),.float .f64 (fq (f 8) E),.float .f64 (fq (f 9) E),.float .f64 (fq (f 10) E),.float .f64 (fq (f 11) E),.float .f64 (fq (f 12) E),.float .f64 (fq (f 13) E),.float .f64 (fq (f 14) E),.float .f64 (fq (f 15) E)]
theorem qW (f:Nat→Nat) (E S:Nat) (hS:S<16) (x:Nat) (hg:(eM f E)[S]?=some (.float .f64 x)) (W:World):(Instr.index 140 (.agg (eM f E)) (.int .i64 (S:Int))).run Tryz.prog W=.ok (.float .f64 x) W:=by
 have hn:0≤(S:Int)∧(S:Int)<16:=by omega
 simp [Instr.index,run_underlying Tryz.underlying140,asIntOf,hn,go_sem,hg]
 intro h
 omega
theorem qV (f:Nat→Nat) (E:Nat):∀s,s<16→(eM f E)[s]?=some (.float .f64 (fq (f s) E))
 | 0,_=>rfl
 | 1,_=>rfl
 | 2,_=>rfl
 | 3,_=>rfl
 | 4,_=>rfl
 | 5,_=>rfl
 | 6,_=>rfl
 | 7,_=>rfl
 | 8,_=>rfl
 | 9,_=>rfl
 | 10,_=>rfl
 | 11,_=>rfl
 | 12,_=>rfl
 | 13,_=>rfl
 | 14,_=>rfl
 | 15,_=>rfl
 | s+16,h=>by omega
theorem rJ (n E:Nat) (la ga oa:Option Addr) (lc gc oc:Nat) (ls gs:List (Int×Int)) (os:List Int) (f:Nat→Nat) (q:Nat) (nx ou:Nat→Nat→Nat) (cap:Value) (Inv:Nat→Nat→World→Prop) (w:World)
  (hn4:n≤4) (hq:q=2^n) (hE:E+n≤100) (hfl:∀s,s<16→f s<9007199254740992)
  (hstep:∀(W:World) (s j:Nat),s<16→j<q→Inv s j W→Calls Tryz.prog 51 #[.agg #[.int .i64 n,.slice la ls.length lc,.slice ga gs.length gc,.slice oa os.length oc],.int .i64 s,.int .i64 j] W fun e w'=>e=.returned (.tuple #[.int .i64 (ou s j:Nat),.int .i64 (nx s j:Nat)])∧Inv s j w')
  (htell:∀(W:World) (s j:Nat),s<16→j<q→0<f s→Inv s j W→Calls Tryz.prog 104 #[.int .i64 (ou s j:Nat),.int .i64 (nx s j:Nat),.float .f64 (fq (f s) (E+n)),cap] W fun e w'=>e=.returned (.tuple #[])∧Inv s (j+1) w')
  (hnext:∀(W:World) (s:Nat),s<16→Inv s q W→Inv (s+1) 0 W) (hskip:∀(W:World) (s:Nat),s<16→f s=0→Inv s 0 W→Inv (s+1) 0 W)
  (hbox:∀(W:World) (s j:Nat),Inv s j W→W.heap[w.heap.size]?=some (.cells #[.int .i64 n,.slice la ls.length lc,.slice ga gs.length gc,.slice oa os.length oc] 34 (0,0)))
  (h0:Inv 0 0 ((w.alloc (.cells #[.int .i64 n,.slice la ls.length lc,.slice ga gs.length gc,.slice oa os.length oc] 34)).alloc (.cells (eM f E) 140))) :
  Calls Tryz.prog 103 #[.agg #[.int .i64 n,.slice la ls.length lc,.slice ga gs.length gc,.slice oa os.length oc],.agg (eM f E),.func (.func 104) #[] #[cap]] w fun e w'=>e=.returned (.tuple #[])∧Inv 16 0 w':=by
 obtain ⟨W2,hW2⟩:∃W2,W2=(w.alloc (.cells #[.int .i64 n,.slice la ls.length lc,.slice ga gs.length gc,.slice oa os.length oc] 34)).alloc (.cells (eM f E) 140):=⟨_,rfl⟩
 rw [←hW2] at h0;have x2:W2.heap[w.heap.size+1]?=some (.cells (eM f E) 140 (0,0)):=by rw [hW2];exact aB _ _ _ (by simp)
 obtain ⟨d0,d1,d2,d3,d4,d5,d6,d7,d8,d9,d10,d11,d12,d13,d14,d15⟩:=oE x2;have q0:W2.cell? ⟨w.heap.size,0,none⟩=some (.int .i64 n):=by rw [cell_of_row _ _ _ _ _ _ (hbox W2 0 0 h0)];rfl
 have hq16:q≤16:=by rw [hq];exact eY hn4
 have hqI:(q:Int)=(2:Int)^n:=by rw [hq];simp
 have hsh:IntKind.i64.wrap ((2:Int)^n)=(q:Int):=by rw [←hqI,cZ];omega
 have HQ:=hidK hq;clear hq hqI
 go_enter Tryz.func103,Tryz.ntmps103
 go_upto_region 1 with fail
 rw [←hW2];clear hW2 x2
 go_wp2_with fail
 have hfold:(#[.float .f64 (fq (f 0) E),.float .f64 (fq (f 1) E),.float .f64 (fq (f 2) E),.float .f64 (fq (f 3) E),.float .f64 (fq (f 4) E),.float .f64 (fq (f 5) E),.float .f64 (fq (f 6) E),.float .f64 (fq (f 7) E),.float .f64 (fq (f 8) E),.float .f64 (fq (f 9) E),.float .f64 (fq (f 10) E),.float .f64 (fq (f 11) E),.float .f64 (fq (f 12) E),.float .f64 (fq (f 13) E),.float .f64 (fq (f 14) E),.float .f64 (fq (f 15) E)]:Array Value)=eM f E:=rfl;rw [hfold];clear d0 d1 d2 d3 d4 d5 d6 d7 d8 d9 d10 d11 d12 d13 d14 d15 hfold q0
 go_loopw [16] (fun sv wr=>∃S:Nat,S≤16∧sv=.int .i64 S∧Inv S 0 wr) (fun sv _=>16 - (intOf sv).toNat)
 case atStart=>exact ⟨0,by omega,rfl,h0⟩
 case round =>
  clear h0;obtain ⟨S,hS,rfl,I⟩:=hrel
  by_cases hS2:S<16
  ·have hSI:(S:Int)<16:=by omega
   have hS0:(0:Int)≤(S:Int):=(by omega)
   have hg:=qV f E S hS2;have hx9:=hfl S hS2;obtain ⟨x,hx⟩:∃x,x=f S:=⟨_,rfl⟩
   have HX:=hidK hx;rw [←hx] at hg hx9;have ho:FloatKind.f64.format.order (fq x E) 0=some (compare x 0):=by
    have h:=vW (k:=x) (l:=0) (e:=E) hx9 (by omega);have hz:fq 0 E=0:=(by unfold fq;rw [Nat.zero_mul];exact qE)
    rw [hz] at h
    exact h
   have hidx:=qW f E S hS2 _ hg;clear hx hg
   by_cases hx0:x=0
   ·have hc:compare x 0=.eq:=by rw [hx0];rfl
    rw [hc] at ho;have I9:=hidK (hskip wr S hS2 (by rw [←HX.out];exact hx0) I);clear hx0 hc;go_wp2
    go_roundw
    case rel=>exact ⟨S+1,by omega,by go_num,I9.out⟩
    case measure=>simp [intOf];omega
   ·have hc:compare x 0=.gt:=by rw [Nat.compare_eq_gt];omega
    rw [hc] at ho;have hxp:0<f S:=(by rw [←HX.out];omega)
    clear hx0 hc
    go_wp2_with fail
    go_loopw [23] (fun jv wr=>∃J:Nat,J≤q∧jv=.int .i64 J∧Inv S J wr) (fun jv _=>q - (intOf jv).toNat)
    case atStart=>exact ⟨0,Nat.zero_le _,rfl,I⟩
    case round =>
     clear I;obtain ⟨J,hJ,rfl,I⟩:=hrel
     by_cases hJ2:J<q
     ·have hJI:(J:Int)<(q:Int):=by omega
      obtain ⟨c0,c1,c2,c3⟩:=aK (hbox wr S J I);have call:=hstep wr S J hS2 hJ2 I;obtain ⟨o,hoe⟩:∃o,o=ou S J:=⟨_,rfl⟩
      obtain ⟨t,hte⟩:∃t,t=nx S J:=⟨_,rfl⟩
      have tell:=htell;rw [←hoe,←hte] at call;obtain ⟨z,hz⟩:∃z,z=fq x (E+n):=⟨_,rfl⟩
      have hquo:∀W:World,(binOp .quo 106 (.float .f64 (fq x E)) (.float .f64 (floatOfInt .f64 (q:Int)))).run Tryz.prog W=.ok (.float .f64 z) W:=fun W=>run_float_arith W .quo _ .f64 _ _ z (by
       rw [aCR,HQ.out,hz]
       exact aFE (by omega) hE hx9)
      have tl:∀W,Inv S J W→Calls Tryz.prog 104 #[.int .i64 (o:Nat),.int .i64 (t:Nat),.float .f64 z,cap] W fun e w'=>e=.returned (.tuple #[])∧Inv S (J+1) w':=fun W hW=>by
       have h:=tell W S J hS2 hJ2 hxp hW;rw [←HX.out,←hz,←hoe,←hte] at h
       exact h
      have TL:=hidK tl;clear hoe hte hz tell tl
      go_wp2_with fail
      refine call.mono ?_;rintro e w7 ⟨rfl,I7⟩;clear call c0 c1 c2 c3
      go_wp2_with fail
      refine (TL.out w7 I7).mono ?_;rintro e w8 ⟨rfl,I8⟩;go_wp2
      go_roundw
      case rel=>exact ⟨J+1,by omega,by go_num,I8⟩
      case measure=>simp [intOf];omega
     ·have hJI:¬((J:Int)<(q:Int)):=by omega
      have I9:=hidK (hnext wr S hS2 (by rw [←show J=q by omega];exact I));go_wp2
      go_roundw
      case rel=>exact ⟨S+1,by omega,by go_num,I9.out⟩
      case measure=>simp [intOf];omega
  ·have hSI:¬((S:Int)<16):=by omega
   have I9:=hidK (show Inv 16 0 wr by rw [←show S=16 by omega];exact I);go_wp2;refine bodyPost_end (results_none rfl _ _ _) rfl ⟨rfl,I9.out⟩
theorem pV (n E:Nat) (la ga oa:Option Addr) (lc gc oc:Nat) (ls gs:List (Int×Int)) (os:List Int) (f:Nat→Nat) (q:Nat) (nx ou:Nat→Nat→Nat) (cap:Value) (Inv:Nat→Nat→World→Prop) (w:World)
  (hn4:n≤4) (hq:q=2^n) (hE:E+n≤100) (hfl:∀s,s<16→f s<9007199254740992)
  (hstep:∀(W:World) (s j:Nat),s<16→j<q→Inv s j W→Calls Tryz.prog 51 #[.agg #[.int .i64 n,.slice la ls.length lc,.slice ga gs.length gc,.slice oa os.length oc],.int .i64 s,.int .i64 j] W fun e w'=>e=.returned (.tuple #[.int .i64 (ou s j:Nat),.int .i64 (nx s j:Nat)])∧Inv s j w')
  (htell:∀(W:World) (s j:Nat),s<16→j<q→0<f s→Inv s j W→Calls Tryz.prog 105 #[.int .i64 (ou s j:Nat),.int .i64 (nx s j:Nat),.float .f64 (fq (f s) (E+n)),cap] W fun e w'=>e=.returned (.tuple #[])∧Inv s (j+1) w')
  (hnext:∀(W:World) (s:Nat),s<16→Inv s q W→Inv (s+1) 0 W) (hskip:∀(W:World) (s:Nat),s<16→f s=0→Inv s 0 W→Inv (s+1) 0 W)
  (hbox:∀(W:World) (s j:Nat),Inv s j W→W.heap[w.heap.size]?=some (.cells #[.int .i64 n,.slice la ls.length lc,.slice ga gs.length gc,.slice oa os.length oc] 34 (0,0)))
  (h0:Inv 0 0 ((w.alloc (.cells #[.int .i64 n,.slice la ls.length lc,.slice ga gs.length gc,.slice oa os.length oc] 34)).alloc (.cells (eM f E) 140))) :
  Calls Tryz.prog 103 #[.agg #[.int .i64 n,.slice la ls.length lc,.slice ga gs.length gc,.slice oa os.length oc],.agg (eM f E),.func (.func 105) #[] #[cap]] w fun e w'=>e=.returned (.tuple #[])∧Inv 16 0 w':=by
 obtain ⟨W2,hW2⟩:∃W2,W2=(w.alloc (.cells #[.int .i64 n,.slice la ls.length lc,.slice ga gs.length gc,.slice oa os.length oc] 34)).alloc (.cells (eM f E) 140):=⟨_,rfl⟩
 rw [←hW2] at h0;have x2:W2.heap[w.heap.size+1]?=some (.cells (eM f E) 140 (0,0)):=by rw [hW2];exact aB _ _ _ (by simp)
 obtain ⟨d0,d1,d2,d3,d4,d5,d6,d7,d8,d9,d10,d11,d12,d13,d14,d15⟩:=oE x2;have q0:W2.cell? ⟨w.heap.size,0,none⟩=some (.int .i64 n):=by rw [cell_of_row _ _ _ _ _ _ (hbox W2 0 0 h0)];rfl
 have hq16:q≤16:=by rw [hq];exact eY hn4
 have hqI:(q:Int)=(2:Int)^n:=by rw [hq];simp
 have hsh:IntKind.i64.wrap ((2:Int)^n)=(q:Int):=by rw [←hqI,cZ];omega
 have HQ:=hidK hq;clear hq hqI
 go_enter Tryz.func103,Tryz.ntmps103
 go_upto_region 1 with fail
 rw [←hW2];clear hW2 x2
 go_wp2_with fail
 have hfold:(#[.float .f64 (fq (f 0) E),.float .f64 (fq (f 1) E),.float .f64 (fq (f 2) E),.float .f64 (fq (f 3) E),.float .f64 (fq (f 4) E),.float .f64 (fq (f 5) E),.float .f64 (fq (f 6) E),.float .f64 (fq (f 7) E),.float .f64 (fq (f 8) E),.float .f64 (fq (f 9) E),.float .f64 (fq (f 10) E),.float .f64 (fq (f 11) E),.float .f64 (fq (f 12) E),.float .f64 (fq (f 13) E),.float .f64 (fq (f 14) E),.float .f64 (fq (f 15) E)]:Array Value)=eM f E:=rfl;rw [hfold];clear d0 d1 d2 d3 d4 d5 d6 d7 d8 d9 d10 d11 d12 d13 d14 d15 hfold q0
 go_loopw [16] (fun sv wr=>∃S:Nat,S≤16∧sv=.int .i64 S∧Inv S 0 wr) (fun sv _=>16 - (intOf sv).toNat)
 case atStart=>exact ⟨0,by omega,rfl,h0⟩
 case round =>
  clear h0;obtain ⟨S,hS,rfl,I⟩:=hrel
  by_cases hS2:S<16
  ·have hSI:(S:Int)<16:=by omega
   have hS0:(0:Int)≤(S:Int):=(by omega)
   have hg:=qV f E S hS2;have hx9:=hfl S hS2;obtain ⟨x,hx⟩:∃x,x=f S:=⟨_,rfl⟩
   have HX:=hidK hx;rw [←hx] at hg hx9;have ho:FloatKind.f64.format.order (fq x E) 0=some (compare x 0):=by
    have h:=vW (k:=x) (l:=0) (e:=E) hx9 (by omega);have hz:fq 0 E=0:=(by unfold fq;rw [Nat.zero_mul];exact qE)
    rw [hz] at h
    exact h
   have hidx:=qW f E S hS2 _ hg;clear hx hg
   by_cases hx0:x=0
   ·have hc:compare x 0=.eq:=by rw [hx0];rfl
    rw [hc] at ho;have I9:=hidK (hskip wr S hS2 (by rw [←HX.out];exact hx0) I);clear hx0 hc;go_wp2
    go_roundw
    case rel=>exact ⟨S+1,by omega,by go_num,I9.out⟩
    case measure=>simp [intOf];omega
   ·have hc:compare x 0=.gt:=by rw [Nat.compare_eq_gt];omega
    rw [hc] at ho;have hxp:0<f S:=(by rw [←HX.out];omega)
    clear hx0 hc
    go_wp2_with fail
    go_loopw [23] (fun jv wr=>∃J:Nat,J≤q∧jv=.int .i64 J∧Inv S J wr) (fun jv _=>q - (intOf jv).toNat)
    case atStart=>exact ⟨0,Nat.zero_le _,rfl,I⟩
    case round =>
     clear I;obtain ⟨J,hJ,rfl,I⟩:=hrel
     by_cases hJ2:J<q
     ·have hJI:(J:Int)<(q:Int):=by omega
      obtain ⟨c0,c1,c2,c3⟩:=aK (hbox wr S J I);have call:=hstep wr S J hS2 hJ2 I;obtain ⟨o,hoe⟩:∃o,o=ou S J:=⟨_,rfl⟩
      obtain ⟨t,hte⟩:∃t,t=nx S J:=⟨_,rfl⟩
      have tell:=htell;rw [←hoe,←hte] at call;obtain ⟨z,hz⟩:∃z,z=fq x (E+n):=⟨_,rfl⟩
      have hquo:∀W:World,(binOp .quo 106 (.float .f64 (fq x E)) (.float .f64 (floatOfInt .f64 (q:Int)))).run Tryz.prog W=.ok (.float .f64 z) W:=fun W=>run_float_arith W .quo _ .f64 _ _ z (by
       rw [aCR,HQ.out,hz]
       exact aFE (by omega) hE hx9)
      have tl:∀W,Inv S J W→Calls Tryz.prog 105 #[.int .i64 (o:Nat),.int .i64 (t:Nat),.float .f64 z,cap] W fun e w'=>e=.returned (.tuple #[])∧Inv S (J+1) w':=fun W hW=>by
       have h:=tell W S J hS2 hJ2 hxp hW;rw [←HX.out,←hz,←hoe,←hte] at h
       exact h
      have TL:=hidK tl;clear hoe hte hz tell tl
      go_wp2_with fail
      refine call.mono ?_;rintro e w7 ⟨rfl,I7⟩;clear call c0 c1 c2 c3
      go_wp2_with fail
      refine (TL.out w7 I7).mono ?_;rintro e w8 ⟨rfl,I8⟩;go_wp2
      go_roundw
      case rel=>exact ⟨J+1,by omega,by go_num,I8⟩
      case measure=>simp [intOf];omega
     ·have hJI:¬((J:Int)<(q:Int)):=by omega
      have I9:=hidK (hnext wr S hS2 (by rw [←show J=q by omega];exact I));go_wp2
      go_roundw
      case rel=>exact ⟨S+1,by omega,by go_num,I9.out⟩
      case measure=>simp [intOf];omega
  ·have hSI:¬((S:Int)<16):=by omega
   have I9:=hidK (show Inv 16 0 wr by rw [←show S=16 by omega];exact I);go_wp2;refine bodyPost_end (results_none rfl _ _ _) rfl ⟨rfl,I9.out⟩
end Go.Proofs.YtgpaajdfkekjiaaGreatDoor
