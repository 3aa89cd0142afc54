/-
  A part of the proof of the statement All: texts of ours, made small by program (blanks, names).
-/
import Derived.Test.YtgpaajdfkekjiaaGreatDoorPi
namespace Go.Proofs.YtgpaajdfkekjiaaGreatDoor
set_option maxHeartbeats 8000000
set_option maxRecDepth 100000
namespace Duo
variable {M:Duo}
structure RInv (M:Duo) (L:List (List Nat)) (i j:Nat):Prop where
 head:L.getD 0 []=[]∧0<L.length
 valid:∀u∈L,M.Valid u
 nodup:(L.map M.run).Nodup
 sorted:∀a b,a<b→b<L.length→code (L.getD a [])<code (L.getD b [])
 below:i<L.length→∀u∈L,code u<16*code (L.getD i [])+j
 done:∀a k,a<L.length→k<M.K→(a<i∨(a=i∧k<j))→M.difL (L.getD a []++ [k])=0∧∃u∈L,code u≤code (L.getD a []++ [k])∧M.run u=M.run (L.getD a []++ [k])
 len:∀a,a<L.length→(L.getD a []).length≤a
theorem RInv.start:M.RInv [[]] 0 0 :=
 ⟨⟨rfl,by simp⟩,fun u h=>by simp at h;subst h;exact M.valid_nil,by simp,fun a b h1 h2=>by simp at h2;omega,fun _ u h=>by simp at h;subst h;decide,fun a k h1 h2 h3=>by omega,fun a ha=>by simp at ha;subst ha;simp⟩
theorem qF {l:List (List Nat)}{i:Nat}(h:i<l.length):l.getD i []∈l:=by
 rw [List.getD_eq_getElem?_getD,List.getElem?_eq_getElem h];exact List.getElem_mem h
theorem kJ {l:List (List Nat)}{x:List Nat}{a:Nat}(h:a<l.length):(l++[x]).getD a []=l.getD a []:=by
 simp only [List.getD_eq_getElem?_getD];rw [List.getElem?_append_left h]
theorem aCS (l:List (List Nat)) (x:List Nat):(l++[x]).getD l.length []=x:=by
 simp [List.getD_eq_getElem?_getD]
theorem aIK {l:List (List Nat)}{u:List Nat}(h:u∈l):∃a,a<l.length∧l.getD a []=u:=by
 obtain ⟨a,ha,e⟩:=List.getElem_of_mem h
 exact ⟨a,ha,by rw [List.getD_eq_getElem?_getD,List.getElem?_eq_getElem ha,←e];rfl⟩
theorem RInv.known {L:List (List Nat)}{i j:Nat}(h:M.RInv L i j) (hi:i<L.length) (hd:M.difL (L.getD i []++ [j])=0) (hk:M.run (L.getD i []++ [j])∈L.map M.run):M.RInv L i (j+1):=by
 refine ⟨h.head,h.valid,h.nodup,h.sorted,fun hi u hu=>by have:=h.below hi u hu;omega,fun a k h1 h2 h3=>?_,h.len⟩
 by_cases e:a=i∧k=j
 ·obtain ⟨rfl,rfl⟩:=e
  obtain ⟨u,hu,er⟩:=List.mem_map.1 hk;have:=h.below hi u hu
  exact ⟨hd,u,hu,by rw [cE];omega,er⟩
 ·exact h.done a k h1 h2 (by omega)
theorem RInv.fresh {L:List (List Nat)}{i j:Nat}(h:M.RInv L i j) (hi:i<L.length) (hj:j<M.K) (hd:M.difL (L.getD i []++ [j])=0) (hk:M.run (L.getD i []++ [j]) ∉ L.map M.run):M.RInv (L++[L.getD i []++ [j]]) i (j+1):=by
 obtain ⟨x,hx⟩:∃x,x=L.getD i []++ [j]:=⟨_,rfl⟩
 rw [←hx] at hd hk ⊢;have hcx:code x=16*code (L.getD i [])+j:=by rw [hx,cE];omega
 refine ⟨⟨by rw [kJ h.head.2];exact h.head.1,by simp⟩,fun u hu=>?_,?_,fun a b hab hb=>?_,fun _ u hu=>?_,fun a k h1 h2 h3=>?_,fun a ha=>?_⟩
 ·rcases List.mem_append.1 hu with hu | hu
  ·exact h.valid u hu
  ·simp at hu;subst hu;rw [hx]
   exact M.valid_snoc.2 ⟨h.valid _ (qF hi),hj⟩
 ·rw [List.map_append,List.map_singleton]
  refine List.nodup_append.2 ⟨h.nodup,by simp,fun a ha b hb e=>?_⟩
  simp at hb
  subst hb;subst e
  exact hk ha
 ·simp at hb
  rw [kJ (by omega)]
  by_cases e:b=L.length
  ·subst e
   rw [aCS,hcx]
   exact h.below hi _ (qF hab)
  ·rw [kJ (by omega)]
   exact h.sorted a b hab (by omega)
 ·rw [kJ hi]
  rcases List.mem_append.1 hu with hu | hu
  ·have:=h.below hi u hu;omega
  ·simp at hu;subst hu;omega
 ·have ha:a<L.length:=by omega
  rw [kJ ha]
  by_cases e:a=i∧k=j
  ·obtain ⟨rfl,rfl⟩:=e
   rw [←hx]
   exact ⟨hd,x,by simp,Nat.le_refl _,rfl⟩
  ·obtain ⟨h4,u,hu,h5⟩:=h.done a k ha h2 (by omega)
   exact ⟨h4,u,List.mem_append.2 (.inl hu),h5⟩
 ·simp at ha
  by_cases e:a=L.length
  ·subst e
   rw [aCS,hx];have:=h.len i hi;rw [List.length_append,List.length_singleton];omega
  ·rw [kJ (by omega)]
   exact h.len a (by omega)
theorem RInv.next {L:List (List Nat)}{i j:Nat}(h:M.RInv L i j) (hi:i<L.length) (hj:j=M.K) (hK:M.K≤16):M.RInv L (i+1) 0:=by
 refine ⟨h.head,h.valid,h.nodup,h.sorted,fun hi' u hu=>?_,fun a k h1 h2 h3=>h.done a k h1 h2 (by omega),h.len⟩;have h1:=h.below hi u hu;have h2:=h.sorted i (i+1) (by omega) hi'
 omega
theorem RInv.search {L:List (List Nat)}{i j:Nat}(h:M.RInv L i j):M.Search L (fun x=>∃a k,a<L.length∧k<M.K∧x=L.getD a []++ [k]∧(i<a∨(a=i∧j≤k))):=by
 refine ⟨h.valid,h.nodup,.inr ⟨rfl,[],?_,Nat.le_refl _,rfl⟩,fun u hu k hk=>?_⟩
 ·have:=qF h.head.2;rw [h.head.1] at this;exact this
 ·obtain ⟨a,ha,rfl⟩:=aIK hu
  by_cases e:a<i∨(a=i∧k<j)
  ·exact .inr (h.done a k ha hk e)
  ·exact .inl ⟨a,k,ha,hk,rfl,by omega⟩
theorem RInv.differs {L:List (List Nat)}{i j:Nat}(h:M.RInv L i j) (hi:i<L.length) (hj:j<M.K) (hK:M.K≤16) (hd:M.difL (L.getD i []++ [j])≠0):M.Says false 0 (L.getD i []++ [j]) (M.difL (L.getD i []++ [j])):=by
 refine h.search.differs hK (M.valid_snoc.2 ⟨h.valid _ (qF hi),hj⟩) hd ?_;rintro y ⟨a,k,ha,hk,rfl,h3⟩;rw [cE,cE]
 rcases h3 with h3 | ⟨rfl,h3⟩
 ·have:=h.sorted i a h3 ha;omega
 ·omega
theorem RInv.same {L:List (List Nat)}{i j:Nat}(h:M.RInv L i j) (hi:L.length≤i) (hK:M.K≤16):M.Says true L.length [] 0:=by
 refine h.search.same hK ?_;rintro y ⟨a,k,ha,hk,rfl,h3⟩
 omega
theorem RInv.few {L:List (List Nat)}{i j:Nat}(h:M.RInv L i j) (hs:M.Small):L.length≤256:=by
 have:=zY (L.map M.run) h.nodup (fun p hp=>by obtain ⟨u,_,rfl⟩:=List.mem_map.1 hp;exact run_small hs u)
 simpa using this
end Duo
end Go.Proofs.YtgpaajdfkekjiaaGreatDoor
