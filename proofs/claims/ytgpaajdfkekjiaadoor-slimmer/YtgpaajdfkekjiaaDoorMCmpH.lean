/-
  heap.Push and heap.Pop at package compare's ways: the least way first.
  heap.Pop at package compare's ways: the least way.
-/
import Derived.Test.YtgpaajdfkekjiaaDoorCmpF
import Derived.Test.YtgpaajdfkekjiaaDoorMSlim
namespace Go.Proofs.YtgpaajdfkekjiaaDoor
open Go.RowKit

theorem Keeps.trans' {S T : Nat → Prop} {a b c : World} (h : Keeps S a b) (k : Keeps T b c) (hT : ∀ i, i < a.heap.size → T i → S i) : Keeps S a c :=
  ⟨k.os.trans h.os, k.tape.trans h.tape, k.output.trans h.output, Nat.le_trans h.size k.size, fun i hi ho => (k.block i (Nat.lt_of_lt_of_le hi h.size) (fun t => ho (hT i hi t))).trans (h.block i hi ho)⟩
theorem keysE_snoc (es : List (List Nat × Value)) (e : List Nat × Value) : keysE (es ++ [e]) = keysE es ++ [e.1] := by simp [keysE]

set_option maxHeartbeats 2000000 in
set_option maxRecDepth 100000 in
theorem heapPush_any (M : Duo) (B P : Nat) (hv : Value) (es : List (List Nat × Value)) (e : List Nat × Value) (w : World) (h : WaysAt M B w P hv es) (hg : GoodW es) (hd : Dig e.1 ∧ e.1.length ≤ 500) (he : InAt w (inX B P hv) e.2 e.1) (hn : es.length ≤ 9000) (hB : B ≤ w.heap.size) (hH : IsHeap (keysE es) es.length) :
    Calls Tryd.prog 49 #[heapI P, .iface 95 (wayV M e)] w fun r w' => r = .returned (.tuple #[]) ∧ ∃ hv' es', es'.Perm (es ++ [e]) ∧ WaysAt M B w' P hv' es' ∧ IsHeap (keysE es') es'.length ∧ Keeps (heapBlocks P hv) w w' ∧ ∀ q, hv'.ownBlock = some q → hv.ownBlock = some q ∨ w.heap.size ≤ q := by
  have mP := Tryd.mPush P w
  have hu := UpInv.push (l := keysE es) (by rw [keysE_len]; exact hH) e.1
  rw [← keysE_snoc, keysE_len] at hu
  have HU := hideW hu
  have hgood : GoodW (es ++ [e]) := fun x hx => by
    rcases List.mem_append.1 hx with hx | hx
    · exact hg x hx
    · simp at hx; subst hx; exact hd
  have hl : (es ++ [e]).length = es.length + 1 := by simp
  have HL := hideW hl
  have HH := hideW hH
  clear hu hl hH
  unfold heapI
  go_enter Tryd.func49, Tryd.ntmps49
  go_wp2_with fail
  refine (push_any M B P hv es e _ h he (by omega) hB).mono ?_
  rintro r w1 ⟨rfl, hv1, ⟨h1, hnew⟩, K1⟩
  obtain ⟨g, cap, hsl, _⟩ := h1.slice (by rw [HL.out]; omega)
  rw [HL.out] at hsl
  have HS := hideW hsl
  clear hsl
  have mL := Tryd.mLen h1.cell
  have HN := hideW hnew
  clear hnew
  go_wp2_with fail
  refine (len_any hv1 _ _ _ _ HS.out).mono ?_
  rintro r w2 ⟨rfl, hw2⟩
  obtain rfl := hw2.symm
  have q1 : ((es.length + 1 : Nat) : Int) - 1 = (es.length : Int) := by omega
  have hup := up_any M B P hv1 (es ++ [e]) es.length w1 h1 hgood (by rw [HL.out]; omega) (by rw [HL.out]; omega) (by rw [HL.out]; exact HU.out)
  rw [HL.out] at hup
  unfold heapI at hup
  go_wp2_with fail
  refine hup.mono ?_
  rintro r w3 ⟨rfl, es', hp, h3, hh, K3⟩
  have fin := hideW (K1.trans' K3 (fun k hk hb => by
    rcases hb with hb | hb
    · exact .inl hb
    · rcases HN.out k hb with hb | hb
      · exact .inr hb
      · omega))
  go_wp2
  go_end0
  exact ⟨rfl, hv1, es', hp, h3, by rw [hp.length_eq, HL.out]; exact hh, fin.out, HN.out⟩

end Go.Proofs.YtgpaajdfkekjiaaDoor

namespace Go.Proofs.YtgpaajdfkekjiaaDoor
open Go.RowKit

theorem snoc_of_len {α : Type} (l : List α) (n : Nat) (d : α) (h : l.length = n + 1) : l = l.take n ++ [l.getD n d] := by
  have := take_getD l d n (by omega)
  rw [← this, List.take_of_length_le (by omega)]

set_option maxHeartbeats 2000000 in
set_option maxRecDepth 100000 in
theorem heapPop_any (M : Duo) (B P : Nat) (hv : Value) (es : List (List Nat × Value)) (w : World) (h : WaysAt M B w P hv es) (hg : GoodW es) (h0 : 0 < es.length) (hn : es.length ≤ 10000) (hH : IsHeap (keysE es) es.length) :
    Calls Tryd.prog 47 #[heapI P] w fun r w' => ∃ e es' hv', r = .returned (.iface 95 (wayV M e)) ∧ (e :: es').Perm es ∧ (∀ x ∈ es', code e.1 ≤ code x.1) ∧ WaysAt M B w' P hv' es' ∧ IsHeap (keysE es') es'.length ∧ InAt w' (inX B P hv') e.2 e.1 ∧ hv'.ownBlock = hv.ownBlock ∧ Keeps (heapBlocks P hv) w w' := by
  obtain ⟨n, hnl⟩ : ∃ n, es.length = n + 1 := ⟨es.length - 1, by omega⟩
  obtain ⟨g, cap, hsl, _⟩ := h.slice h0
  rw [hnl] at hsl hH
  have HS := hideW hsl
  have HL := hideW hnl
  have hdn := DownInv.pop (l := keysE es) (n := n) hH (by rw [keysE_len]; exact hnl)
  rw [← keysE_swap] at hdn
  have HD := hideW hdn
  have HH := hideW hH
  have mL := Tryd.mLen h.cell
  have mS := Tryd.mSwap h.cell
  have q1 : ((n + 1 : Nat) : Int) - 1 = (n : Int) := by omega
  have hn' : n ≤ 10000 := by omega
  clear hsl hnl hdn hH
  unfold heapI
  go_enter Tryd.func47, Tryd.ntmps47
  go_wp2_with fail
  refine (len_any hv _ _ _ _ HS.out).mono ?_
  rintro r w2 ⟨rfl, hw2⟩
  obtain rfl := hw2.symm
  have hsw := swap_any M B P hv es 0 n w h h0 (by rw [HL.out]; omega) hn
  rw [show ((0 : Nat) : Int) = 0 from rfl] at hsw
  go_wp2_with fail
  refine hsw.mono ?_
  clear hsw
  rintro r w3 ⟨rfl, h3, K3⟩
  have hdc := down_any M B P hv (swapE es 0 n) n w3 h3 (hg.perm (swapE_perm es h0 (by rw [HL.out]; omega))) (by rw [swapE_len, HL.out]; omega) (by rw [swapE_len]; exact hn) HD.out
  unfold heapI at hdc
  go_wp2_with fail
  refine hdc.mono ?_
  rintro r w4 ⟨⟨bb, rfl⟩, es2, hp2, hfar, h4, hh, K4⟩
  clear hdc
  have hl2 : es2.length = n + 1 := by rw [hp2.length_eq, swapE_len, HL.out]
  have hsn := snoc_of_len es2 n noWay hl2
  have he0 : es2.getD n noWay = es.getD 0 noWay := by
    rw [hfar n (Nat.le_refl _)]
    unfold swapE
    have : n < es.length := by rw [HL.out]; omega
    simp only [List.getD_eq_getElem?_getD]
    rw [List.getElem?_set_self (by simpa using this)]
    rfl
  obtain ⟨e, hE⟩ : ∃ e, e = es2.getD n noWay := ⟨_, rfl⟩
  obtain ⟨es3, hE3⟩ : ∃ es3, es3 = es2.take n := ⟨_, rfl⟩
  rw [← hE, ← hE3] at hsn
  rw [hsn] at h4 hp2 hh
  have hl3 : es3.length = n := by rw [hE3, List.length_take]; omega
  have HP2 := hideW hp2
  have HHh := hideW hh
  have HE := hideW (hE.trans he0)
  have HL3 := hideW hl3
  have mP := Tryd.mPop P w4
  clear hsn hE hE3 he0 hfar hl2 hp2 hh
  go_wp2_with fail
  refine (pop_any M B P hv es3 e w4 h4 (by rw [HL3.out]; rw [HL.out] at hn; omega)).mono ?_
  rintro r w5 ⟨rfl, hv5, h5, hob, K5⟩
  have HO := hideW hob
  clear hob
  have hperm : (e :: es3).Perm es := (List.perm_append_comm (l₁ := [e]) (l₂ := es3)).trans (HP2.out.trans (swapE_perm es h0 (by rw [HL.out]; omega)))
  have HPm := hideW hperm
  have hmin : ∀ x ∈ es3, code e.1 ≤ code x.1 := fun x hx => by
    have hxe : x ∈ es := HPm.out.mem_iff.1 (List.mem_cons_of_mem _ hx)
    obtain ⟨k, hk, rfl⟩ := List.getElem_of_mem hxe
    have := HH.out.least k (by rw [HL.out] at hk; omega)
    rw [keyAt_E, keyAt_E, ← HE.out] at this
    have e2 : es.getD k noWay = es[k] := by rw [List.getD_eq_getElem?_getD, List.getElem?_eq_getElem hk]; rfl
    rw [e2] at this
    exact this
  have HM := hideW hmin
  have hin := (h4.ins e (by simp)).keeps K5 (fun k hk => .inl (.inl hk))
  have HI := hideW (hin.mono (Y := inX B P hv5) (fun k _ hk => by
    rcases hk with (hk | hk) | hk
    · exact .inl (.inl hk)
    · exact .inl (.inr (by rw [← HO.out]; exact hk))
    · exact .inr hk))
  have hheap : IsHeap (keysE es3) es3.length := fun k k0 kn => by
    rw [HL3.out] at kn
    have := HHh.out k k0 kn
    rw [keyAt_E, keyAt_E] at this ⊢
    rw [getD_snoc_lt (by rw [HL3.out]; omega), getD_snoc_lt (by rw [HL3.out]; omega)] at this
    exact this
  have HHp := hideW hheap
  have KF := hideW ((K3.trans K4).trans' K5 (fun k _ hk => .inl hk))
  clear hperm hmin hin hheap
  go_wp2
  go_ret
  exact ⟨e, es3, hv5, rfl, HPm.out, HM.out, h5, HHp.out, HI.out, HO.out, KF.out⟩

end Go.Proofs.YtgpaajdfkekjiaaDoor
