/-
  heap.Push and heap.Pop at package compare's ways: the least way first.
-/
import Derived.Test.YtgpaajdfkekjiaaDoorCmpF
namespace Go.Proofs.YtgpaajdfkekjiaaDoor
open Go.RowKit

theorem Keeps.trans' {S T : Nat → Prop} {a b c : World} (h : Keeps S a b) (k : Keeps T b c) (hT : ∀ i, i < a.heap.size → T i → S i) : Keeps S a c :=
  ⟨k.os.trans h.os, k.tape.trans h.tape, k.output.trans h.output, Nat.le_trans h.size k.size, fun i hi ho => (k.block i (Nat.lt_of_lt_of_le hi h.size) (fun t => ho (hT i hi t))).trans (h.block i hi ho)⟩
theorem keysE_snoc (es : List (List Nat × Value)) (e : List Nat × Value) : keysE (es ++ [e]) = keysE es ++ [e.1] := by simp [keysE]

set_option maxHeartbeats 2000000 in
set_option maxRecDepth 100000 in
theorem heapPush_any (M : Duo) (B P : Nat) (hv : Value) (es : List (List Nat × Value)) (e : List Nat × Value) (w : World) (h : WaysAt M B w P hv es) (hg : GoodW es) (hd : Dig e.1 ∧ e.1.length ≤ 500) (he : InAt w (inX B P hv) e.2 e.1) (hn : es.length ≤ 9000) (hB : B ≤ w.heap.size) (hH : IsHeap (keysE es) es.length) :
    Calls Tryd.prog 49 #[heapI P, .iface 95 (wayV M e)] w fun r w' => r = .returned (.tuple #[]) ∧ ∃ hv' es', es'.Perm (es ++ [e]) ∧ WaysAt M B w' P hv' es' ∧ IsHeap (keysE es') es'.length ∧ Keeps (heapBlocks P hv) w w' ∧ ∀ q, hv'.ownBlock = some q → hv.ownBlock = some q ∨ w.heap.size ≤ q := by
  have mP := Tryd.mPush P w
  have hu := UpInv.push (l := keysE es) (by rw [keysE_len]; exact hH) e.1
  rw [← keysE_snoc, keysE_len] at hu
  have HU := hideW hu
  have hgood : GoodW (es ++ [e]) := fun x hx => by
    rcases List.mem_append.1 hx with hx | hx
    · exact hg x hx
    · simp at hx; subst hx; exact hd
  have hl : (es ++ [e]).length = es.length + 1 := by simp
  have HL := hideW hl
  have HH := hideW hH
  clear hu hl hH
  unfold heapI
  go_enter Tryd.func49, Tryd.ntmps49
  go_wp2_with fail
  refine (push_any M B P hv es e _ h he (by omega) hB).mono ?_
  rintro r w1 ⟨rfl, hv1, ⟨h1, hnew⟩, K1⟩
  obtain ⟨g, cap, hsl, _⟩ := h1.slice (by rw [HL.out]; omega)
  rw [HL.out] at hsl
  have HS := hideW hsl
  clear hsl
  have mL := Tryd.mLen h1.cell
  have HN := hideW hnew
  clear hnew
  go_wp2_with fail
  refine (len_any hv1 _ _ _ _ HS.out).mono ?_
  rintro r w2 ⟨rfl, hw2⟩
  obtain rfl := hw2.symm
  have q1 : ((es.length + 1 : Nat) : Int) - 1 = (es.length : Int) := by omega
  have hup := up_any M B P hv1 (es ++ [e]) es.length w1 h1 hgood (by rw [HL.out]; omega) (by rw [HL.out]; omega) (by rw [HL.out]; exact HU.out)
  rw [HL.out] at hup
  unfold heapI at hup
  go_wp2_with fail
  refine hup.mono ?_
  rintro r w3 ⟨rfl, es', hp, h3, hh, K3⟩
  have fin := hideW (K1.trans' K3 (fun k hk hb => by
    rcases hb with hb | hb
    · exact .inl hb
    · rcases HN.out k hb with hb | hb
      · exact .inr hb
      · omega))
  go_wp2
  go_end0
  exact ⟨rfl, hv1, es', hp, h3, by rw [hp.length_eq, HL.out]; exact hh, fin.out, HN.out⟩

end Go.Proofs.YtgpaajdfkekjiaaDoor
