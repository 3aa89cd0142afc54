/-
  The one answer of Read, of any text; the program's Read and the reference's give it.
-/
import Derived.Test.YtgpaajdfkekjiaaGreatDoorRefRead
import Derived.Test.YtgpaajdfkekjiaaGreatDoorReadAll
import Derived.Test.YtgpaajdfkekjiaaGreatDoorTxtAll
import Derived.Test.YtgpaajdfkekjiaaGreatDoorSameC
namespace Go.Proofs.YtgpaajdfkekjiaaGreatDoor
open Go.RowKit

set_option maxHeartbeats 2000000 in
set_option maxRecDepth 100000 in
theorem refRead_long (S : List UInt8) (w : World) (hS : 1000 < S.length) (hS2 : S.length < 9223372036854775808) : Calls Tryz.prog 20 #[.string ⟨S.toArray⟩] w (RReadRes w S) := by
  have hc : ((⟨S.toArray⟩ : ByteArray).size : Int) = S.length := by rw [bsize]
  have hbox : (w.alloc (.cells #[.int .i64 0, .slice none 0 0, .slice none 0 0, .slice none 0 0] 34)).heap[w.heap.size]? = some (.cells #[.int .i64 0, .slice none 0 0, .slice none 0 0, .slice none 0 0] 34 (0, 0)) := heap_alloc_new _ _
  have hbel : Below w.heap.size w (w.alloc (.cells #[.int .i64 0, .slice none 0 0, .slice none 0 0, .slice none 0 0] 34)) := (Below.refl _ _).alloc (Nat.le_refl _) _
  have hS' : (1000 : Int) < (S.length : Int) := by omega
  have q0 := cell_of_row _ _ 0 _ _ _ hbox
  have q1 := cell_of_row _ _ 1 _ _ _ hbox
  have q2 := cell_of_row _ _ 2 _ _ _ hbox
  have q3 := cell_of_row _ _ 3 _ _ _ hbox
  obtain ⟨W0, hW0⟩ : ∃ W0, W0 = w.alloc (.cells #[.int .i64 0, .slice none 0 0, .slice none 0 0, .slice none 0 0] 34) := ⟨_, rfl⟩
  rw [← hW0] at hbox hbel q0 q1 q2 q3
  have qf0 : W0.frozen? ⟨w.heap.size, 0, none⟩ = false := frozen_of_row _ _ _ _ _ hbox
  have qf1 : W0.frozen? ⟨w.heap.size, 1, none⟩ = false := frozen_of_row _ _ _ _ _ hbox
  have qf2 : W0.frozen? ⟨w.heap.size, 2, none⟩ = false := frozen_of_row _ _ _ _ _ hbox
  have qf3 : W0.frozen? ⟨w.heap.size, 3, none⟩ = false := frozen_of_row _ _ _ _ _ hbox
  go_enter Tryz.func20, Tryz.ntmps20
  go_upto_region 1 with fail
  rw [← hW0]
  clear hW0
  go_wp2
  refine rread_close (b := w.heap.size) (x := .int .i64 0) (y := .int .i64 1) (box4_blk hbox _ _ _ _) rfl rfl rfl ?_
  exact ⟨box4_below hbel (Nat.le_refl _) _ _ _ _, .inl ⟨0, .inl ⟨hS, rfl, rfl⟩, rfl⟩⟩

/-- What Read answers of a text: the circuit, the line, the error. -/
def RdIs (S : List UInt8) (z : Int) (L G : List (Int × Int)) (O : List Int) (l r : Int) : Prop :=
  (z = 0 ∧ L = [] ∧ G = [] ∧ O = [] ∧ r = 1 ∧ ∃ line : Nat, l = line ∧ Ans S none line) ∨ (l = 0 ∧ r = 0 ∧ ∃ n : Nat, z = n ∧ Ans S (some ⟨n, L, G, O⟩) 0)
theorem rdIs_one (S : List UInt8) (z : Int) (L G : List (Int × Int)) (O : List Int) (l r z' : Int) (L' G' : List (Int × Int)) (O' : List Int) (l' r' : Int) (h : RdIs S z L G O l r) (h' : RdIs S z' L' G' O' l' r') : z = z' ∧ L = L' ∧ G = G' ∧ O = O' ∧ l = l' ∧ r = r' := by
  rcases h with ⟨rfl, rfl, rfl, rfl, rfl, a, rfl, ha⟩ | ⟨rfl, rfl, n, rfl, ha⟩
  · rcases h' with ⟨rfl, rfl, rfl, rfl, rfl, b, rfl, hb⟩ | ⟨_, _, _, _, hb⟩
    · obtain ⟨_, rfl⟩ := ans_one ha hb
      exact ⟨rfl, rfl, rfl, rfl, rfl, rfl⟩
    · have := (ans_one ha hb).1
      cases this
  · rcases h' with ⟨_, _, _, _, _, _, _, hb⟩ | ⟨rfl, rfl, m, rfl, hb⟩
    · have := (ans_one ha hb).1
      cases this
    · have := (ans_one ha hb).1
      simp only [Option.some.injEq, Circ.mk.injEq] at this
      obtain ⟨rfl, rfl, rfl, rfl⟩ := this
      exact ⟨rfl, rfl, rfl, rfl, rfl, rfl⟩
theorem rdIs_len (S : List UInt8) (z : Int) (L G : List (Int × Int)) (O : List Int) (l r : Int) (h : RdIs S z L G O l r) : L.length ≤ 900 ∧ G.length ≤ 900 ∧ O.length ≤ 900 := by
  rcases h with ⟨_, rfl, rfl, rfl, _⟩ | ⟨_, _, n, _, ha⟩
  · simp
  · obtain ⟨_, hr, _⟩ := ans_txt ha
    simp only [rightB, sizesB, Bool.and_eq_true, decide_eq_true_eq, inB] at hr
    obtain ⟨⟨⟨⟨⟨⟨h1, h2⟩, h3⟩, h4⟩, hl⟩, hg⟩, ho⟩ := hr
    omega
theorem latchRead_end (S : List UInt8) (w : World) (hL : Lib0 w) (hS2 : S.length < 9223372036854775808) :
    Calls Tryz.prog 10 #[.string ⟨S.toArray⟩] w fun e w' => ∃ z L G O l r, RdIs S z L G O l r ∧ CircEnd w z L G O (fun c => .tuple #[c, .int .i64 l, .int .i64 r]) e w' :=
  (latchRead_all S w hL hS2).mono fun e w' ⟨b, h⟩ => by
    rcases h with ⟨line, ha, rfl⟩ | ⟨n, ls, gs, os, lv, gv, ov, ha, rfl, oL, oG, oO, d1, d2, d3⟩
    · exact ⟨0, [], [], [], line, 1, .inl ⟨rfl, rfl, rfl, rfl, rfl, line, rfl, ha⟩, none, none, none, 0, 0, 0, rfl, World.ownsRow_nil _ _ _ _, World.ownsRow_nil _ _ _ _, World.ownsRow_nil _ _ _ _, (fun b e => by cases e), (fun b e => by cases e), (fun b e => by cases e), b⟩
    · obtain ⟨la, lc, rfl⟩ := own_slice_lenN oL
      obtain ⟨ga, gc, rfl⟩ := own_slice_lenN oG
      obtain ⟨oa, oc, rfl⟩ := own_slice_lenN oO
      exact ⟨n, ls, gs, os, 0, 0, .inr ⟨rfl, rfl, n, rfl, ha⟩, la, ga, oa, lc, gc, oc, rfl, oL, oG, oO, d2, d3, fun b e e' => d1 b e' e, b⟩
theorem refRead_end (S : List UInt8) (w : World) (hS2 : S.length < 9223372036854775808) :
    Calls Tryz.prog 20 #[.string ⟨S.toArray⟩] w fun e w' => ∃ z L G O l r, RdIs S z L G O l r ∧ CircSeen w z L G O (fun c => .tuple #[c, .int .i64 l, .int .i64 r]) e w' := by
  have h : Calls Tryz.prog 20 #[.string ⟨S.toArray⟩] w (RReadRes w S) := by
    by_cases hS : S.length ≤ 1000
    · exact refRead_short S w hS
    · exact refRead_long S w (by omega) hS2
  refine h.mono fun e w' ⟨b, h⟩ => ?_
  rcases h with ⟨line, ha, rfl⟩ | ⟨n, ls, gs, os, la, ga, oa, lc, gc, oc, ha, rfl, oL, oG, oO⟩
  · exact ⟨0, [], [], [], line, 1, .inl ⟨rfl, rfl, rfl, rfl, rfl, line, rfl, ha⟩, none, none, none, 0, 0, 0, rfl, .inl rfl, .inl rfl, .inl rfl, b⟩
  · exact ⟨n, ls, gs, os, 0, 0, .inr ⟨rfl, rfl, n, rfl, ha⟩, la, ga, oa, lc, gc, oc, rfl, own_pairsC oL, own_pairsC oG, own_intsC oO, b⟩

end Go.Proofs.YtgpaajdfkekjiaaGreatDoor
