/-
  A list whose owner has written one mark over it, and what an append of marks to it does: it stays marked; the new list is marked, in its spare room or in new memory.
-/
import Derived.WalkKit
import Derived.Deep.AppendLies
import Derived.Deep.DeepAppendRoom
import Derived.ArgAppend
import Derived.Deep.OwnRows
namespace Go.Proofs.YtgpaajdfkekjiaaDoor
open Go.RowKit

/-- The list v has n elements of sz cells; the first r elements of its memory bear the mark f. -/
def Marked (E : TypeId) (sz : Nat) (f : Nat → Value) (w : World) (v : Value) (n r : Nat) : Prop :=
  (v = .slice none 0 0 ∧ n = 0 ∧ r = 0) ∨ ∃ g cap cur, v = .slice (some ⟨g, 0, none⟩) n cap ∧ w.heap[g]? = some (.cells cur E (0, 0)) ∧ n ≤ r ∧ r ≤ cap ∧ cap ≤ maxLen ∧ cur.size = cap * sz ∧ ∀ i, i < r * sz → cur[i]? = some (f i)

def marksL (f : Nat → Value) (k : Nat) : List Value := (List.range k).map f
theorem marksL_len (f : Nat → Value) (k : Nat) : (marksL f k).length = k := by simp [marksL]
theorem marksL_get {f : Nat → Value} {k j : Nat} (h : j < k) : (marksL f k)[j]? = some (f j) := by simp [marksL, h]

theorem Marked.own {E : TypeId} {sz : Nat} {f : Nat → Value} {w : World} {v : Value} {n r : Nat} (h : Marked E sz f w v n r) : w.ownsRow 0 E sz v n (marksL f (n * sz)) := by
  refine ⟨marksL_len _ _, ?_⟩
  rcases h with ⟨h1, h2, _⟩ | ⟨g, cap, cur, hv, hg, hnr, hrc, hm, hs, hc⟩
  · exact .inl ⟨h1, h2⟩
  · refine .inr ⟨g, cap, cur, hv, Nat.zero_le _, hg, Nat.le_trans hnr hrc, hm, hs, ?_⟩
    have h1 : n * sz ≤ r * sz := Nat.mul_le_mul_right _ hnr
    have h2 : r * sz ≤ cap * sz := Nat.mul_le_mul_right _ hrc
    apply List.ext_getElem?
    intro i
    by_cases hi : i < n * sz
    · rw [List.getElem?_take_of_lt hi, marksL_get hi]
      have := hc i (by omega)
      simpa using this
    · rw [List.getElem?_eq_none (by simp; omega), List.getElem?_eq_none (by rw [marksL_len]; omega)]

theorem Marked.block {E : TypeId} {sz : Nat} {f : Nat → Value} {w w' : World} {v : Value} {n r : Nat} (h : Marked E sz f w v n r) (hb : ∀ g, v.ownBlock = some g → w'.heap[g]? = w.heap[g]?) : Marked E sz f w' v n r := by
  rcases h with h | ⟨g, cap, cur, hv, hg, hrest⟩
  · exact .inl h
  · exact .inr ⟨g, cap, cur, hv, by rw [hb g (by rw [hv]; rfl)]; exact hg, hrest⟩

theorem Marked.cell {E : TypeId} {sz : Nat} {f : Nat → Value} {w : World} {v : Value} {n r g i : Nat} (h : Marked E sz f w v n r) (hv : v.ownBlock = some g) (hi : i < r * sz) : w.cell? ⟨g, i, none⟩ = some (f i) := by
  rcases h with ⟨h, _⟩ | ⟨g', cap, cur, hv', hg, _, _, _, _, hc⟩
  · rw [h] at hv; cases hv
  · rw [hv'] at hv
    simp only [Value.ownBlock, Option.some.injEq] at hv
    subst hv
    rw [cell_of_row w g' i cur E (0, 0) hg]
    exact hc i hi
theorem Marked.lt {E : TypeId} {sz : Nat} {f : Nat → Value} {w : World} {v : Value} {n r g : Nat} (h : Marked E sz f w v n r) (hv : v.ownBlock = some g) : g < w.heap.size := by
  exact (h.own.lt g hv).2

/-- A list behind an append: it lies in the old one's memory, whose mark reaches so far, or in new memory that bears the mark. -/
def NewMarks (sz : Nat) (f : Nat → Value) (w w' : World) (v : Value) (k r' g' : Nat) : Prop :=
  (v.ownBlock = some g' ∧ k ≤ r') ∨ (w.heap.size ≤ g' ∧ g' < w'.heap.size ∧ ∀ i, i < k * sz → w'.cell? ⟨g', i, none⟩ = some (f i))

set_option maxHeartbeats 400000 in
theorem wpList_append_marked {P : Program} (w : World) {ops : Array Oper} {rest : List Oper} {o : Oper} {a : Act} {Q : Exit → Act → World → Prop} (hgd : o.guard = none) (s x : Operand) (t : TypeId)
    (ho : o.op = .call { callee := .builtin .append, args := #[s, x], argTypes := #[t, t] })
    (E : TypeId) (i : TypeInfo) (z : Value) (sz bytes : Nat) (ht : P.underlying t = some (.slice E)) (hi : P.info? E = some i) (hz : i.zero = some z)
    (hsize : i.size = sz) (hby : i.bytes = bytes) (hzs : z.cells.size = sz) (hsz : 0 < sz) (f : Nat → Value)
    (v : Value) (n r : Nat) (hs : a.eval s = v) (hM : Marked E sz f w v n r)
    (ad : Addr) (m c : Nat) (news : List Value) (hx : a.eval x = .slice (some ad) m c) (hl : news.length = m * sz) (hnews : ∀ j u, news[j]? = some u → w.cell? (ad.add j) = some u) (h1 : ∀ u ∈ news, u.oneCell' = true)
    (hf : marksL f (n * sz) ++ news = marksL f ((n + m) * sz)) (hm : 0 < m) (hr : r ≤ n + m) (h63 : n + m ≤ maxLen) (hbytes : (n + m) * bytes ≤ 140737488355328)
    (h : ∀ g' cap' w' r', r ≤ r' → r' ≤ n + m → Marked E sz f w' v n r' → w.grownBy w' v.ownBlock → NewMarks sz f w w' v (n + m) r' g' → wpList P ops Q rest (a.put o.dst (.slice (some ⟨g', 0, none⟩) (n + m) cap')) w') : wpList P ops Q (o :: rest) a w := by
  have hown := hM.own
  rcases hM with ⟨hv, hn, hr0⟩ | ⟨g, cap, cur, hv, hg, hnr, hrc, hmx, hcs, hc⟩
  · subst hv hn hr0
    refine wpList_append_grows (P := P) w hgd s x t ho E i z sz bytes ht hi hz hsize hby hzs hsz none 0 0 (marksL f (0 * sz)) hs (fun _ => ⟨rfl, rfl⟩) (marksL_len _ _) (fun b e => by cases e) ad m c news hx hl hnews h1 (by omega) h63 hbytes (fun v' w' own' grow' => ?_)
    obtain ⟨g', cap', rfl, hge, hlt⟩ := own'.form (by omega)
    refine h g' cap' w' 0 (Nat.le_refl _) (by omega) (.inl ⟨rfl, rfl, rfl⟩) grow' (.inr ⟨hge, hlt, fun j hj => ?_⟩)
    rw [own'.cellAt j hj, hf, marksL_get hj]
  · subst hv
    by_cases hroom : n + m ≤ cap
    · refine wpList_append_own_spare (P := P) w hgd s x t ho 0 E i sz ht hi hsize g n cap _ hs hown ad m c news hx hl hnews h1 hroom (fun w' own' grow' => ?_)
      have hk : ∃ cur', w'.heap[g]? = some (.cells cur' E (0, 0)) ∧ cur'.size = cap * sz ∧ cur'.toList.take ((n + m) * sz) = marksL f ((n + m) * sz) := by
        rcases own'.2 with ⟨hh, _⟩ | ⟨g2, cap2, cur2, hv2, _, hg2, _, _, hcs2, ht2⟩
        · cases hh
        · simp only [Value.slice.injEq, Option.some.injEq, Addr.mk.injEq, and_true, true_and] at hv2
          obtain ⟨rfl, rfl⟩ := hv2
          exact ⟨cur2, hg2, hcs2, by rw [ht2, hf]⟩
      obtain ⟨cur', hg', hcs', ht'⟩ := hk
      refine h g cap w' (n + m) hr (Nat.le_refl _) (.inr ⟨g, cap, cur', rfl, hg', by omega, hroom, hmx, hcs', fun j hj => ?_⟩) grow' (.inl ⟨rfl, Nat.le_refl _⟩)
      have := congrArg (fun l => l[j]?) ht'
      simp only [List.getElem?_take_of_lt hj, marksL_get hj] at this
      simpa using this
    · refine wpList_append_grows (P := P) w hgd s x t ho E i z sz bytes ht hi hz hsize hby hzs hsz (some ⟨g, 0, none⟩) n cap (marksL f (n * sz)) hs (fun e => by cases e) (marksL_len _ _)
        (fun b e j u hj => by
          injection e with e
          subst e
          exact hown.cells (g := g) rfl j u hj) ad m c news hx hl hnews h1 (by omega) h63 hbytes (fun v' w' own' grow' => ?_)
      obtain ⟨g', cap', rfl, hge, hlt⟩ := own'.form (by omega)
      have hlg : g < w.heap.size := (Array.getElem?_eq_some_iff.1 hg).1
      refine h g' cap' w' r (Nat.le_refl _) hr (.inr ⟨g, cap, cur, rfl, by rw [grow'.block g hlg (by simp)]; exact hg, hnr, hrc, hmx, hcs, hc⟩) ⟨grow'.os, grow'.tape, grow'.output, grow'.size, fun k hk _ => grow'.block k hk (by simp)⟩ (.inr ⟨hge, hlt, fun j hj => ?_⟩)
      rw [own'.cellAt j hj, hf, marksL_get hj]

end Go.Proofs.YtgpaajdfkekjiaaDoor
