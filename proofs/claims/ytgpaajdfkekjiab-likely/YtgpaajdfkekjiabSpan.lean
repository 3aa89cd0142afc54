/-
  Worlds that part in a span of blocks and in new blocks alone; small facts on rows.
-/
import Derived.Test.YtgpaajdfkekjiabBase
import Derived.Laws.CopyOwn
import Derived.Deep.OwnRows
namespace Go.Proofs.Ytgpaajdfkekjiab
open Go.RowKit

/-- All blocks that were there are as they were, but for those from 'lo' on and below 'hi'. -/
structure Span (lo hi : Nat) (w w' : World) : Prop where
  os : w'.os = w.os
  tape : w'.tape = w.tape
  output : w'.output = w.output
  size : w.heap.size ≤ w'.heap.size
  block : ∀ k, k < w.heap.size → (k < lo ∨ hi ≤ k) → w'.heap[k]? = w.heap[k]?

theorem Span.refl (lo hi : Nat) (w : World) : Span lo hi w w := ⟨rfl, rfl, rfl, Nat.le_refl _, fun _ _ _ => rfl⟩
theorem Span.trans {lo hi : Nat} {a b c : World} (h : Span lo hi a b) (k : Span lo hi b c) : Span lo hi a c :=
  ⟨k.os.trans h.os, k.tape.trans h.tape, k.output.trans h.output, Nat.le_trans h.size k.size, fun i hi ho => (k.block i (Nat.lt_of_lt_of_le hi h.size) ho).trans (h.block i hi ho)⟩
theorem Span.mono {lo hi lo' hi' : Nat} {a b : World} (h : Span lo hi a b) (h1 : lo' ≤ lo) (h2 : hi ≤ hi') : Span lo' hi' a b :=
  ⟨h.os, h.tape, h.output, h.size, fun k hk ho => h.block k hk (by omega)⟩
theorem Span.of_below {lo hi : Nat} {a b : World} (h : Below a.heap.size a b) : Span lo hi a b := ⟨h.os, h.tape, h.output, h.size, fun k hk _ => h.block k hk⟩
theorem Span.below {lo hi B : Nat} {a b : World} (h : Span lo hi a b) (hB : B ≤ lo) (hs : B ≤ a.heap.size) : Below B a b := ⟨h.os, h.tape, h.output, h.size, fun k hk => h.block k (by omega) (.inl (by omega))⟩
theorem Span.cell {lo hi : Nat} {a b : World} (h : Span lo hi a b) {p : Addr} (h1 : p.block < a.heap.size) (h2 : p.block < lo ∨ hi ≤ p.block) : b.cell? p = a.cell? p := World.cell?_of_block (w := a) (h.block _ h1 h2)
theorem Span.alloc {lo hi : Nat} {a b : World} (h : Span lo hi a b) (o : Obj) : Span lo hi a (b.alloc o) := h.trans (Span.of_below ((Below.refl _ _).alloc (Nat.le_refl _) o))
theorem Span.drew {lo hi : Nat} {a b : World} (h : Span lo hi a b) : Span lo hi a b.drew := ⟨h.os, h.tape, h.output, h.size, h.block⟩
theorem Span.setCell {lo hi : Nat} {a b : World} (h : Span lo hi a b) {p : Addr} (h1 : lo ≤ p.block) (h2 : p.block < hi) (v : Value) : Span lo hi a (b.setCell p v) :=
  h.trans ⟨rfl, rfl, rfl, by rw [Deep.nblk_setCell]; exact Nat.le_refl _, fun k _ ho => Deep.blk_setCell_other _ _ _ _ (by omega)⟩

theorem IntsAt.span {lo hi : Nat} {w w' : World} {a : Option Addr} {xs : List Int} (h : IntsAt w a xs) (hs : Span lo hi w w') (hb : ∀ b o, a = some ⟨b, o, none⟩ → b < lo ∨ hi ≤ b) : IntsAt w' a xs := by
  rcases h with h | ⟨b, off, ha, hlt, hc⟩
  · exact .inl h
  · exact .inr ⟨b, off, ha, Nat.lt_of_lt_of_le hlt hs.size, fun i hi => (hs.cell (p := ⟨b, _, none⟩) hlt (hb b off ha)).trans (hc i hi)⟩

/-- A list of ints that lies below a block number. -/
def IntsIn (B : Nat) (w : World) (a : Option Addr) (xs : List Int) : Prop :=
  xs = [] ∨ ∃ b off, a = some ⟨b, off, none⟩ ∧ b < B ∧ b < w.heap.size ∧ ∀ i, i < xs.length → w.cell? ⟨b, off + i, none⟩ = some (.int .i64 (xs.getD i 0))
theorem IntsAt.into {w : World} {a : Option Addr} {xs : List Int} (h : IntsAt w a xs) : IntsIn w.heap.size w a xs := by
  rcases h with h | ⟨b, off, ha, hlt, hc⟩
  · exact .inl h
  · exact .inr ⟨b, off, ha, hlt, hlt, hc⟩
theorem IntsIn.at {B : Nat} {w : World} {a : Option Addr} {xs : List Int} (h : IntsIn B w a xs) : IntsAt w a xs := by
  rcases h with h | ⟨b, off, ha, _, hlt, hc⟩
  · exact .inl h
  · exact .inr ⟨b, off, ha, hlt, hc⟩
theorem alloc_blk2 (w : World) (o : Obj) (B : Nat) (hB : B = w.heap.size) : (w.alloc o).heap[B]? = some o := by subst hB; exact heap_alloc_new w o
theorem IntsIn.mono {B B' : Nat} {w : World} {a : Option Addr} {xs : List Int} (h : IntsIn B w a xs) (hB : B ≤ B') : IntsIn B' w a xs := by
  rcases h with h | ⟨b, off, ha, hb, hr⟩
  · exact .inl h
  · exact .inr ⟨b, off, ha, Nat.lt_of_lt_of_le hb hB, hr⟩
theorem IntsIn.get {B : Nat} {w : World} {a : Option Addr} {xs : List Int} (h : IntsIn B w a xs) (hx : 0 < xs.length) :
    ∃ b off, a = some ⟨b, off, none⟩ ∧ b < B ∧ b < w.heap.size ∧ ∀ i, i < xs.length → w.cell? ⟨b, off + i, none⟩ = some (.int .i64 (xs.getD i 0)) := by
  rcases h with rfl | h
  · simp at hx
  · exact h
theorem IntsIn.span {B lo hi : Nat} {w w' : World} {a : Option Addr} {xs : List Int} (h : IntsIn B w a xs) (hs : Span lo hi w w') (hB : B ≤ lo) : IntsIn B w' a xs := by
  rcases h with h | ⟨b, off, ha, hb, hlt, hc⟩
  · exact .inl h
  · exact .inr ⟨b, off, ha, hb, Nat.lt_of_lt_of_le hlt hs.size, fun i hi => (hs.cell (p := ⟨b, _, none⟩) hlt (.inl (Nat.lt_of_lt_of_le hb hB))).trans (hc i hi)⟩
theorem IntsIn.below {B : Nat} {w w' : World} {a : Option Addr} {xs : List Int} (h : IntsIn B w a xs) (hs : Below w.heap.size w w') : IntsIn B w' a xs := by
  rcases h with h | ⟨b, off, ha, hb, hlt, hc⟩
  · exact .inl h
  · exact .inr ⟨b, off, ha, hb, Nat.lt_of_lt_of_le hlt hs.size, fun i hi => (hs.cell (p := ⟨b, _, none⟩) hlt).trans (hc i hi)⟩

/-- A list of pairs that lies below a block number. -/
def PairsIn (B : Nat) (w : World) (a : Option Addr) (ps : List (Int × Int)) : Prop :=
  ps = [] ∨ ∃ b off, a = some ⟨b, off, none⟩ ∧ b < B ∧ b < w.heap.size ∧ ∀ i, i < ps.length →
    w.cell? ⟨b, off + i * 2, none⟩ = some (.int .i64 (ps.getD i (0, 0)).1) ∧ w.cell? ⟨b, off + i * 2 + 1, none⟩ = some (.int .i64 (ps.getD i (0, 0)).2)
theorem PairsAt.into {w : World} {a : Option Addr} {ps : List (Int × Int)} (h : PairsAt w a ps) : PairsIn w.heap.size w a ps := by
  rcases h with h | ⟨b, off, ha, hlt, hc⟩
  · exact .inl h
  · exact .inr ⟨b, off, ha, hlt, hlt, hc⟩
theorem PairsIn.at {B : Nat} {w : World} {a : Option Addr} {ps : List (Int × Int)} (h : PairsIn B w a ps) : PairsAt w a ps := by
  rcases h with h | ⟨b, off, ha, _, hlt, hc⟩
  · exact .inl h
  · exact .inr ⟨b, off, ha, hlt, hc⟩
theorem PairsIn.mono {B B' : Nat} {w : World} {a : Option Addr} {ps : List (Int × Int)} (h : PairsIn B w a ps) (hB : B ≤ B') : PairsIn B' w a ps := by
  rcases h with h | ⟨b, off, ha, hb, hr⟩
  · exact .inl h
  · exact .inr ⟨b, off, ha, Nat.lt_of_lt_of_le hb hB, hr⟩
theorem PairsIn.get {B : Nat} {w : World} {a : Option Addr} {ps : List (Int × Int)} (h : PairsIn B w a ps) (hx : 0 < ps.length) :
    ∃ b off, a = some ⟨b, off, none⟩ ∧ b < B ∧ b < w.heap.size ∧ ∀ i, i < ps.length →
    w.cell? ⟨b, off + i * 2, none⟩ = some (.int .i64 (ps.getD i (0, 0)).1) ∧ w.cell? ⟨b, off + i * 2 + 1, none⟩ = some (.int .i64 (ps.getD i (0, 0)).2) := by
  rcases h with rfl | h
  · simp at hx
  · exact h
theorem PairsIn.span {B lo hi : Nat} {w w' : World} {a : Option Addr} {ps : List (Int × Int)} (h : PairsIn B w a ps) (hs : Span lo hi w w') (hB : B ≤ lo) : PairsIn B w' a ps := by
  rcases h with h | ⟨b, off, ha, hb, hlt, hc⟩
  · exact .inl h
  · exact .inr ⟨b, off, ha, hb, Nat.lt_of_lt_of_le hlt hs.size, fun i hi => ⟨(hs.cell (p := ⟨b, _, none⟩) hlt (.inl (Nat.lt_of_lt_of_le hb hB))).trans (hc i hi).1, (hs.cell (p := ⟨b, _, none⟩) hlt (.inl (Nat.lt_of_lt_of_le hb hB))).trans (hc i hi).2⟩⟩
theorem PairsIn.below {B : Nat} {w w' : World} {a : Option Addr} {ps : List (Int × Int)} (h : PairsIn B w a ps) (hs : Below w.heap.size w w') : PairsIn B w' a ps := by
  rcases h with h | ⟨b, off, ha, hb, hlt, hc⟩
  · exact .inl h
  · exact .inr ⟨b, off, ha, hb, Nat.lt_of_lt_of_le hlt hs.size, fun i hi => ⟨(hs.cell (p := ⟨b, _, none⟩) hlt).trans (hc i hi).1, (hs.cell (p := ⟨b, _, none⟩) hlt).trans (hc i hi).2⟩⟩

theorem rowIs_below {w w' : World} {b n : Nat} {t : TypeId} {f : Nat → Value} (h : w.rowIs b t n f) (hb : Below w.heap.size w w') : w'.rowIs b t n f := h.of_block (hb.block b h.lt)
theorem rowIs_span {lo hi : Nat} {w w' : World} {b n : Nat} {t : TypeId} {f : Nat → Value} (h : w.rowIs b t n f) (hs : Span lo hi w w') (ho : b < lo ∨ hi ≤ b) : w'.rowIs b t n f := h.of_block (hs.block b h.lt ho)

/-- A row out of a block that is known whole. -/
theorem rowIs_of_list {w : World} {b : Nat} {t : TypeId} {cs : List Value} {f : Nat → Value} (h : w.heap[b]? = some (.cells cs.toArray t (0, 0))) (hf : ∀ i, i < cs.length → cs[i]? = some (f i)) : w.rowIs b t cs.length f :=
  ⟨cs.toArray, h, by simp, fun i hi => by simpa using hf i hi⟩

/-- A list that is handed in, with eight marked places behind it. -/
def hInt (xs : List Int) (i : Nat) : Value := .int .i64 (if i < xs.length then xs.getD i 0 else -5)

end Go.Proofs.Ytgpaajdfkekjiab
