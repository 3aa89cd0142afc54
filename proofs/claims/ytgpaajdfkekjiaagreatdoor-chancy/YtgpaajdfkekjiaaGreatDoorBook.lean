/-
  The book of package latchlaw (lists of ints alone): what reads answers of it.
-/
import Derived.Test.YtgpaajdfkekjiaaGreatDoorUntouched
import Derived.Test.YtgpaajdfkekjiaaGreatDoorKeeps
namespace Go.Proofs.YtgpaajdfkekjiaaGreatDoor
open Go.RowKit

/-- A list in the book: its value, and what its cells hold. -/
structure Entry where
  a : Option Addr
  len : Nat
  cap : Nat
def Entry.val (e : Entry) : Value := .slice e.a e.len e.cap
def Entry.Good (S : Nat → Prop) (P : Nat) (hv : Value) (w : World) (m : Int) (e : Entry) : Prop :=
  e.len = 0 ∨ ∃ b, e.a = some ⟨b, 0, none⟩ ∧ S b ∧ b ≠ P ∧ hv.ownBlock ≠ some b ∧ b < w.heap.size ∧ ∀ i, i < e.len → w.cell? ⟨b, i, none⟩ = some (.int .i64 m)

/-- The book lies at block P; it holds these lists of ints, and no others. All its blocks are of S. -/
structure BookAt (S : Nat → Prop) (w : World) (P : Nat) (hv : Value) (es : List Entry) : Prop where
  sp : S P
  lt : P < w.heap.size
  c0 : w.cell? ⟨P, 0, none⟩ = some hv
  c1 : w.cell? ⟨P, 1, none⟩ = some (.slice none 0 0)
  c2 : w.cell? ⟨P, 2, none⟩ = some (.slice none 0 0)
  c3 : w.cell? ⟨P, 3, none⟩ = some (.slice none 0 0)
  fz : w.frozen? ⟨P, 0, none⟩ = false
  own : w.ownsRow 0 32 1 hv es.length (es.map Entry.val)
  hb : ∀ q, hv.ownBlock = some q → S q ∧ q ≠ P
  len : es.length ≤ 1000
  good : ∀ k, (h : k < es.length) → es[k].len ≤ 1000 ∧ Entry.Good S P hv w (-1 - (k / 4 : Nat)) es[k]

set_option maxHeartbeats 1000000 in
set_option maxRecDepth 100000 in
theorem reads_any (S : Nat → Prop) (P : Nat) (hv : Value) (es : List Entry) (w : World) (hB : BookAt S w P hv es) :
    Calls Tryz.prog 21 #[.pointer (some ⟨P, 0, none⟩)] w fun e w' => e = .returned (.bool true) ∧ w' = w := by
  obtain ⟨_, _, c0, c1, c2, c3, _, own, _, hlen, good⟩ := hB
  have hform : ∃ ha hc, hv = .slice ha es.length hc := by
    rcases own.2 with ⟨h, h0⟩ | ⟨g, cap, cur, h, _⟩
    · exact ⟨none, 0, by rw [h, h0]⟩
    · exact ⟨_, _, h⟩
  obtain ⟨ha, hc, rfl⟩ := hform
  go_enter Tryz.func21, Tryz.ntmps21
  go_wp2
  go_loop [3, 4, 5] (fun ok k _ => ∃ j : Nat, j ≤ es.length ∧ k = .int .i64 j ∧ ok = .bool true) (fun _ k _ => es.length - (intOf k).toNat)
  case atStart => exact ⟨0, Nat.zero_le _, rfl, rfl⟩
  case round =>
    obtain ⟨j, hj, rfl, rfl⟩ := hrel
    by_cases hj2 : j < es.length
    · obtain ⟨q, cap, hq, _, hlt⟩ := own.form (by omega)
      have hcj : w.cell? ⟨q, j, none⟩ = some (es[j].val) := by
        rw [hq] at own
        rw [own.cellAt j (by omega)]; simp [hj2]
      obtain ⟨l1000, gd⟩ := good j hj2
      obtain ⟨E, hE⟩ : ∃ E, E = es[j] := ⟨_, rfl⟩
      rw [← hE] at hcj l1000 gd
      obtain ⟨ea, elen, ecap⟩ := E
      simp only [Entry.val] at hcj
      simp only [Value.slice.injEq] at hq
      obtain ⟨rfl, _, rfl⟩ := hq
      clear hE own good
      go_wp2
      go_loop [3, 5] (fun ok i => ∃ m : Nat, m ≤ elen ∧ i = .int .i64 m ∧ ok = .bool true) (fun _ i => elen - (intOf i).toNat)
      case atStart => exact ⟨0, Nat.zero_le _, rfl, rfl⟩
      case round =>
        obtain ⟨m, hm, rfl, rfl⟩ := hrel
        by_cases hm2 : m < elen
        · rcases gd with h0 | ⟨b, hb, _, _, _, _, hcells⟩
          · simp only at h0; omega
          · simp only at hb hcells
            subst hb
            have hcm := hcells m hm2
            clear hcells
            go_wp2
            go_round
            case rel => exact ⟨m + 1, by omega, by go_num, rfl⟩
            case measure => simp [intOf]; omega
        · go_wp2
          go_round
          case rel => exact ⟨j + 1, by omega, by go_num, rfl⟩
          case measure => simp [intOf]; omega
    · clear own good
      go_wp2
      refine wp_loop_rounds 1 ?_
      rw [rounds_succ]
      go_wp2
      refine wp_loop_rounds 1 ?_
      rw [rounds_succ]
      go_wp2
      refine wp_loop_rounds 1 ?_
      rw [rounds_succ]
      go_wp2
      go_ret
      exact ⟨rfl, rfl⟩


theorem own_grown {w w' : World} {base e size : Nat} {v : Value} {n : Nat} {xs : List Value} {row : Option Nat} (h : w.ownsRow base e size v n xs) (hg : w.grownBy w' row) (hne : ∀ q, v.ownBlock = some q → row ≠ some q) : w'.ownsRow base e size v n xs :=
  h.kept hg (by cases hv : v.ownBlock with
    | none => exact .inl rfl
    | some q => exact .inr (fun e => hne q hv e.symm))

theorem cell_set_same {w : World} {P : Nat} {u v : Value} (h : w.cell? ⟨P, 0, none⟩ = some u) : (w.setCell ⟨P, 0, none⟩ v).cell? ⟨P, 0, none⟩ = some v := World.cell?_setCell_same' _ _ _ (by rw [h]; rfl)
theorem own_block {w w' : World} {base e size g len cap : Nat} {xs : List Value} (h : w.ownsRow base e size (.slice (some ⟨g, 0, none⟩) len cap) len xs) (hb : w'.heap[g]? = w.heap[g]?) :
    w'.ownsRow base e size (.slice (some ⟨g, 0, none⟩) len cap) len xs := by
  refine ⟨h.1, ?_⟩
  rcases h.2 with ⟨h', _⟩ | ⟨g', cap', cur, h', hbg, hr, hrest⟩
  · simp at h'
  · simp only [Value.slice.injEq, Option.some.injEq, Addr.mk.injEq, and_true, true_and] at h'
    obtain ⟨rfl, rfl⟩ := h'
    exact .inr ⟨g, cap, cur, rfl, hbg, by rw [hb]; exact hr, hrest⟩

/-- A list that goes into the book. -/
def Entry.New (a : Option Addr) (w0 w : World) (m : Int) (e : Entry) : Prop :=
  e.len ≤ 1000 ∧ (e.len = 0 ∨ ∃ b, e.a = some ⟨b, 0, none⟩ ∧ (a = some ⟨b, 0, none⟩ ∨ w0.heap.size ≤ b) ∧ b < w.heap.size ∧ ∀ i, i < e.len → w.cell? ⟨b, i, none⟩ = some (.int .i64 m))

theorem setCell_other_cell {w : World} {P b i : Nat} {v : Value} (h : b ≠ P) : (w.setCell ⟨P, 0, none⟩ v).cell? ⟨b, i, none⟩ = w.cell? ⟨b, i, none⟩ := World.cell?_of_block (w := w) (Deep.blk_setCell_other _ _ _ _ h)

theorem book_grow {S : Nat → Prop} {w w3 w4 : World} {P : Nat} {hv : Value} {es news : List Entry} {a : Option Addr} {j g' cap' : Nat} (hB : BookAt S w P hv es) (hj : es.length = 4 * j) (hj2 : j ≤ 100)
    (hSa : ∀ g, a = some ⟨g, 0, none⟩ → (∀ k, S k → k < g) ∧ g < w.heap.size) (K3 : Keeps (fun k => a = some ⟨k, 0, none⟩) w w3) (hnl : news.length = 4) (hnews : ∀ e ∈ news, Entry.New a w w3 (-1 - (j : Nat)) e)
    (own4 : w4.ownsRow 0 32 1 (.slice (some ⟨g', 0, none⟩) (4 * j + 4) cap') (4 * j + 4) (es.map Entry.val ++ news.map Entry.val)) (grow4 : w3.grownBy w4 hv.ownBlock) (hat : hv.ownBlock = some g' ∨ g' = w3.heap.size) :
    BookAt (fun k => S k ∨ a = some ⟨k, 0, none⟩ ∨ w.heap.size ≤ k) (w4.setCell ⟨P, 0, none⟩ (.slice (some ⟨g', 0, none⟩) (4 * j + 4) cap')) P (.slice (some ⟨g', 0, none⟩) (4 * j + 4) cap') (es ++ news) ∧
    Keeps (fun k => S k ∨ a = some ⟨k, 0, none⟩) w (w4.setCell ⟨P, 0, none⟩ (.slice (some ⟨g', 0, none⟩) (4 * j + 4) cap')) := by
  have hPlt := hB.lt
  have hPa : ¬ a = some ⟨P, 0, none⟩ := fun h => by have := (hSa P h).1 P hB.sp; omega
  have hq : ∀ q, hv.ownBlock = some q → S q ∧ q ≠ P ∧ q < w.heap.size := fun q h => ⟨(hB.hb q h).1, (hB.hb q h).2, (hB.own.lt q h).2⟩
  have hPq : some P ≠ hv.ownBlock := fun h => (hq P h.symm).2.1 rfl
  have hg'P : g' ≠ P := by
    rcases hat with h | h
    · exact (hq g' h).2.1
    · have := K3.size; omega
  have s3 : w.heap.size ≤ w3.heap.size := K3.size
  have pc : ∀ i, w4.cell? ⟨P, i, none⟩ = w.cell? ⟨P, i, none⟩ := fun i => (grow4.cell_far ⟨P, i, none⟩ (by show P < _; omega) hPq).trans (K3.cell (p := ⟨P, i, none⟩) hPlt hPa)
  have hsz : (w4.setCell ⟨P, 0, none⟩ (.slice (some ⟨g', 0, none⟩) (4 * j + 4) cap')).heap.size = w4.heap.size := Deep.nblk_setCell _ _ _
  have s4 : w3.heap.size ≤ w4.heap.size := grow4.size
  refine ⟨⟨.inl hB.sp, by omega, ?_, ?_, ?_, ?_, ?_, ?_, ?_, by rw [List.length_append]; omega, ?_⟩, ?_⟩
  · exact cell_set_same (by rw [pc 0]; exact hB.c0)
  · rw [World.cell?_setCell_other _ _ _ _ (by simp)]; rw [pc]; exact hB.c1
  · rw [World.cell?_setCell_other _ _ _ _ (by simp)]; rw [pc]; exact hB.c2
  · rw [World.cell?_setCell_other _ _ _ _ (by simp)]; rw [pc]; exact hB.c3
  · rw [World.frozen?_setCell]
    rw [grow4.frozen_far ⟨P, 0, none⟩ (by show P < _; omega) hPq, World.frozen?_of_block (w := w) (K3.block P hPlt hPa)]
    exact hB.fz
  · have e : (es ++ news).length = 4 * j + 4 := by rw [List.length_append]; omega
    rw [e, List.map_append]
    exact own_block own4 (Deep.blk_setCell_other _ _ _ _ hg'P)
  · intro q hq'
    simp only [Value.ownBlock, Option.some.injEq] at hq'
    subst hq'
    refine ⟨?_, hg'P⟩
    rcases hat with h | h
    · exact .inl (hq _ h).1
    · exact .inr (.inr (by omega))
  · intro k hk
    rw [List.length_append] at hk
    by_cases hk1 : k < es.length
    · rw [List.getElem_append_left hk1]
      obtain ⟨l1, gd⟩ := hB.good k hk1
      refine ⟨l1, ?_⟩
      rcases gd with h0 | ⟨b, hb, sb, bP, bq, blt, hc⟩
      · exact .inl h0
      · have hba : ¬ a = some ⟨b, 0, none⟩ := fun h => by have := (hSa b h).1 b sb; omega
        refine .inr ⟨b, hb, .inl sb, bP, ?_, by omega, fun i hi => ?_⟩
        · simp only [Value.ownBlock, ne_eq, Option.some.injEq]
          rcases hat with h | h
          · exact fun e => bq (by rw [h, e])
          · omega
        · rw [setCell_other_cell bP, grow4.cell_far ⟨b, i, none⟩ (by show b < _; omega) (fun h => bq h.symm), K3.cell (p := ⟨b, i, none⟩) blt hba]
          exact hc i hi
    · have hk2 : k - es.length < news.length := by omega
      rw [List.getElem_append_right (by omega)]
      obtain ⟨l1, gd⟩ := hnews _ (List.getElem_mem hk2)
      refine ⟨l1, ?_⟩
      rcases gd with h0 | ⟨b, hb, sb, blt, hc⟩
      · exact .inl h0
      · have hbP : b ≠ P := by
          rcases sb with h | h
          · have := (hSa b h).1 P hB.sp; omega
          · omega
        have hbq : some b ≠ hv.ownBlock := fun h => by
          have h' := hq b h.symm
          rcases sb with h2 | h2
          · have := (hSa b h2).1 b h'.1; omega
          · omega
        refine .inr ⟨b, hb, ?_, hbP, ?_, by omega, fun i hi => ?_⟩
        · rcases sb with h | h
          · exact .inr (.inl h)
          · exact .inr (.inr h)
        · simp only [Value.ownBlock, ne_eq, Option.some.injEq]
          rcases hat with h | h
          · exact fun e => hbq (by rw [h, e])
          · omega
        · rw [setCell_other_cell hbP, grow4.cell_far ⟨b, i, none⟩ (by show b < _; omega) hbq, hc i hi]
          have : k / 4 = j := by omega
          rw [this]
  · refine ⟨grow4.os.trans K3.os, grow4.tape.trans K3.tape, grow4.output.trans K3.output, by omega, fun k hk ho => ?_⟩
    rw [Deep.blk_setCell_other _ _ _ _ (show k ≠ (⟨P, 0, none⟩ : Addr).block from fun e => ho (.inl (by rw [e]; exact hB.sp)))]
    rw [grow4.block k (by omega) (fun e => ho (.inl (hq k e.symm).1))]
    exact K3.block k hk (fun e => ho (.inr e))

end Go.Proofs.YtgpaajdfkekjiaaGreatDoor
