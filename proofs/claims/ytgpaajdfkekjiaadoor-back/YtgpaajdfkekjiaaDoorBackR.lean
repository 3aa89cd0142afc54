/-
  What Read of package latch answers of a text that was written, of one that is none, and of any.
-/
import Derived.Test.YtgpaajdfkekjiaaDoorKAll
import Derived.Test.YtgpaajdfkekjiaaDoorWrP
import Derived.Test.YtgpaajdfkekjiaaDoorReadAll
import Derived.Test.YtgpaajdfkekjiaaDoorRdMore
namespace Go.Proofs.YtgpaajdfkekjiaaDoor
open Go.RowKit

/-- A circuit whose lists can be read. -/
def RdC (w : World) (v : Value) (n : Nat) (ls gs : List (Int × Int)) (os : List Int) : Prop :=
  ∃ la lc ga gc oa oc, v = .agg #[.int .i64 n, .slice la ls.length lc, .slice ga gs.length gc, .slice oa os.length oc] ∧ PairsAt w la ls ∧ PairsAt w ga gs ∧ IntsAt w oa os

theorem read_any (S : List UInt8) (w : World) (hLib : Lib0 w) (hS : S.length < 9223372036854775808) : Calls Tryd.prog 10 #[.string ⟨S.toArray⟩] w fun e w' => Below w.heap.size w w' ∧
    ((∃ line : Nat, Ans S none line ∧ e = .returned (.tuple #[.agg #[.int .i64 0, .slice none 0 0, .slice none 0 0, .slice none 0 0], .int .i64 line, .int .i64 1])) ∨
     (∃ (n : Nat) (ls gs : List (Int × Int)) (os : List Int) (v : Value), S = txt n ls gs os ∧ rightB n ls gs os = true ∧ Ans S (some ⟨n, ls, gs, os⟩) 0 ∧ RdC w' v n ls gs os ∧ e = .returned (.tuple #[v, .int .i64 0, .int .i64 0]))) := by
  refine (latchRead_all S w hLib hS).mono ?_
  rintro e w' ⟨hb, h | ⟨n, ls, gs, os, lv, gv, ov, hans, rfl, oL, oG, oO, _, _, _⟩⟩
  · exact ⟨hb, .inl h⟩
  · obtain ⟨e1, e2, _⟩ := ans_txt hans
    obtain ⟨la, lc, rfl, _, hL⟩ := own_pairs oL
    obtain ⟨ga, gc, rfl, _, hG⟩ := own_pairs oG
    obtain ⟨oa, oc, rfl, _, hO⟩ := own_intlist oO
    exact ⟨hb, .inr ⟨n, ls, gs, os, _, e1, e2, hans, ⟨la, lc, ga, gc, oa, oc, rfl, hL, hG, hO⟩, rfl⟩⟩

theorem read_back {n : Nat} {ls gs : List (Int × Int)} {os : List Int} (hr : rightB n ls gs os = true) (T : List UInt8) (hT : T = txt n ls gs os) (hl : T.length ≤ 1000) (w : World) (hLib : Lib0 w) :
    Calls Tryd.prog 10 #[.string ⟨T.toArray⟩] w fun e w' => Below w.heap.size w w' ∧ ∃ v, RdC w' v n ls gs os ∧ e = .returned (.tuple #[v, .int .i64 0, .int .i64 0]) := by
  refine (read_any T w hLib (by omega)).mono ?_
  subst hT
  have ha := txt_ans hr hl
  rintro e w' ⟨hb, ⟨line, hans, _⟩ | ⟨n', ls', gs', os', v, _, _, hans, hv, rfl⟩⟩
  · have := (ans_one ha hans).1; cases this
  · have := (ans_one ha hans).1
    simp only [Option.some.injEq, Circ.mk.injEq] at this
    obtain ⟨rfl, rfl, rfl, rfl⟩ := this
    exact ⟨hb, v, hv, rfl⟩
theorem read_none (S : List UInt8) (h : ∀ c line, Ans S c line → c = none) (w : World) (hLib : Lib0 w) (hS : S.length < 9223372036854775808) :
    Calls Tryd.prog 10 #[.string ⟨S.toArray⟩] w fun e w' => Below w.heap.size w w' ∧ ∃ line : Nat, Ans S none line ∧ e = .returned (.tuple #[.agg #[.int .i64 0, .slice none 0 0, .slice none 0 0, .slice none 0 0], .int .i64 line, .int .i64 1]) := by
  refine (read_any S w hLib hS).mono ?_
  rintro e w' ⟨hb, h1 | ⟨n', ls', gs', os', v, _, _, hans, _⟩⟩
  · exact ⟨hb, h1⟩
  · have := h _ _ hans; cases this
theorem long_none {S : List UInt8} (hl : 1000 < S.length) (c : Option Circ) (line : Nat) (h : Ans S c line) : c = none := by
  rcases h with ⟨_, h, _⟩ | ⟨h, _⟩
  · exact h
  · omega

end Go.Proofs.YtgpaajdfkekjiaaDoor
