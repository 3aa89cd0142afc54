/-
  What Right of package circuit answers of any circuit whose lists can be read.
-/
import Derived.Test.YtgpaajdfkekjiabRight
namespace Go.Proofs.Ytgpaajdfkekjiab
open Go.RowKit

theorem sizes_is {i l o g : Int} {b : Bool} (w : World) (h : sizesB i l o g = b) :
    Calls Try.prog 16 #[.int .i64 i, .int .i64 l, .int .i64 o, .int .i64 g] w fun e w' => e = .returned (.bool b) ∧ w' = w := by
  subst h; exact sizes_any i l o g w

theorem sizesB_pos {i l o g : Int} (h : sizesB i l o g = true) : 0 ≤ i ∧ i ≤ 4 ∧ l ≤ 4 ∧ o ≤ 4 ∧ g ≤ 30 := by
  simp only [sizesB, Bool.and_eq_true] at h
  have a := inB_pos h.1.1.1; have b := inB_pos h.1.1.2; have c := inB_pos h.1.2; have d := inB_pos h.2
  omega

theorem rightOutputs_is {n : Int} {la ga oa : Option Addr} {ln lc gn gc oc : Nat} {os : List Int} {b : Bool} (w : World) (h0 : 0 ≤ n) (h1 : n ≤ 4) (h2 : ln ≤ 1000) (h3 : gn ≤ 1000) (h4 : os.length ≤ 1000)
    (hO : IntsAt w oa os) (h : outsB (n + ln + gn) os = b) :
    Calls Try.prog 19 #[.agg #[.int .i64 n, .slice la ln lc, .slice ga gn gc, .slice oa os.length oc]] w fun e w' =>
      e = .returned (.bool b) ∧ Below w.heap.size w w' := by subst h; exact rightOutputs_any n la ga oa ln lc gn gc oc os w h0 h1 h2 h3 h4 hO
theorem rightGates_is {n : Int} {la ga oa : Option Addr} {ln lc gc on oc : Nat} {gs : List (Int × Int)} {b : Bool} (w : World) (h0 : 0 ≤ n) (h1 : n ≤ 4) (h2 : ln ≤ 1000) (h3 : gs.length ≤ 1000)
    (hG : PairsAt w ga gs) (h : gatesB (n + ln) gs = b) :
    Calls Try.prog 18 #[.agg #[.int .i64 n, .slice la ln lc, .slice ga gs.length gc, .slice oa on oc]] w fun e w' =>
      e = .returned (.bool b) ∧ Below w.heap.size w w' := by subst h; exact rightGates_any n la ga oa ln lc gc on oc gs w h0 h1 h2 h3 hG
theorem rightLatches_is {n : Int} {la ga oa : Option Addr} {lc gn gc on oc : Nat} {ls : List (Int × Int)} {b : Bool} (w : World) (h0 : 0 ≤ n) (h1 : n ≤ 4) (h2 : ls.length ≤ 1000) (h3 : gn ≤ 1000)
    (hL : PairsAt w la ls) (h : latchesB (n + ls.length + gn) ls = b) :
    Calls Try.prog 17 #[.agg #[.int .i64 n, .slice la ls.length lc, .slice ga gn gc, .slice oa on oc]] w fun e w' =>
      e = .returned (.bool b) ∧ Below w.heap.size w w' := by subst h; exact rightLatches_any n la ga oa lc gn gc on oc ls w h0 h1 h2 h3 hL

set_option maxHeartbeats 1000000 in
theorem right_any (n : Int) (la ga oa : Option Addr) (lc gc oc : Nat) (ls gs : List (Int × Int)) (os : List Int) (w : World)
    (hL : PairsAt w la ls) (hG : PairsAt w ga gs) (hO : IntsAt w oa os) :
    Calls Try.prog 11 #[.agg #[.int .i64 n, .slice la ls.length lc, .slice ga gs.length gc, .slice oa os.length oc]] w fun e w' =>
      e = .returned (.bool (rightB n ls gs os)) ∧ Below w.heap.size w w' := by
  cases hs : sizesB n ls.length os.length gs.length
  · go_enter Try.func11, Try.ntmps11
    go_wp2_with (go_at_call 16; refine (sizes_is _ hs).mono ?_; rintro e w' ⟨rfl, rfl⟩)
    go_ret
    exact ⟨ret_bool (by simp [rightB, hs]), (Below.refl _ _).alloc (Nat.le_refl _) _⟩
  · obtain ⟨n0, n4, l4, o4, g30⟩ := sizesB_pos hs
    have bel0 : Below w.heap.size w (w.alloc (.cells #[.int .i64 n, .slice la ls.length lc, .slice ga gs.length gc, .slice oa os.length oc] 26)) := (Below.refl _ _).alloc (Nat.le_refl _) _
    cases h1 : latchesB (n + ls.length + gs.length) ls <;> cases h2 : gatesB (n + ls.length) gs <;> cases h3 : outsB (n + ls.length + gs.length) os <;>
    · go_enter Try.func11, Try.ntmps11
      go_wp2_with (first | (go_at_call 16; refine (sizes_is _ hs).mono ?_; rintro e w' ⟨rfl, rfl⟩) | (go_at_call 17; refine (rightLatches_is _ n0 n4 (by omega) (by omega) (hL.below bel0) h1).mono ?_; rintro e w1 ⟨rfl, b1⟩; have c1 := (bcell b1).1; have y1 : w.heap.size < w1.heap.size := Nat.lt_of_lt_of_le (by simp) b1.size) | (go_at_call 18; refine (rightGates_is _ n0 n4 (by omega) (by omega) ((hG.below bel0).below b1) h2).mono ?_; rintro e w2 ⟨rfl, b2⟩; have c2 := (bcell b2).1) | (go_at_call 19; refine (rightOutputs_is _ n0 n4 (by omega) (by omega) (by omega) (((hO.below bel0).below b1).below b2) h3).mono ?_; rintro e w3 ⟨rfl, b3⟩))
      go_ret
      first
        | exact ⟨ret_bool (by simp [rightB, hs, h1, h2, h3]), ((bel0.trans (b1.mono (by simp))).trans (b2.mono (by omega))).trans (b3.mono (Nat.le_trans (by omega) b2.size))⟩
        | exact ⟨ret_bool (by simp [rightB, hs, h1, h2]), (bel0.trans (b1.mono (by simp))).trans (b2.mono (by omega))⟩
        | exact ⟨ret_bool (by simp [rightB, hs, h1]), bel0.trans (b1.mono (by simp))⟩

theorem rightB_pos {n : Int} {ls gs : List (Int × Int)} {os : List Int} (h : rightB n ls gs os = true) :
    (0 ≤ n ∧ n ≤ 4 ∧ ls.length ≤ 4 ∧ os.length ≤ 4 ∧ gs.length ≤ 30) ∧ (∀ i, i < ls.length → latchOk (n + ls.length + gs.length) (ls.getD i (0, 0)) = true) ∧
    (∀ i, i < gs.length → gateOk (n + ls.length + (i : Nat)) (gs.getD i (0, 0)) = true) ∧ (∀ i, i < os.length → inB (os.getD i 0) (2 * (n + ls.length + gs.length) + 1) = true) := by
  simp only [rightB, Bool.and_eq_true] at h
  obtain ⟨⟨⟨hs, hl⟩, hg⟩, ho⟩ := h
  obtain ⟨a, b, c, d, e⟩ := sizesB_pos hs
  exact ⟨⟨a, b, by omega, by omega, by omega⟩, of_decide_eq_true hl, of_decide_eq_true hg, of_decide_eq_true ho⟩

theorem right_is {n : Int} {la ga oa : Option Addr} {lc gc oc : Nat} {ls gs : List (Int × Int)} {os : List Int} {b : Bool} (w : World)
    (hL : PairsAt w la ls) (hG : PairsAt w ga gs) (hO : IntsAt w oa os) (h : rightB n ls gs os = b) :
    Calls Try.prog 11 #[.agg #[.int .i64 n, .slice la ls.length lc, .slice ga gs.length gc, .slice oa os.length oc]] w fun e w' =>
      e = .returned (.bool b) ∧ Below w.heap.size w w' := by subst h; exact right_any n la ga oa lc gc oc ls gs os w hL hG hO
end Go.Proofs.Ytgpaajdfkekjiab
