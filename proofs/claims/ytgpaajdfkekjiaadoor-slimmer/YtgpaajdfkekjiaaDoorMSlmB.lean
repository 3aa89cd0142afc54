/-
  Small functions of package slim: needless, naming's of and ofGate.
  namesAheadOfGates of package slim.
-/
import Derived.Test.YtgpaajdfkekjiaaDoorMStart
import Derived.Test.YtgpaajdfkekjiaaDoorMRight
import Derived.Test.YtgpaajdfkekjiaaDoorBox
import Derived.Test.YtgpaajdfkekjiaaDoorMPairs
import Derived.Test.YtgpaajdfkekjiaaDoorMSlim
import Derived.BigQuiet
import Derived.Deep.DeepCutAuto
import Derived.Test.YtgpaajdfkekjiaaDoorVals
namespace Go.Proofs.YtgpaajdfkekjiaaDoor
open Go.RowKit

/-- What needless answers. -/
def ndl (a b : Nat) : Nat × Bool := if a = 0 then (0, true) else if a = 1 then (b, true) else if a = b then (a, true) else if a = b ^^^ 1 then (0, true) else (0, false)

set_option maxHeartbeats 1000000 in
set_option maxRecDepth 100000 in
theorem needless_any (a b : Nat) (w : World) (hb : b < 9223372036854775808) :
    Calls Tryd.prog 62 #[.agg #[.int .i64 a, .int .i64 b]] w fun e w' => e = .returned (.tuple #[.int .i64 (ndl a b).1, .bool (ndl a b).2]) ∧ Below w.heap.size w w' := by
  have hxor : bits .xor .i64 (b : Int) 1 = ((b ^^^ 1 : Nat) : Int) := by have := i64_xor_nat b 1 hb (by omega); simpa using this
  obtain ⟨y, hy⟩ : ∃ y, y = b ^^^ 1 := ⟨_, rfl⟩
  unfold ndl
  rw [← hy] at hxor ⊢
  clear hy
  have bel : Below w.heap.size w (w.alloc (.cells #[.int .i64 a, .int .i64 b] 53)) := (Below.refl _ _).alloc (Nat.le_refl _) _
  by_cases h0 : a = 0
  · subst h0
    go_enter Tryd.func62, Tryd.ntmps62
    go_wp2
    go_ret2
    exact ⟨rfl, bel⟩
  · have k0 : ((a : Int) == 0) = false := by simp; omega
    by_cases h1 : a = 1
    · subst h1
      go_enter Tryd.func62, Tryd.ntmps62
      go_wp2
      go_ret2
      exact ⟨rfl, bel⟩
    · have k1 : ((a : Int) == 1) = false := by simp; omega
      by_cases h2 : a = b
      · subst h2
        rw [if_neg h0, if_neg h1, if_pos rfl]
        clear h0 h1
        go_enter Tryd.func62, Tryd.ntmps62
        go_wp2
        go_ret2
        exact ⟨rfl, bel⟩
      · have k2 : ((a : Int) == (b : Int)) = false := by simp; omega
        by_cases h3 : a = y
        · rw [if_neg h0, if_neg h1, if_neg h2, if_pos h3]
          have k3 : ((a : Int) == (y : Int)) = true := by simp; omega
          clear h0 h1 h2 h3
          go_enter Tryd.func62, Tryd.ntmps62
          go_wp2
          go_ret2
          exact ⟨rfl, bel⟩
        · rw [if_neg h0, if_neg h1, if_neg h2, if_neg h3]
          have k3 : ((a : Int) == (y : Int)) = false := by simp; omega
          clear h0 h1 h2 h3
          go_enter Tryd.func62, Tryd.ntmps62
          go_wp2
          go_ret2
          exact ⟨rfl, bel⟩

/-- naming's 'of'. -/
theorem of_any (S : Nat) (b off len cap : Nat) (l : List Nat) (w : World) (hl : S / 2 < len) (hlen : len ≤ 1000) (hv : len = l.length) (h01 : ∀ x ∈ l, x < 1000)
    (hc : ∀ j, j < len → w.cell? ⟨b, off + j, none⟩ = some (.int .i64 ((l.getD j 0 : Nat) : Int))) :
    Calls Tryd.prog 75 #[.slice (some ⟨b, off, none⟩) len cap, .int .i64 S] w fun e w' => e = .returned (.int .i64 (putS l S : Nat)) ∧ w' = w := by
  have hcell := hc (S / 2) hl
  have hx : l.getD (S / 2) 0 < 1000 := by
    have hlt : S / 2 < l.length := by omega
    rw [List.getD_eq_getElem?_getD, List.getElem?_eq_getElem hlt]
    exact h01 _ (List.getElem_mem hlt)
  unfold putS
  obtain ⟨x, hX⟩ : ∃ x, x = l.getD (S / 2) 0 := ⟨_, rfl⟩
  rw [← hX] at hcell hx ⊢
  clear hX hc h01 hv
  have H1 : Hid (bits .and .i64 (S : Int) 1 = ((S % 2 : Nat) : Int)) := i64_and1 S (by omega)
  have H2 : Hid (bits .xor .i64 (x : Int) ((S % 2 : Nat) : Int) = ((x ^^^ (S % 2) : Nat) : Int)) := i64_xor_nat x (S % 2) (by omega) (by omega)
  go_enter Tryd.func75, Tryd.ntmps75
  go_wp2
  go_ret
  refine ⟨ret_int ?_, rfl⟩
  rw [H1.out, H2.out]

set_option maxHeartbeats 1000000 in
theorem ofGate_results {w : World} {b : Nat} {tmps : Array Value} {v0 v1 : Value} (h : w.heap[b]? = some (.cells #[v0, v1] 53 (0, 0))) (h4 : tmps[4]?.getD undef = .pointer (some ⟨b, 0, none⟩)) :
    (results Tryd.f60 tmps).run Tryd.prog w = .ok (.agg #[v0, v1]) w := by
  have c0 : w.cell? ⟨b, 0, none⟩ = some v0 := by rw [cell_of_row _ _ _ _ _ _ h]; rfl
  have c1 : w.cell? ⟨b, 1, none⟩ = some v1 := by rw [cell_of_row _ _ _ _ _ _ h]; rfl
  simp [results, Tryd.results60, go_sem, h4, c0, c1]

set_option maxHeartbeats 1000000 in
set_option maxRecDepth 100000 in
/-- naming's 'ofGate'. -/
theorem ofGate_any (a c : Nat) (b off len cap : Nat) (l : List Nat) (w : World) (ha : a / 2 < len) (hcl : c / 2 < len) (hlen : len ≤ 1000) (hv : len = l.length) (h01 : ∀ x ∈ l, x < 1000) (hb : b < w.heap.size)
    (hc : ∀ j, j < len → w.cell? ⟨b, off + j, none⟩ = some (.int .i64 ((l.getD j 0 : Nat) : Int))) :
    Calls Tryd.prog 60 #[.slice (some ⟨b, off, none⟩) len cap, .agg #[.int .i64 a, .int .i64 c]] w fun e w' => e = .returned (.agg #[.int .i64 ((putG l (a, c)).1 : Nat), .int .i64 ((putG l (a, c)).2 : Nat)]) ∧ Below w.heap.size w w' := by
  obtain ⟨W2, hW2⟩ : ∃ W2, W2 = (w.alloc (.cells #[.int .i64 a, .int .i64 c] 53)).alloc (.cells #[.int .i64 0, .int .i64 0] 53) := ⟨_, rfl⟩
  have B2 : Below w.heap.size w W2 := by rw [hW2]; exact ((Below.refl _ _).alloc (Nat.le_refl _) _).alloc (by simp) _
  have xA : W2.heap[w.heap.size]? = some (.cells #[.int .i64 a, .int .i64 c] 53 (0, 0)) := by rw [hW2]; exact alloc_old (alloc_blk _ _ _ rfl)
  have xR : W2.heap[w.heap.size + 1]? = some (.cells #[.int .i64 0, .int .i64 0] 53 (0, 0)) := by rw [hW2]; exact alloc_blk _ _ _ (by simp)
  have hc2 : ∀ j, j < len → W2.cell? ⟨b, off + j, none⟩ = some (.int .i64 ((l.getD j 0 : Nat) : Int)) := fun j hj => (B2.cell (p := ⟨b, _, none⟩) hb).trans (hc j hj)
  have A0 : W2.cell? ⟨w.heap.size, 0, none⟩ = some (.int .i64 a) := by rw [cell_of_row _ _ _ _ _ _ xA]; rfl
  have A1 : W2.cell? ⟨w.heap.size, 1, none⟩ = some (.int .i64 c) := by rw [cell_of_row _ _ _ _ _ _ xA]; rfl
  have R0 : W2.cell? ⟨w.heap.size + 1, 0, none⟩ = some (.int .i64 0) := by rw [cell_of_row _ _ _ _ _ _ xR]; rfl
  have R1 : W2.cell? ⟨w.heap.size + 1, 1, none⟩ = some (.int .i64 0) := by rw [cell_of_row _ _ _ _ _ _ xR]; rfl
  have G0 : W2.frozen? ⟨w.heap.size + 1, 0, none⟩ = false := frozen_of_row _ _ _ _ _ xR
  have G1 : W2.frozen? ⟨w.heap.size + 1, 1, none⟩ = false := frozen_of_row _ _ _ _ _ xR
  have HC2 : Hid (∀ j, j < len → W2.cell? ⟨b, off + j, none⟩ = some (.int .i64 ((l.getD j 0 : Nat) : Int))) := hc2
  unfold putG
  obtain ⟨x, hx⟩ : ∃ x, x = putS l a := ⟨_, rfl⟩
  obtain ⟨y, hy⟩ : ∃ y, y = putS l c := ⟨_, rfl⟩
  have oX : ∀ k : Nat, Calls Tryd.prog 75 #[.slice (some ⟨b, off, none⟩) len cap, .int .i64 a] (W2.drewN k) fun e w' => e = .returned (.int .i64 x) ∧ w' = W2.drewN k := fun k => by
    rw [hx]
    exact of_any a b off len cap l _ ha hlen hv h01 (fun j hj => ((below_drewN (Below.refl W2.heap.size W2) k).cell (p := ⟨b, _, none⟩) (Nat.lt_of_lt_of_le hb B2.size)).trans (hc2 j hj))
  have oY : ∀ k : Nat, Calls Tryd.prog 75 #[.slice (some ⟨b, off, none⟩) len cap, .int .i64 c] (W2.drewN k) fun e w' => e = .returned (.int .i64 y) ∧ w' = W2.drewN k := fun k => by
    rw [hy]
    exact of_any c b off len cap l _ hcl hlen hv h01 (fun j hj => ((below_drewN (Below.refl W2.heap.size W2) k).cell (p := ⟨b, _, none⟩) (Nat.lt_of_lt_of_le hb B2.size)).trans (hc2 j hj))
  show Calls _ _ _ _ (fun e w' => e = .returned (.agg #[.int .i64 ((min (putS l a) (putS l c) : Nat) : Int), .int .i64 ((max (putS l a) (putS l c) : Nat) : Int)]) ∧ Below w.heap.size w w')
  rw [← hx, ← hy]
  clear hx hy hc hc2 HC2 hv h01 hlen ha hcl
  go_enter Tryd.func60, Tryd.ntmps60
  go_upto_region 1 with fail
  rw [← hW2]
  clear hW2
  go_quiet (first | (go_at_call 75; (with_reducible refine Calls.quiet_of_same (oX _))) | (go_at_call 75; (with_reducible refine Calls.quiet_of_same (oY _))))
  have hR2 : w.heap.size + 1 < W2.heap.size := (Array.getElem?_eq_some_iff.1 xR).1
  rcases Nat.lt_trichotomy x y with h | h | h
  · have h2 : ¬ y < x := by omega
    go_wp2
    refine bodyPost_ret (ofGate_results (b := w.heap.size + 1) (blk_set (blk_set (((below_drewN (Below.refl W2.heap.size W2) nq).block _ hR2).trans xR) 0 _) 1 _) (by rfl)) rfl ⟨(by rw [Nat.min_eq_left (Nat.le_of_lt h), Nat.max_eq_right (Nat.le_of_lt h)]), ?_⟩
    exact ((below_drewN B2 nq).setCell (p := ⟨w.heap.size + 1, 0, none⟩) (by simp) _).setCell (p := ⟨w.heap.size + 1, 1, none⟩) (by simp) _
  · subst h
    go_wp2
    refine bodyPost_ret (ofGate_results (b := w.heap.size + 1) (blk_set (blk_set (((below_drewN (Below.refl W2.heap.size W2) nq).block _ hR2).trans xR) 0 _) 1 _) (by rfl)) rfl ⟨(by rw [Nat.min_self, Nat.max_self]), ?_⟩
    exact ((below_drewN B2 nq).setCell (p := ⟨w.heap.size + 1, 0, none⟩) (by simp) _).setCell (p := ⟨w.heap.size + 1, 1, none⟩) (by simp) _
  · have h2 : ¬ x < y := by omega
    go_wp2
    refine bodyPost_ret (ofGate_results (b := w.heap.size + 1) (blk_set (blk_set (((below_drewN (Below.refl W2.heap.size W2) nq).block _ hR2).trans xR) 0 _) 1 _) (by rfl)) rfl ⟨(by rw [Nat.min_eq_right (Nat.le_of_lt h), Nat.max_eq_left (Nat.le_of_lt h)]), ?_⟩
    exact ((below_drewN B2 nq).setCell (p := ⟨w.heap.size + 1, 0, none⟩) (by simp) _).setCell (p := ⟨w.heap.size + 1, 1, none⟩) (by simp) _

end Go.Proofs.YtgpaajdfkekjiaaDoor

namespace Go.Proofs.YtgpaajdfkekjiaaDoor
open Go.RowKit

theorem hideS {p : Prop} (h : p) : Hid p := h

set_option maxHeartbeats 1000000 in
set_option maxRecDepth 100000 in
theorem names_any (n ln F : Nat) (la : Option Addr) (lc : Nat) (v2 v3 : Value) (w : World) (h1 : n ≤ 4) (h2 : ln ≤ 4) (hF : F = 1 + n + ln) :
    Calls Tryd.prog 58 #[.agg #[.int .i64 n, .slice la ln lc, v2, v3]] w fun e w' => ∃ v, e = .returned v ∧ w'.ownsRow w.heap.size 3 1 v F (ivals (idn F)) ∧ Below w.heap.size w w' := by
  obtain ⟨i0, hi, hz0, hz1, hz2⟩ := info_parts Tryd.infoInt
  have hFI : (1 : Int) + (n : Int) + (ln : Int) = (F : Int) := by omega
  have hF9 : F ≤ 9 := by omega
  have HF := hideS hF
  clear hF
  go_enter Tryd.func58, Tryd.ntmps58
  go_wp2
  go_loopw [3, 4, 12] (fun v _ i wr => ∃ k : Nat, k ≤ F ∧ i = .int .i64 k ∧ wr.ownsRow w.heap.size 3 1 v k (ivals (idn k)) ∧ Below w.heap.size w wr) (fun _ _ i _ => F - (intOf i).toNat)
  case atStart => exact ⟨0, Nat.zero_le _, rfl, ⟨rfl, .inl ⟨rfl, rfl⟩⟩, (Below.refl _ _).alloc (Nat.le_refl _) _⟩
  case round =>
    obtain ⟨k, hk, rfl, hown, hbel⟩ := hrel
    by_cases hk2 : k < F
    · have kI : (k : Int) < (F : Int) := by omega
      obtain ⟨X, hX⟩ : ∃ X : Nat, X = 2 * k := ⟨_, rfl⟩
      have hXI : (2 : Int) * (k : Int) = (X : Int) := by omega
      have HX := hideS hX
      clear hX
      have hsz := hbel.size
      go_wp2_with (at_builtin; refine wpList_append_lies _ rfl (.tmp 15) (.tmp 18) 111 rfl w.heap.size 3 i0 (.int .i64 0) 1 8 Tryd.underlying111 hi hz0 hz1 hz2 rfl (by omega) _ _ _ rfl (hown.alloc _) ⟨wr.heap.size, 0, none⟩ 1 1 [.int .i64 X] rfl rfl (cell_one_new _ _ _) (by simp; rfl) (by omega) (by unfold maxLen; omega) (by omega) (by simp; omega) _ rfl ?_)
      intro g' cap' w1 hown1 hgrow hat hlt1
      have e3 : Below w.heap.size w w1 := (hbel.alloc hsz _).grown hgrow (by simp; omega) (fun q hq => (hown.lt q hq).1)
      clear hgrow hat hown
      go_wp2
      go_roundw
      case rel => exact ⟨k + 1, by omega, by go_num, by rw [← idn_succ, ivals_snoc, ← HX.out]; exact hown1, e3⟩
      case measure => simp [intOf]; omega
    · have hkF : k = F := by omega
      subst hkF
      go_wp2
      go_ret
      exact ⟨_, rfl, hown, hbel⟩

end Go.Proofs.YtgpaajdfkekjiaaDoor
