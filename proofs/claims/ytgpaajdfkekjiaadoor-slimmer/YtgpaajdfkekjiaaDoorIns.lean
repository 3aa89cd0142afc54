/-
  What inputs of package latchkeep answers.
-/
import Derived.Test.YtgpaajdfkekjiaaDoorMKeep
namespace Go.Proofs.YtgpaajdfkekjiaaDoor
open Go.RowKit

def ins50 (n : Nat) (raw : List Int) (k : Nat) : List Int := (raw.take k).map fun c => pickI c (2 ^ n)
theorem ins50_succ (n : Nat) (raw : List Int) (k : Nat) (h : k < raw.length) : ins50 n raw (k + 1) = ins50 n raw k ++ [pickI (raw.getD k 0) (2 ^ n)] := by
  unfold ins50
  rw [List.take_succ_eq_append_getElem h, List.map_append, List.map_singleton]
  simp [h]
theorem ins50_len (n : Nat) (raw : List Int) (k : Nat) (h : k ≤ raw.length) : (ins50 n raw k).length = k := by simp [ins50, h]

def vints (xs : List Int) : List Value := xs.map fun x => .int .i64 x

theorem vints_snoc (xs : List Int) (x : Int) : vints (xs ++ [x]) = vints xs ++ [.int .i64 x] := by simp [vints]
theorem pick_is {c n p : Int} (w : World) (hc : -9223372036854775808 ≤ c) (hc2 : c ≤ 9223372036854775807) (hn : 1 ≤ n) (hn2 : n ≤ 1000000) (h : pickI c n = p) :
    Calls Tryd.prog 8 #[.int .i64 c, .int .i64 n] w fun e w' => e = .returned (.int .i64 p) ∧ w' = w := by
  subst h; exact pick_any c n w hc hc2 hn hn2

theorem news1 (w : World) (v : Value) (t : TypeId) : ∀ j u, [v][j]? = some u → (w.alloc (.cells #[v] t)).drew.cell? ((⟨w.heap.size, 0, none⟩ : Addr).add j) = some u :=
  fun j u hu => World.news_of_block (w := (w.alloc (.cells #[v] t)).drew) (heap_alloc_new w _) j u hu

theorem keep_one {X w1 : World} {b o : Nat} {v c0 : Value} (hg : ∀ q, v.ownBlock = some q → b < q) (hB : b < X.heap.size) (hgrow : X.grownBy w1 v.ownBlock)
    (h0 : X.cell? ⟨b, o, none⟩ = some c0) : w1.cell? ⟨b, o, none⟩ = some c0 :=
  (hgrow.cell_far ⟨b, o, none⟩ hB (fun e => by have := hg b e.symm; omega)).trans h0

set_option maxHeartbeats 400000 in
set_option maxRecDepth 100000 in
theorem inputs_any (n : Nat) (a : Option Addr) (cap : Nat) (raw : List Int) (w : World) (h1 : n ≤ 4) (hm : raw.length ≤ maxLen) (hR : IntsAt w a raw) (hw : ∀ x ∈ raw, -9223372036854775808 ≤ x ∧ x ≤ 9223372036854775807) :
    Calls Tryd.prog 14 #[.slice a raw.length cap, .int .i64 n] w fun e w' => ∃ v, e = .returned v ∧ w'.ownsRow w.heap.size 3 1 v (min raw.length 50) (vints (ins50 n raw (min raw.length 50))) ∧ Below w.heap.size w w' := by
  unfold maxLen at hm
  obtain ⟨i0, hi, hz0, hz1, hz2⟩ := info_parts Tryd.infoInt
  obtain ⟨M, hM⟩ : ∃ M : Nat, (M : Int) = 2 ^ n := ⟨2 ^ n, by simp⟩
  have hM1 : 1 ≤ M := by have : 0 < 2 ^ n := Nat.two_pow_pos n; have e : M = 2 ^ n := by exact_mod_cast hM
                         omega
  have hM16 : M ≤ 16 := by
    have hp : (2 : Nat) ^ n ≤ 2 ^ 4 := Nat.pow_le_pow_right (by omega) h1
    have e : M = 2 ^ n := by exact_mod_cast hM
    omega
  have hsh : IntKind.i64.wrap ((2 : Int) ^ n) = (M : Int) := by rw [← hM, wrap_i64']; omega
  obtain ⟨m, hmm⟩ : ∃ m, min raw.length 50 = m := ⟨_, rfl⟩
  rw [hmm]
  have hm1 : m ≤ raw.length := by omega
  have hm2 : m = raw.length ∨ m = 50 := by omega
  have hm3 : m ≤ 50 := by omega
  clear hmm
  have HM : Hid ((M : Int) = 2 ^ n) := hM
  clear hM
  go_enter Tryd.func14, Tryd.ntmps14
  go_wp2
  go_loopw [5, 6] (fun v i wr => ∃ k : Nat, k ≤ raw.length ∧ k ≤ 50 ∧ i = .int .i64 k ∧ wr.ownsRow w.heap.size 3 1 v k (vints (ins50 n raw k)) ∧ Below w.heap.size w wr) (fun _ i _ => raw.length - (intOf i).toNat)
  case atStart => exact ⟨0, Nat.zero_le _, Nat.zero_le _, rfl, World.ownsRow_nil _ _ _ _, Below.refl _ _⟩
  case round =>
    obtain ⟨k, hk, hk5, rfl, hown, hbel⟩ := hrel
    by_cases hk2 : k < raw.length
    · by_cases hk3 : k < 50
      · obtain ⟨b, off, rfl, hlt, hc⟩ := hR.get (by omega)
        have hcy : wr.cell? ⟨b, off + k, none⟩ = some (.int .i64 (raw.getD k 0)) := (hbel.cell (p := ⟨b, _, none⟩) hlt).trans (hc k hk2)
        have hmem : raw.getD k 0 ∈ raw := by rw [List.getD_eq_getElem?_getD, List.getElem?_eq_getElem hk2]; exact List.getElem_mem hk2
        obtain ⟨x, hX⟩ : ∃ x, x = raw.getD k 0 := ⟨_, rfl⟩
        obtain ⟨hx1, hx2⟩ := hw _ hmem
        obtain ⟨p, hp⟩ : ∃ p, pickI x M = p := ⟨_, rfl⟩
        rw [← hX] at hcy hx1 hx2
        have HP : Hid (pickI x M = p) := hp
        have HX : Hid (ins50 n raw (k + 1) = ins50 n raw k ++ [p]) := by show ins50 n raw (k + 1) = _; rw [ins50_succ n raw k hk2, ← hX, ← hp, HM.out]
        have hb : b < wr.heap.size := Nat.lt_of_lt_of_le hlt hbel.size
        have hob : ∀ q, u5.ownBlock = some q → b < q := fun q hq => Nat.lt_of_lt_of_le hlt (hown.lt q hq).1
        have hk0 : (0 : Int) ≤ (k : Int) := by omega
        have hkl : (k : Int) < (raw.length : Int) := by omega
        clear hX hp hc hmem hw hR
        go_wp2
        go_region_held3 (fun w' => w'.cell? ⟨b, off + k, none⟩ = some (.int .i64 x)) (first | (simp [go_sem, hcy]; done) | (simp [go_sem, World.cell?_alloc_past, hb, hcy]; done) | (refine keep_one hob ?_ hgrow ?_ <;> first | (simp [go_sem, World.cell?_alloc_past, hb, hcy]; done) | (simp; omega))) (first | (go_at_call 8; refine (pick_is _ hx1 hx2 (by omega) (by omega) HP.out).mono ?_; rintro e w' ⟨rfl, rfl⟩) | (refine step_append_lies _ (by rfl) (.tmp 17) (.tmp 25) 24 (by rfl) w.heap.size 3 i0 (.int .i64 0) 1 8 Tryd.underlying24 hi hz0 hz1 hz2 rfl (by omega) u5 k (vints (ins50 n raw k)) (by rfl) ((hown.alloc _).drew) ⟨wr.heap.size, 0, none⟩ 1 1 [.int .i64 p] (by rfl) rfl (news1 _ _ _) (by simp; rfl) (by omega) (by unfold maxLen; omega) (by omega) (by have := hbel.size; simp; omega) _ rfl ?_; intro g' cap' w1 hown1 hgrow hat hlt1) | fail)
        have bel1 : Below w.heap.size w w1 := ((hbel.alloc hbel.size _).drew).grown hgrow (by have := hbel.size; simp; omega) (fun q hq => (hown.lt q hq).1)
        clear hgrow hown
        go_wp2
        go_roundw
        case rel => exact ⟨k + 1, by omega, by omega, by go_num, by rw [HX.out, vints_snoc]; exact hown1, bel1⟩
        case measure => simp [intOf]; omega
      · obtain rfl : k = m := by omega
        go_wp2
        go_ret
        exact ⟨_, rfl, hown, hbel⟩
    · obtain rfl : k = m := by omega
      go_wp2
      go_ret
      exact ⟨_, rfl, hown, hbel⟩

end Go.Proofs.YtgpaajdfkekjiaaDoor
