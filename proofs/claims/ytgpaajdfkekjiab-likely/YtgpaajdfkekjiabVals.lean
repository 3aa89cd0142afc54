/-
  What valuesIn of package circuit answers of a right circuit: the values of all variables in a step, in new memory.
-/
import Derived.Test.YtgpaajdfkekjiabStart
import Derived.Test.YtgpaajdfkekjiabBase
import Derived.Test.YtgpaajdfkekjiabLeafRun
import Derived.Deep.AppendLies
import Derived.Deep.RegionHeld3
import Derived.Deep.DrawnRows
import Derived.Laws.MakeOwn
namespace Go.Proofs.Ytgpaajdfkekjiab
open Go.RowKit

theorem baseVals_in (k st inp : Nat) : baseVals (k + 1) 0 st inp = baseVals k 0 st inp ++ [inp / 2 ^ k % 2] := by
  simp [baseVals, List.range_succ]
theorem baseVals_la (n k st inp : Nat) : baseVals n (k + 1) st inp = baseVals n k st inp ++ [st / 2 ^ k % 2] := by
  simp [baseVals, List.range_succ]

theorem valueOf_own (s : Int) {base g len cap : Nat} {vs : List Nat} (w : World) (h0 : 0 ≤ s) (hl : s / 2 < len) (hlen : len ≤ 1000) (hv : len = vs.length)
    (h01 : ∀ x ∈ vs, x ≤ 1) (hown : w.ownsRow base 3 1 (.slice (some ⟨g, 0, none⟩) len cap) len (ivals vs)) :
    Calls Try.prog 24 #[.int .i64 s, .slice (some ⟨g, 0, none⟩) len cap] w fun e w' => e = .returned (.int .i64 (sigv s vs : Nat)) ∧ w' = w :=
  valueOf_any s g 0 len cap vs w h0 hl hlen hv h01 (own_cells hown)

theorem valueOf_is {s : Int} {base g len cap a : Nat} {vs : List Nat} (w : World) (h0 : 0 ≤ s) (hl : s / 2 < len) (hlen : len ≤ 1000) (hv : len = vs.length)
    (h01 : ∀ x ∈ vs, x ≤ 1) (hown : w.ownsRow base 3 1 (.slice (some ⟨g, 0, none⟩) len cap) len (ivals vs)) (ha : sigv s vs = a) :
    Calls Try.prog 24 #[.int .i64 s, .slice (some ⟨g, 0, none⟩) len cap] w fun e w' => e = .returned (.int .i64 (a : Nat)) ∧ w' = w := by
  subst ha; exact valueOf_own s w h0 hl hlen hv h01 hown

theorem and_01 (a b : Nat) (ha : a ≤ 1) (hb : b ≤ 1) : bits .and .i64 (a : Int) (b : Int) = ((a * b : Nat) : Int) := by
  have h2 : a = 0 ∨ a = 1 := by omega
  have h3 : b = 0 ∨ b = 1 := by omega
  rcases h2 with rfl | rfl <;> rcases h3 with rfl | rfl <;> rfl

theorem gateOk_pos {before : Int} {x1 x2 : Int} (h : gateOk before (x1, x2) = true) : (0 ≤ x1 ∧ x1 ≤ 2 * before + 1) ∧ (0 ≤ x2 ∧ x2 ≤ 2 * before + 1) := by
  simp only [gateOk, Bool.and_eq_true] at h
  exact ⟨inB_pos h.1, inB_pos h.2⟩

theorem run_make1 (N : Nat) (h1 : 1 ≤ N) (h2 : N ≤ 1000) (w : World) :
    (Instr.makeSlice 24 (.int .i64 1) (.int .i64 (N : Int))).run Try.prog w = .ok (.slice (some ⟨w.heap.size, 0, none⟩) 1 N) (w.alloc (.cells (madeCells (Value.int .i64 0).cells (N * 1)) 3)) := by
  obtain ⟨i, hi, hz0, hz1, hz2⟩ := info_parts Try.infoInt
  have := run_make (P := Try.prog) w 24 3 i (.int .i64 0) Try.underlying24 hi hz0 .i64 .i64 1 N (by omega) (by omega) (by rw [hz2]; omega) (by omega)
  rw [hz1] at this
  simpa using this

theorem made_own (base N : Nat) (w : World) (h1 : 1 ≤ N) (h2 : N ≤ 1000) (hb : base ≤ w.heap.size) :
    (w.alloc (.cells (madeCells #[.int .i64 0] N) 3)).ownsRow base 3 1 (.slice (some ⟨w.heap.size, 0, none⟩) 1 N) 1 (ivals [0]) := by
  refine ⟨rfl, .inr ⟨w.heap.size, N, _, rfl, hb, heap_alloc_new w _, h1, by unfold maxLen; omega, by rw [size_madeCells]; omega, ?_⟩⟩
  rw [toList_madeCells_one]
  obtain ⟨M, rfl⟩ : ∃ M, N = M + 1 := ⟨N - 1, by omega⟩
  simp [ivals, List.replicate_succ]

/-- What an append to a row of the call's own leaves of the rest. -/
theorem grow_rel {w wr w1 : World} {e : TypeId} {o : Obj} {g len cap : Nat} {xs : List Value} (hown : wr.ownsRow (w.heap.size + 1) e 1 (.slice (some ⟨g, 0, none⟩) len cap) len xs)
    (hz : w.heap.size + 1 ≤ wr.heap.size) (hbel : Below w.heap.size w wr) (hgrow : (wr.alloc o).grownBy w1 (Value.slice (some ⟨g, 0, none⟩) len cap).ownBlock) :
    (∀ j, w1.cell? ⟨w.heap.size, j, none⟩ = wr.cell? ⟨w.heap.size, j, none⟩) ∧ w.heap.size + 1 ≤ w1.heap.size ∧ Below w.heap.size w w1 := by
  have hg := hown.lt g rfl
  have hs : (wr.alloc o).heap.size = wr.heap.size + 1 := by simp
  refine ⟨fun j => ?_, ?_, ?_⟩
  · rw [hgrow.cell_far ⟨w.heap.size, j, none⟩ (by show w.heap.size < (wr.alloc o).heap.size; omega) (by simp [Value.ownBlock]; omega), World.cell?_alloc_past _ _ _ (by show w.heap.size < wr.heap.size; omega)]
  · have := hgrow.size; omega
  · exact (hbel.alloc (by omega) o).grown hgrow (by omega) (fun k hk => by simp [Value.ownBlock] at hk; omega)

theorem keep_two {X w1 : World} {B g len cap : Nat} {c0 c1 : Value} (hg : g < B) (hB : B < X.heap.size) (hgrow : X.grownBy w1 (Value.slice (some ⟨g, 0, none⟩) len cap).ownBlock)
    (h0 : X.cell? ⟨B, 0, none⟩ = some c0) (h1 : X.cell? ⟨B, 1, none⟩ = some c1) : w1.cell? ⟨B, 0, none⟩ = some c0 ∧ w1.cell? ⟨B, 1, none⟩ = some c1 := by
  have hne : ∀ j, some (Addr.block ⟨B, j, none⟩) ≠ (Value.slice (some ⟨g, 0, none⟩) len cap).ownBlock := fun j => by simp [Value.ownBlock]; omega
  exact ⟨(hgrow.cell_far ⟨B, 0, none⟩ hB (hne 0)).trans h0, (hgrow.cell_far ⟨B, 1, none⟩ hB (hne 1)).trans h1⟩

theorem news2v (w : World) (A : Obj) (v : Value) (t : TypeId) : ∀ j u, [v][j]? = some u → ((w.alloc A).alloc (.cells #[v] t)).drew.cell? ((⟨w.heap.size + 1, 0, none⟩ : Addr).add j) = some u := by
  have h : ((w.alloc A).alloc (.cells #[v] t)).heap[(w.alloc A).heap.size]? = some (.cells #[v] t) := heap_alloc_new _ _
  rw [World.size_alloc] at h
  exact fun j u hu => World.news_of_block (w := ((w.alloc A).alloc (.cells #[v] t)).drew) h j u hu

theorem grow_rel2 {w X w1 : World} {g len cap : Nat} (hbX : Below w.heap.size w X) (hzX : w.heap.size + 1 ≤ X.heap.size) (hg : w.heap.size + 1 ≤ g)
    (hgrow : X.grownBy w1 (Value.slice (some ⟨g, 0, none⟩) len cap).ownBlock) : w.heap.size + 1 ≤ w1.heap.size ∧ Below w.heap.size w w1 :=
  ⟨Nat.le_trans hzX hgrow.size, hbX.grown hgrow (by omega) (fun k hk => by simp [Value.ownBlock] at hk; omega)⟩

theorem shr_and1 (x k X : Nat) (hx : x < 16) (hX : X = x / 2 ^ k % 2) : bits .and .i64 ((x : Int) / 2 ^ k) 1 = (X : Int) := by
  have e : ((x : Int) / 2 ^ k) = ((x / 2 ^ k : Nat) : Int) := by simp
  have : x / 2 ^ k ≤ x := Nat.div_le_self _ _
  rw [e, i64_and1 _ (by omega), hX]

set_option maxHeartbeats 400000 in
set_option maxRecDepth 100000 in
theorem valuesIn_any (n st inp : Nat) (la ga : Option Addr) (lc gc : Nat) (oa : Option Addr) (on oc : Nat) (ln : Nat) (gs : List (Int × Int)) (w : World) (h1 : n ≤ 4) (h2 : ln ≤ 4) (h3 : gs.length ≤ 30) (hs : st < 16) (hn : inp < 16)
    (hG : PairsAt w ga gs) (hg : ∀ i, i < gs.length → gateOk (n + ln + (i : Nat)) (gs.getD i (0, 0)) = true) :
    Calls Try.prog 23 #[.agg #[.int .i64 n, .slice la ln lc, .slice ga gs.length gc, .slice oa on oc], .int .i64 st, .int .i64 inp] w fun e w' =>
      ∃ g cap, e = .returned (.slice (some ⟨g, 0, none⟩) (n + ln + gs.length + 1) cap) ∧ w'.ownsRow w.heap.size 3 1 (.slice (some ⟨g, 0, none⟩) (n + ln + gs.length + 1) cap) (n + ln + gs.length + 1) (ivals (vals n ln gs st inp)) ∧ Below w.heap.size w w' := by
  obtain ⟨i0, hi, hz0, hz1, hz2⟩ := info_parts Try.infoInt
  have hmk := fun w => run_make1 (n + ln + gs.length + 1) (by omega) (by omega) w
  simp only [Int.natCast_add, Int.natCast_one] at hmk
  go_enter Try.func23, Try.ntmps23
  go_wp2_with (go_at_call 27; refine (last_any n _ _ _ ln _ gs.length _ _ _ _ (by omega) (by omega) (by omega) (by omega)).mono ?_; rintro e w' ⟨rfl, rfl⟩)
  go_loopw [7, 8, 18] (fun v _ i wr => ∃ k : Nat, k ≤ n ∧ i = .int .i64 k ∧ (∃ g cap, v = .slice (some ⟨g, 0, none⟩) (k + 1) cap ∧ wr.ownsRow (w.heap.size + 1) 3 1 (.slice (some ⟨g, 0, none⟩) (k + 1) cap) (k + 1) (ivals (baseVals k 0 st inp))) ∧
      wr.cell? ⟨w.heap.size, 1, none⟩ = some (.slice la ln lc) ∧ wr.cell? ⟨w.heap.size, 2, none⟩ = some (.slice ga gs.length gc) ∧ w.heap.size + 1 ≤ wr.heap.size ∧ Below w.heap.size w wr)
    (fun _ _ i _ => n - (intOf i).toNat)
  case atStart =>
    refine ⟨0, Nat.zero_le _, rfl, ⟨_, _, rfl, ?_⟩, ?_, ?_, ?_, (((Below.refl _ _).alloc (Nat.le_refl _) _).alloc (by simp) _).alloc (by simp; omega) _⟩
    rotate_left
    · rw [World.cell?_alloc_past _ _ _ (by simp; omega), World.cell?_alloc_past _ _ _ (by simp), World.cell?_alloc_at _ _ _ _ rfl]; rfl
    · rw [World.cell?_alloc_past _ _ _ (by simp; omega), World.cell?_alloc_past _ _ _ (by simp), World.cell?_alloc_at _ _ _ _ rfl]; rfl
    · simp
    have := made_own (w.heap.size + 1) (n + ln + gs.length + 1) ((w.alloc (.cells #[.int .i64 n, .slice la ln lc, .slice ga gs.length gc, .slice oa on oc] 26)).alloc (.cells #[.int .i64 n, .slice la ln lc, .slice ga gs.length gc, .slice oa on oc] 26)) (by omega) (by omega) (by simp)
    simp only [World.size_alloc] at this
    exact this
  case round =>
    obtain ⟨k, hk, rfl, ⟨g, cap, rfl, hown⟩, q1, q2, hz, hbel⟩ := hrel
    by_cases hk2 : k < n
    · obtain ⟨X, hX⟩ : ∃ X, X = inp / 2 ^ k % 2 := ⟨_, rfl⟩
      have hb := shr_and1 inp k X hn hX
      have HX : Hid (X = inp / 2 ^ k % 2) := hX
      clear hmk hX
      go_wp2_with (at_builtin; refine wpList_append_lies _ rfl (.tmp 21) (.tmp 26) 24 rfl (w.heap.size + 1) 3 i0 (.int .i64 0) 1 8 Try.underlying24 hi hz0 hz1 hz2 rfl (by omega) _ _ _ rfl (hown.alloc _) ⟨wr.heap.size, 0, none⟩ 1 1 [.int .i64 X] rfl rfl (cell_one_new _ _ _) (by simp; rfl) (by omega) (by unfold maxLen; omega) (by omega) (by simp; omega) _ rfl ?_)
      intro g' cap' w1 hown1 hgrow hat hlt1
      obtain ⟨e1, e2, e3⟩ := grow_rel hown hz hbel hgrow
      have p1 := (e1 1).trans q1
      have p2 := (e1 2).trans q2
      clear hown hgrow hat e1 q1 q2 hb
      go_wp2
      go_roundw
      case rel => exact ⟨k + 1, by omega, by go_num, ⟨g', cap', rfl, by rw [baseVals_in, ivals_snoc, ← HX.out]; exact hown1⟩, p1, p2, e2, e3⟩
      case measure => simp [intOf]; omega
    · clear hmk
      obtain rfl : k = n := by omega
      go_wp2
      go_loopw [7, 9, 32] (fun v _ i wr => ∃ j : Nat, j ≤ ln ∧ i = .int .i64 j ∧ (∃ g cap, v = .slice (some ⟨g, 0, none⟩) (k + j + 1) cap ∧ wr.ownsRow (w.heap.size + 1) 3 1 (.slice (some ⟨g, 0, none⟩) (k + j + 1) cap) (k + j + 1) (ivals (baseVals k j st inp))) ∧
          wr.cell? ⟨w.heap.size, 2, none⟩ = some (.slice ga gs.length gc) ∧ w.heap.size + 1 ≤ wr.heap.size ∧ Below w.heap.size w wr)
        (fun _ _ i _ => ln - (intOf i).toNat)
      case atStart => exact ⟨0, Nat.zero_le _, rfl, ⟨g, cap, rfl, hown⟩, q2, hz, hbel⟩
      case round =>
        clear hown q1 q2 hz hbel
        obtain ⟨j, hj, rfl, ⟨g, cap, rfl, hown⟩, q2, hz, hbel⟩ := hrel
        by_cases hj2 : j < ln
        · obtain ⟨X, hX⟩ : ∃ X, X = st / 2 ^ j % 2 := ⟨_, rfl⟩
          have hb := shr_and1 st j X hs hX
          have HX : Hid (X = st / 2 ^ j % 2) := hX
          clear hX
          go_wp2_with (at_builtin; refine wpList_append_lies _ rfl (.tmp 35) (.tmp 40) 24 rfl (w.heap.size + 1) 3 i0 (.int .i64 0) 1 8 Try.underlying24 hi hz0 hz1 hz2 rfl (by omega) _ _ _ rfl (hown.alloc _) ⟨wr.heap.size, 0, none⟩ 1 1 [.int .i64 X] rfl rfl (cell_one_new _ _ _) (by simp; rfl) (by omega) (by unfold maxLen; omega) (by omega) (by simp; omega) _ rfl ?_)
          intro g' cap' w1 hown1 hgrow hat hlt1
          obtain ⟨e1, e2, e3⟩ := grow_rel hown hz hbel hgrow
          have p2 := (e1 2).trans q2
          clear hown hgrow hat e1 q2 hb
          go_wp2
          go_roundw
          case rel => exact ⟨j + 1, by omega, by go_num, ⟨g', cap', rfl, by rw [baseVals_la, ivals_snoc, ← HX.out]; exact hown1⟩, p2, e2, e3⟩
          case measure => simp [intOf]; omega
        · obtain rfl : j = ln := by omega
          go_wp2
          rcases hG with rfl | ⟨b, off, rfl, hlt, hc⟩
          · refine wp_loop_rounds 1 ?_
            rw [rounds_succ]
            go_wp2
            go_ret
            exact ⟨g, cap, rfl, hown.lower (by omega), hbel⟩
          · go_loopw [7, 11, 46] (fun v _ i wr => ∃ m : Nat, m ≤ gs.length ∧ i = .int .i64 m ∧ (∃ g cap, v = .slice (some ⟨g, 0, none⟩) (k + j + m + 1) cap ∧ wr.ownsRow (w.heap.size + 1) 3 1 (.slice (some ⟨g, 0, none⟩) (k + j + m + 1) cap) (k + j + m + 1) (ivals (gateVals gs (baseVals k j st inp) m))) ∧
                w.heap.size + 1 ≤ wr.heap.size ∧ Below w.heap.size w wr)
              (fun _ _ i _ => gs.length - (intOf i).toNat)
            case atStart => exact ⟨0, Nat.zero_le _, rfl, ⟨g, cap, rfl, hown⟩, hz, hbel⟩
            case round =>
              clear hown q2 hz hbel
              obtain ⟨m, hm, rfl, ⟨g, cap, rfl, hown⟩, hz, hbel⟩ := hrel
              by_cases hm2 : m < gs.length
              · have hcy : wr.cell? ⟨b, off + m * 2, none⟩ = some (.int .i64 (gs.getD m (0, 0)).1) := (hbel.cell (p := ⟨b, _, none⟩) hlt).trans (hc m hm2).1
                have hcz : wr.cell? ⟨b, off + m * 2 + 1, none⟩ = some (.int .i64 (gs.getD m (0, 0)).2) := (hbel.cell (p := ⟨b, _, none⟩) hlt).trans (hc m hm2).2
                have hq := hg m hm2
                obtain ⟨x, hX⟩ : ∃ x, x = gs.getD m (0, 0) := ⟨_, rfl⟩
                obtain ⟨V, hV⟩ : ∃ V, V = gateVals gs (baseVals k j st inp) m := ⟨_, rfl⟩
                have hVl : V.length = k + j + m + 1 := by rw [hV, gateVals_len, baseVals_len]; omega
                have hV1 : ∀ x ∈ V, x ≤ 1 := by rw [hV]; exact gateVals_01 gs _ (baseVals_01 _ _ _ _) m
                rw [← hX] at hcy hcz hq
                rw [← hV] at hown
                obtain ⟨x1, x2⟩ := x
                dsimp only at hcy hcz
                obtain ⟨⟨x10, x11⟩, x20, x21⟩ := gateOk_pos hq
                obtain ⟨A, hA⟩ : ∃ A, sigv x1 V = A := ⟨_, rfl⟩
                obtain ⟨C, hC⟩ : ∃ C, sigv x2 V = C := ⟨_, rfl⟩
                have hA1 : A ≤ 1 := hA ▸ sigv_le x1 V
                have hC1 : C ≤ 1 := hC ▸ sigv_le x2 V
                obtain ⟨Y, hY⟩ : ∃ Y, Y = A * C := ⟨_, rfl⟩
                have hb : bits .and .i64 (A : Int) (C : Int) = (Y : Int) := by rw [hY]; exact and_01 A C hA1 hC1
                have HY : Hid (gateVals gs (baseVals k j st inp) (m + 1) = V ++ [Y]) := by
                  show gateVals gs (baseVals k j st inp) m ++ [_] = _
                  rw [← hV, ← hX, hY, ← hA, ← hC]
                have HA : Hid (sigv x1 V = A) := hA
                have HC : Hid (sigv x2 V = C) := hC
                have hgl : g < wr.heap.size := (hown.lt g rfl).2
                have hl1 : x1 / 2 < ((k + j + m + 1 : Nat) : Int) := by omega
                have hl2 : x2 / 2 < ((k + j + m + 1 : Nat) : Int) := by omega
                clear hX hV hA hC hY hq hg hc x11 x21
                go_wp2
                go_region_held3 (fun w' => w'.cell? ⟨wr.heap.size, 0, none⟩ = some (.int .i64 x1) ∧ w'.cell? ⟨wr.heap.size, 1, none⟩ = some (.int .i64 x2)) (first | (simp [go_sem, World.cell?_alloc_past]; done) | (refine keep_two hgl ?_ hgrow ?_ ?_ <;> simp [go_sem, World.cell?_alloc_past])) (first | (go_at_call_of 24 (Value.int IntKind.i64 x1); refine (valueOf_is _ x10 hl1 (by omega) hVl.symm hV1 ((hown.alloc _).drew) HA.out).mono ?_; rintro e w' ⟨rfl, rfl⟩) | (go_at_call_of 24 (Value.int IntKind.i64 x2); refine (valueOf_is _ x20 hl2 (by omega) hVl.symm hV1 ((hown.alloc _).drew) HC.out).mono ?_; rintro e w' ⟨rfl, rfl⟩) | (refine step_append_lies _ (by rfl) (.tmp 50) (.tmp 60) 24 (by rfl) (w.heap.size + 1) 3 i0 (.int .i64 0) 1 8 Try.underlying24 hi hz0 hz1 hz2 rfl (by omega) (.slice (some ⟨g, 0, none⟩) (k + j + m + 1) cap) (k + j + m + 1) (ivals V) (by rfl) (((hown.alloc _).alloc _).drew) ⟨wr.heap.size + 1, 0, none⟩ 1 1 [.int .i64 Y] (by rfl) rfl (news2v _ _ _ _) (by simp; rfl) (by omega) (by unfold maxLen; omega) (by omega) (by simp; omega) _ rfl ?_; intro g' cap' w1 hown1 hgrow hat hlt1) | fail)
                have hgb := (hown.lt g rfl).1
                obtain ⟨e2, e3⟩ := grow_rel2 (((hbel.alloc (by omega) _).alloc (by simp; omega) _).drew) (by simp; omega) hgb hgrow
                clear hgrow hown
                go_wp2
                go_roundw
                case rel => exact ⟨m + 1, by omega, by go_num, ⟨g', cap', rfl, by rw [HY.out, ivals_snoc]; exact hown1⟩, e2, e3⟩
                case measure => simp [intOf]; omega
              · clear hc hg
                obtain rfl : m = gs.length := by omega
                go_wp2
                go_ret
                exact ⟨g, cap, rfl, hown.lower (by omega), hbel⟩

end Go.Proofs.Ytgpaajdfkekjiab
