/-
  The book's keepInts and keepFloats: they mark the list, and the book holds four lists more. Written by wip/mk_bkkeep.py.
-/
import Derived.Test.YtgpaajdfkekjiaaGreatDoorBkApp
import Derived.ArgAppend
namespace Go.Proofs.YtgpaajdfkekjiaaGreatDoor
open Go.RowKit

theorem Marked.alloc {E : TypeId} {sz : Nat} {f : Nat → Value} {w : World} {V : Value} {n r : Nat} (h : Marked E sz f w V n r) (o : Obj) : Marked E sz f (w.alloc o) V n r := h.block (fun g hg => ((Below.refl w.heap.size w).alloc (Nat.le_refl _) o).block g (h.lt hg))
theorem AppSt.alloc {E : TypeId} {sz : Nat} {f : Nat → Value} {w0 w : World} {V : Value} {n r : Nat} {es : List Entry} (h : AppSt E sz f w0 V n w r es) (o : Obj) : Marked E sz f (w.alloc o) V n r := h.m.alloc o

attribute [local go_sem] run_store_flt

theorem Tryz.infoIntsK : (Tryz.prog.info? 32).map (fun i => (i.zero, i.size, i.bytes)) = some (some (.slice none 0 0), 1, 24) := by kernel_rfl
theorem Tryz.infoFloatsK : (Tryz.prog.info? 74).map (fun i => (i.zero, i.size, i.bytes)) = some (some (.slice none 0 0), 1, 24) := by kernel_rfl

set_option maxHeartbeats 1000000 in
set_option maxRecDepth 100000 in
theorem keepInts_allL (R : Nat → Nat) (P N : Nat) (v : Nat → Value) (es : Nat → List Entry) (a : Option Addr) (n cap base : Nat) (xs : List Value) (w : World) (hB : Book2 R w P v es N) (hN : N ≤ 700000000000) (hn : n ≤ 900)
    (hO : w.ownsRow base 3 1 (.slice a n cap) n xs) (hab : ∀ b, (Value.slice a n cap).ownBlock = some b → 6 ≤ R b) :
    Calls Tryz.prog 26 #[.pointer (some ⟨P, 0, none⟩), .slice a n cap] w fun e w' => e = .returned (.tuple #[]) ∧ KeepResL R w P N 0 es (Value.slice a n cap).ownBlock w' := by
  obtain ⟨i0, hi0, hz0, hz1, hz2⟩ := info_parts Tryz.infoInt
  obtain ⟨i1, hi1, hy0, hy1, hy2⟩ := info_parts Tryz.infoIntsK
  obtain ⟨j, hj, hjN⟩ := hB.len 0 (by omega)
  obtain ⟨ha, hc, hv⟩ := (hB.slot 0 (by omega)).form
  rw [hj] at hv
  have c0 := (hB.slot 0 (by omega)).cell
  rw [hv] at c0
  have hvb : ∀ b, (Value.slice a n cap).ownBlock = some b → b < w.heap.size := fun b e => (hO.lt b e).2
  obtain ⟨M, hM⟩ : ∃ M : Int, -1 - (j : Int) = M := ⟨_, rfl⟩
  have hmk : ∀ i, mkI j i = .int .i64 M := fun i => by rw [← hM]; rfl
  have e1 : marksL (mkI j) (n * 1) ++ [.int .i64 M] = marksL (mkI j) ((n + 1) * 1) := by rw [← mkI_app, show marksL (mkI j) (1 * 1) = [.int .i64 M] by rw [← hmk 0]; rfl]
  have e2 : marksL (mkI j) (n * 1) ++ [.int .i64 M, .int .i64 M] = marksL (mkI j) ((n + 2) * 1) := by rw [← mkI_app, show marksL (mkI j) (2 * 1) = [.int .i64 M, .int .i64 M] by rw [← hmk 0]; rfl]
  have e3 : marksL (mkI j) (n * 1) ++ [.int .i64 M, .int .i64 M, .int .i64 M] = marksL (mkI j) ((n + 3) * 1) := by rw [← mkI_app, show marksL (mkI j) (3 * 1) = [.int .i64 M, .int .i64 M, .int .i64 M] by rw [← hmk 0]; rfl]
  have hM0 : M ≤ -1 := by omega
  have hM1 : -700000000001 ≤ M := by omega
  have HE1 := hidK e1
  have HE2 := hidK e2
  have HE3 := hidK e3
  have HMK := hidK hmk
  have HB := hidK hB
  have HJ := hidK hj
  have HV := hidK hv
  have HU := hidK (MarkUp.start (f := mkI j) hO)
  clear e1 e2 e3 hmk hB hj hv hO
  go_enter Tryz.func26, Tryz.ntmps26
  go_wp2
  go_loopw [5] (fun i wr => ∃ k : Nat, k ≤ n ∧ i = .int .i64 k ∧ MarkUp 3 1 (mkI j) wr (.slice a n cap) n k ∧ Keeps (fun k => (Value.slice a n cap).ownBlock = some k) w wr) (fun i _ => n - (intOf i).toNat)
  case atStart => exact ⟨0, Nat.zero_le _, rfl, HU.out, Keeps.refl _ _⟩
  case round =>
    obtain ⟨k, hk, rfl, hup, K⟩ := hrel
    by_cases hk2 : k < n
    · rcases hup with ⟨_, h0⟩ | ⟨g, cp, F, hv', hr, hnc, hcm, hF⟩
      · omega
      · simp only [Value.slice.injEq, true_and] at hv'
        obtain ⟨rfl, rfl⟩ := hv'
        have c1 := hr.cell (i := k) (by omega)
        have f1 := hr.frozen k
        obtain ⟨u, hu⟩ : ∃ u, u = F k := ⟨_, rfl⟩
        rw [← hu] at c1
        have hk3 : (k : Int) < (n : Int) := by omega
        clear hu c0
        go_wp2
        go_roundw
        case rel => exact ⟨k + 1, by omega, by go_num, .inr ⟨g, cap, _, rfl, hr.set k (.int .i64 M), hnc, hcm, fun i hi => by by_cases h : i = k <;> simp [h, HMK.out]; rw [hF i (by omega)]; exact HMK.out i⟩, K.trans ⟨rfl, rfl, rfl, by rw [Deep.nblk_setCell]; exact Nat.le_refl _, fun q _ ho => Deep.blk_setCell_other _ _ _ _ (fun e => ho (by simp at e; rw [e]; rfl))⟩⟩
        case measure => simp [intOf]; omega
    · obtain rfl : k = n := by omega
      have A0 := AppSt.start hup.marked K hvb (by omega)
      have e1 := HE1.out
      have e2 := HE2.out
      have e3 := HE3.out
      clear hup c0
      go_wp2_with (first
        | (at_builtin; refine wpList_append_marked _ rfl (.tmp 26) (.tmp 28) 32 rfl 3 i0 (.int .i64 0) 1 8 Tryz.underlying32 hi0 hz0 hz1 hz2 rfl (by omega) (mkI j) (.slice a k cap) k k rfl (A0.alloc _) ⟨wr.heap.size, 0, none⟩ 1 1 [.int .i64 M] rfl rfl (World.news_of_block (heap_alloc_new wr _)) (by simp; rfl) e1 (by omega) (by omega) (by unfold maxLen; omega) (by omega) ?_; intro g1 cap1 w1 r1 hr1 hs1 m1 grow1 nm1; have A1 := A0.next (cap' := cap1) grow1 m1 hr1 nm1 (by omega))
        | (at_builtin; refine wpList_append_marked _ rfl (.tmp 30) (.tmp 33) 32 rfl 3 i0 (.int .i64 0) 1 8 Tryz.underlying32 hi0 hz0 hz1 hz2 rfl (by omega) (mkI j) (.slice a k cap) k r1 rfl (A1.alloc _) ⟨w1.heap.size, 0, none⟩ 2 2 [.int .i64 M, .int .i64 M] rfl rfl (World.news_of_block (heap_alloc_new w1 _)) (by simp; rfl) e2 (by omega) (by omega) (by unfold maxLen; omega) (by omega) ?_; intro g2 cap2 w2 r2 hr2 hs2 m2 grow2 nm2; have A2 := A1.next (cap' := cap2) grow2 m2 hr2 nm2 (by omega))
        | (at_builtin; refine wpList_append_marked _ rfl (.tmp 35) (.tmp 39) 32 rfl 3 i0 (.int .i64 0) 1 8 Tryz.underlying32 hi0 hz0 hz1 hz2 rfl (by omega) (mkI j) (.slice a k cap) k r2 rfl (A2.alloc _) ⟨w2.heap.size, 0, none⟩ 3 3 [.int .i64 M, .int .i64 M, .int .i64 M] rfl rfl (World.news_of_block (heap_alloc_new w2 _)) (by simp; rfl) e3 (by omega) (by omega) (by unfold maxLen; omega) (by omega) ?_; intro g3 cap3 w3 r3 hr3 hs3 m3 grow3 nm3; have A3 := A2.next (cap' := cap3) grow3 m3 hr3 nm3 (by omega); have hB3 := A3.book HB.out hab; have cP3 := (hB3.slot 0 (by omega)).cell; have ownH := (hB3.slot 0 (by omega)).own; rw [HJ.out] at ownH; rw [HV.out] at cP3 ownH)
        | (at_builtin; refine wpList_append_lies _ rfl (.tmp 45) (.tmp 50) 24 rfl 0 32 i1 (.slice none 0 0) 1 24 Tryz.underlying24 hi1 hy0 hy1 hy2 rfl (by omega) (.slice ha (4 * j) hc) (4 * j) ((es 0).map Entry.val) rfl (ownH.alloc _) ⟨w3.heap.size, 0, none⟩ 4 4 [.slice a k cap, .slice (some ⟨g1, 0, none⟩) (k + 1) cap1, .slice (some ⟨g2, 0, none⟩) (k + 2) cap2, .slice (some ⟨g3, 0, none⟩) (k + 3) cap3] rfl rfl (World.news_of_block (heap_alloc_new w3 _)) (by simp [Value.oneCell']) (by omega) (by unfold maxLen; omega) (by omega) (by simp) _ rfl ?_; intro g4 cap4 w4 own4 grow4 hat hlt4; rw [← HV.out] at grow4; obtain ⟨cP4, fP4⟩ := hB3.at4 (by omega) grow4; rw [HV.out] at cP4)
        | fail)
      go_end0
      exact ⟨rfl, keep_doneL HB.out (by omega) HJ.out A3 rfl hab own4 grow4 (by rw [HV.out]; rcases hat with h | h; exact .inl h; exact .inr (by rw [h]))⟩
theorem keepInts_all (R : Nat → Nat) (P N : Nat) (v : Nat → Value) (es : Nat → List Entry) (a : Option Addr) (n cap base : Nat) (xs : List Value) (w : World) (hB : Book2 R w P v es N) (hN : N ≤ 700000000000) (hn : n ≤ 900)
    (hO : w.ownsRow base 3 1 (.slice a n cap) n xs) (hab : ∀ b, (Value.slice a n cap).ownBlock = some b → 6 ≤ R b) :
    Calls Tryz.prog 26 #[.pointer (some ⟨P, 0, none⟩), .slice a n cap] w fun e w' => e = .returned (.tuple #[]) ∧ KeepRes R w P N (Value.slice a n cap).ownBlock w' :=
  (keepInts_allL R P N v es a n cap base xs w hB hN hn hO hab).mono fun _ _ h => ⟨h.1, h.2.res⟩

set_option maxHeartbeats 1000000 in
set_option maxRecDepth 100000 in
theorem keepFloats_allL (R : Nat → Nat) (P N : Nat) (v : Nat → Value) (es : Nat → List Entry) (a : Option Addr) (n cap base : Nat) (xs : List Value) (w : World) (hB : Book2 R w P v es N) (hN : N ≤ 700000000000) (hn : n ≤ 900)
    (hO : w.ownsRow base 106 1 (.slice a n cap) n xs) (hab : ∀ b, (Value.slice a n cap).ownBlock = some b → 6 ≤ R b) :
    Calls Tryz.prog 32 #[.pointer (some ⟨P, 0, none⟩), .slice a n cap] w fun e w' => e = .returned (.tuple #[]) ∧ KeepResL R w P N 1 es (Value.slice a n cap).ownBlock w' := by
  obtain ⟨i0, hi0, hz0, hz1, hz2⟩ := info_parts Tryz.infoFloat
  obtain ⟨i1, hi1, hy0, hy1, hy2⟩ := info_parts Tryz.infoFloatsK
  obtain ⟨j, hj, hjN⟩ := hB.len 1 (by omega)
  obtain ⟨ha, hc, hv⟩ := (hB.slot 1 (by omega)).form
  rw [hj] at hv
  have c0 := (hB.slot 1 (by omega)).cell
  rw [hv] at c0
  have hvb : ∀ b, (Value.slice a n cap).ownBlock = some b → b < w.heap.size := fun b e => (hO.lt b e).2
  obtain ⟨M, hM⟩ : ∃ M : Int, -1 - (j : Int) = M := ⟨_, rfl⟩
  have hmk : ∀ i, mkF j i = .float .f64 (floatOfInt .f64 M) := fun i => by rw [← hM]; rfl
  have e1 : marksL (mkF j) (n * 1) ++ [.float .f64 (floatOfInt .f64 M)] = marksL (mkF j) ((n + 1) * 1) := by rw [← mkF_app, show marksL (mkF j) (1 * 1) = [.float .f64 (floatOfInt .f64 M)] by rw [← hmk 0]; rfl]
  have e2 : marksL (mkF j) (n * 1) ++ [.float .f64 (floatOfInt .f64 M), .float .f64 (floatOfInt .f64 M)] = marksL (mkF j) ((n + 2) * 1) := by rw [← mkF_app, show marksL (mkF j) (2 * 1) = [.float .f64 (floatOfInt .f64 M), .float .f64 (floatOfInt .f64 M)] by rw [← hmk 0]; rfl]
  have e3 : marksL (mkF j) (n * 1) ++ [.float .f64 (floatOfInt .f64 M), .float .f64 (floatOfInt .f64 M), .float .f64 (floatOfInt .f64 M)] = marksL (mkF j) ((n + 3) * 1) := by rw [← mkF_app, show marksL (mkF j) (3 * 1) = [.float .f64 (floatOfInt .f64 M), .float .f64 (floatOfInt .f64 M), .float .f64 (floatOfInt .f64 M)] by rw [← hmk 0]; rfl]
  have hM0 : M ≤ -1 := by omega
  have hM1 : -700000000001 ≤ M := by omega
  have HE1 := hidK e1
  have HE2 := hidK e2
  have HE3 := hidK e3
  have HMK := hidK hmk
  have HB := hidK hB
  have HJ := hidK hj
  have HV := hidK hv
  have HU := hidK (MarkUp.start (f := mkF j) hO)
  clear e1 e2 e3 hmk hB hj hv hO
  go_enter Tryz.func32, Tryz.ntmps32
  go_wp2
  go_loopw [5] (fun i wr => ∃ k : Nat, k ≤ n ∧ i = .int .i64 k ∧ MarkUp 106 1 (mkF j) wr (.slice a n cap) n k ∧ Keeps (fun k => (Value.slice a n cap).ownBlock = some k) w wr) (fun i _ => n - (intOf i).toNat)
  case atStart => exact ⟨0, Nat.zero_le _, rfl, HU.out, Keeps.refl _ _⟩
  case round =>
    obtain ⟨k, hk, rfl, hup, K⟩ := hrel
    by_cases hk2 : k < n
    · rcases hup with ⟨_, h0⟩ | ⟨g, cp, F, hv', hr, hnc, hcm, hF⟩
      · omega
      · simp only [Value.slice.injEq, true_and] at hv'
        obtain ⟨rfl, rfl⟩ := hv'
        have c1 := hr.cell (i := k) (by omega)
        have f1 := hr.frozen k
        obtain ⟨u, hu⟩ : ∃ u, u = F k := ⟨_, rfl⟩
        rw [← hu] at c1
        have hk3 : (k : Int) < (n : Int) := by omega
        clear hu c0
        go_wp2
        go_roundw
        case rel => exact ⟨k + 1, by omega, by go_num, .inr ⟨g, cap, _, rfl, hr.set k (.float .f64 (floatOfInt .f64 M)), hnc, hcm, fun i hi => by by_cases h : i = k <;> simp [h, HMK.out]; rw [hF i (by omega)]; exact HMK.out i⟩, K.trans ⟨rfl, rfl, rfl, by rw [Deep.nblk_setCell]; exact Nat.le_refl _, fun q _ ho => Deep.blk_setCell_other _ _ _ _ (fun e => ho (by simp at e; rw [e]; rfl))⟩⟩
        case measure => simp [intOf]; omega
    · obtain rfl : k = n := by omega
      have A0 := AppSt.start hup.marked K hvb (by omega)
      have e1 := HE1.out
      have e2 := HE2.out
      have e3 := HE3.out
      clear hup c0
      go_wp2_with (first
        | (at_builtin; refine wpList_append_marked _ rfl (.tmp 27) (.tmp 29) 74 rfl 106 i0 (.float .f64 0) 1 8 Tryz.underlying74 hi0 hz0 hz1 hz2 rfl (by omega) (mkF j) (.slice a k cap) k k rfl (A0.alloc _) ⟨wr.heap.size, 0, none⟩ 1 1 [.float .f64 (floatOfInt .f64 M)] rfl rfl (World.news_of_block (heap_alloc_new wr _)) (by simp; rfl) e1 (by omega) (by omega) (by unfold maxLen; omega) (by omega) ?_; intro g1 cap1 w1 r1 hr1 hs1 m1 grow1 nm1; have A1 := A0.next (cap' := cap1) grow1 m1 hr1 nm1 (by omega))
        | (at_builtin; refine wpList_append_marked _ rfl (.tmp 31) (.tmp 34) 74 rfl 106 i0 (.float .f64 0) 1 8 Tryz.underlying74 hi0 hz0 hz1 hz2 rfl (by omega) (mkF j) (.slice a k cap) k r1 rfl (A1.alloc _) ⟨w1.heap.size, 0, none⟩ 2 2 [.float .f64 (floatOfInt .f64 M), .float .f64 (floatOfInt .f64 M)] rfl rfl (World.news_of_block (heap_alloc_new w1 _)) (by simp; rfl) e2 (by omega) (by omega) (by unfold maxLen; omega) (by omega) ?_; intro g2 cap2 w2 r2 hr2 hs2 m2 grow2 nm2; have A2 := A1.next (cap' := cap2) grow2 m2 hr2 nm2 (by omega))
        | (at_builtin; refine wpList_append_marked _ rfl (.tmp 36) (.tmp 40) 74 rfl 106 i0 (.float .f64 0) 1 8 Tryz.underlying74 hi0 hz0 hz1 hz2 rfl (by omega) (mkF j) (.slice a k cap) k r2 rfl (A2.alloc _) ⟨w2.heap.size, 0, none⟩ 3 3 [.float .f64 (floatOfInt .f64 M), .float .f64 (floatOfInt .f64 M), .float .f64 (floatOfInt .f64 M)] rfl rfl (World.news_of_block (heap_alloc_new w2 _)) (by simp; rfl) e3 (by omega) (by omega) (by unfold maxLen; omega) (by omega) ?_; intro g3 cap3 w3 r3 hr3 hs3 m3 grow3 nm3; have A3 := A2.next (cap' := cap3) grow3 m3 hr3 nm3 (by omega); have hB3 := A3.book HB.out hab; have cP3 := (hB3.slot 1 (by omega)).cell; have ownH := (hB3.slot 1 (by omega)).own; rw [HJ.out] at ownH; rw [HV.out] at cP3 ownH)
        | (at_builtin; refine wpList_append_lies _ rfl (.tmp 46) (.tmp 51) 25 rfl 0 74 i1 (.slice none 0 0) 1 24 Tryz.underlying25 hi1 hy0 hy1 hy2 rfl (by omega) (.slice ha (4 * j) hc) (4 * j) ((es 1).map Entry.val) rfl (ownH.alloc _) ⟨w3.heap.size, 0, none⟩ 4 4 [.slice a k cap, .slice (some ⟨g1, 0, none⟩) (k + 1) cap1, .slice (some ⟨g2, 0, none⟩) (k + 2) cap2, .slice (some ⟨g3, 0, none⟩) (k + 3) cap3] rfl rfl (World.news_of_block (heap_alloc_new w3 _)) (by simp [Value.oneCell']) (by omega) (by unfold maxLen; omega) (by omega) (by simp) _ rfl ?_; intro g4 cap4 w4 own4 grow4 hat hlt4; rw [← HV.out] at grow4; obtain ⟨cP4, fP4⟩ := hB3.at4 (by omega) grow4; rw [HV.out] at cP4)
        | fail)
      go_end0
      exact ⟨rfl, keep_doneL HB.out (by omega) HJ.out A3 rfl hab own4 grow4 (by rw [HV.out]; rcases hat with h | h; exact .inl h; exact .inr (by rw [h]))⟩
theorem keepFloats_all (R : Nat → Nat) (P N : Nat) (v : Nat → Value) (es : Nat → List Entry) (a : Option Addr) (n cap base : Nat) (xs : List Value) (w : World) (hB : Book2 R w P v es N) (hN : N ≤ 700000000000) (hn : n ≤ 900)
    (hO : w.ownsRow base 106 1 (.slice a n cap) n xs) (hab : ∀ b, (Value.slice a n cap).ownBlock = some b → 6 ≤ R b) :
    Calls Tryz.prog 32 #[.pointer (some ⟨P, 0, none⟩), .slice a n cap] w fun e w' => e = .returned (.tuple #[]) ∧ KeepRes R w P N (Value.slice a n cap).ownBlock w' :=
  (keepFloats_allL R P N v es a n cap base xs w hB hN hn hO hab).mono fun _ _ h => ⟨h.1, h.2.res⟩

end Go.Proofs.YtgpaajdfkekjiaaGreatDoor
