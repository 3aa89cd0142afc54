/-
  The walk of the statement Compares of package latchlaw: of any two circuits it returns true and writes nothing that was there.
-/
import Derived.Test.YtgpaajdfkekjiaaGreatDoorRefEnds
import Derived.Test.YtgpaajdfkekjiaaGreatDoorOneCmp
import Derived.Test.YtgpaajdfkekjiaaGreatDoorRunsW
namespace Go.Proofs.YtgpaajdfkekjiaaGreatDoor
open Go.RowKit

theorem one_cmp (R : Nat → Nat) (P N : Nat) (v : Nat → Value) (es : Nat → List Entry) (sv : Value) (n m nn : Int) (la ga oa lb gb ob ia : Option Addr) (lc gc oc ld gd od ic : Nat) (ls gs : List (Int × Int)) (os : List Int) (lt gt : List (Int × Int)) (ot ins : List Int) (w : World)
    (hB : Book2 R w P v es N) (hN : N ≤ 3900000) (hdb : TabDB w)
    (hml : ls.length * 16 ≤ 140737488351232) (hmg : gs.length * 16 ≤ 140737488351232) (hmo : os.length * 8 ≤ 140737488351232) (hnl : lt.length * 16 ≤ 140737488351232) (hng : gt.length * 16 ≤ 140737488351232) (hno : ot.length * 8 ≤ 140737488351232) (hmi : ins.length * 8 ≤ 140737488351232)
    (hL : PairsAt w la ls) (hG : PairsAt w ga gs) (hO : IntsAt w oa os) (kL : PairsAt w lb lt) (kG : PairsAt w gb gt) (kO : IntsAt w ob ot) (hI : IntsAt w ia ins)
    (fL : ∀ i, i < ls.length → Fits (ls.getD i (0, 0)).1) (fG : ∀ i, i < gs.length → Fits (gs.getD i (0, 0)).1 ∧ Fits (gs.getD i (0, 0)).2) (fO : ∀ i, i < os.length → Fits (os.getD i 0))
    (gL : ∀ i, i < lt.length → Fits (lt.getD i (0, 0)).1) (gG : ∀ i, i < gt.length → Fits (gt.getD i (0, 0)).1 ∧ Fits (gt.getD i (0, 0)).2) (gO : ∀ i, i < ot.length → Fits (ot.getD i 0))
    (sL : ∀ b o, la = some ⟨b, o, none⟩ → ls ≠ [] → ¬ R b < 6) (sG : ∀ b o, ga = some ⟨b, o, none⟩ → gs ≠ [] → ¬ R b < 6) (sO : ∀ b o, oa = some ⟨b, o, none⟩ → os ≠ [] → ¬ R b < 6)
    (rL : ∀ b o, lb = some ⟨b, o, none⟩ → lt ≠ [] → ¬ R b < 6) (rG : ∀ b o, gb = some ⟨b, o, none⟩ → gt ≠ [] → ¬ R b < 6) (rO : ∀ b o, ob = some ⟨b, o, none⟩ → ot ≠ [] → ¬ R b < 6) (sI : ∀ b o, ia = some ⟨b, o, none⟩ → ins ≠ [] → ¬ R b < 6) :
    Calls Tryz.prog 13 #[.pointer (some ⟨P, 0, none⟩), .agg #[.int .i64 6, sv, .int .i64 n, .slice la ls.length lc, .slice ga gs.length gc, .slice oa os.length oc, .int .i64 m, .slice lb lt.length ld, .slice gb gt.length gd, .slice ob ot.length od, .slice ia ins.length ic, .int .i64 nn]] w fun e w' => e = .returned (.bool true) ∧ OneRes R w P N w' :=
  one_cmp_of R P N v es sv n m nn la ga oa lb gb ob ia lc gc oc ld gd od ic ls gs os lt gt ot ins w hB hN hml hmg hmo hnl hng hno hmi hL hG hO kL kG kO hI sL sG sO rL rG rO sI
    (fun W la1 ga1 oa1 lb1 gb1 ob1 lc1 gc1 oc1 ld1 gd1 od1 hW h1 h2 h3 h4 h5 h6 => latchCompare_all n m ls gs os lt gt ot la1 ga1 oa1 lb1 gb1 ob1 lc1 gc1 oc1 ld1 gd1 od1 W (hdb.below hW) h1 h2 h3 h4 h5 h6)
    (fun W hW => refCompare_all n m ls gs os lt gt ot la ga oa lb gb ob lc gc oc ld gd od W fL fG fO gL gG gO (hL.below hW) (hG.below hW) (hO.below hW) (kL.below hW) (kG.below hW) (kO.below hW))

/-- An empty book. -/
def emptyR (P k : Nat) : Nat := if k = P then 0 else 6
theorem emptyR_lt {P k : Nat} (h : emptyR P k < 6) : k = P := by unfold emptyR at h; split at h; assumption; omega
theorem book_start {w : World} {P : Nat} (hlt : P < w.heap.size) (hc : ∀ c, c < 4 → w.cell? ⟨P, c, none⟩ = some (.slice none 0 0)) (hf : ∀ i, w.frozen? ⟨P, i, none⟩ = false) : Book2 (emptyR P) w P (fun _ => .slice none 0 0) (fun _ => []) 0 :=
  ⟨if_pos rfl, hlt, fun k hk => by rw [emptyR_lt hk]; exact hlt, hf, fun c hc4 => ⟨hc c hc4, World.ownsRow_nil _ _ _ _, fun q hq => by simp [Value.ownBlock] at hq, fun k hk => absurd hk (Nat.not_lt_zero k)⟩, fun c _ => ⟨0, rfl, Nat.le_refl _⟩⟩
theorem TabDB.keeps {R : Nat → Nat} {w w' : World} (h : TabDB w) (K : Keeps (fun k => R k < 6) w w') (hR : ¬ R 1 < 6) : TabDB w' := h.block (K.block _ h.lt hR)
theorem some_block {b c o : Nat} (h : (some ⟨b, 0, none⟩ : Option Addr) = some ⟨c, o, none⟩) : b = c := by simp only [Option.some.injEq, Addr.mk.injEq, and_true] at h; exact h.1

/-- one, at DOC.md's second example and its opposite. -/
theorem one_cmp_first (R : Nat → Nat) (P N : Nat) (v : Nat → Value) (es : Nat → List Entry) (bl bo dl do' : Nat) (i j : Int) (sv : Value) (w : World) (hB : Book2 R w P v es N) (hN : N ≤ 3900000) (hdb : TabDB w)
    (hL : PairsAt w (some ⟨bl, 0, none⟩) [(2, i)]) (hO : IntsAt w (some ⟨bo, 0, none⟩) [4]) (kL : PairsAt w (some ⟨dl, 0, none⟩) [(2, j)]) (kO : IntsAt w (some ⟨do', 0, none⟩) [4]) (h1 : ¬ R bl < 6) (h2 : ¬ R bo < 6) (h3 : ¬ R dl < 6) (h4 : ¬ R do' < 6) :
    Calls Tryz.prog 13 #[.pointer (some ⟨P, 0, none⟩), .agg #[.int .i64 6, sv, .int .i64 1, .slice (some ⟨bl, 0, none⟩) 1 1, .slice none 0 0, .slice (some ⟨bo, 0, none⟩) 1 1, .int .i64 1, .slice (some ⟨dl, 0, none⟩) 1 1, .slice none 0 0, .slice (some ⟨do', 0, none⟩) 1 1, .slice none 0 0, .int .i64 0]] w fun e w' =>
      e = .returned (.bool true) ∧ OneRes R w P N w' :=
  one_cmp R P N v es sv 1 1 0 (some ⟨bl, 0, none⟩) none (some ⟨bo, 0, none⟩) (some ⟨dl, 0, none⟩) none (some ⟨do', 0, none⟩) none 1 0 1 1 0 1 0 [(2, i)] [] [4] [(2, j)] [] [4] [] w hB hN hdb (by simp) (by simp) (by simp) (by simp) (by simp) (by simp) (by simp) hL (.inl rfl) hO kL (.inl rfl) kO (.inl rfl)
    (fun k hk => by match k, hk with | 0, _ => exact fits_small (show (-1000000 : Int) ≤ 2 by decide) (show (2 : Int) ≤ 1000000 by decide)) (fun i hi => by simp at hi) (fun i hi => by match i, hi with | 0, _ => exact fits_small (by decide) (by decide))
    (fun k hk => by match k, hk with | 0, _ => exact fits_small (show (-1000000 : Int) ≤ 2 by decide) (show (2 : Int) ≤ 1000000 by decide)) (fun i hi => by simp at hi) (fun i hi => by match i, hi with | 0, _ => exact fits_small (by decide) (by decide))
    (fun b o e _ => by rw [← some_block e]; exact h1) (fun b o e _ => by cases e) (fun b o e _ => by rw [← some_block e]; exact h2) (fun b o e _ => by rw [← some_block e]; exact h3) (fun b o e _ => by cases e) (fun b o e _ => by rw [← some_block e]; exact h4) (fun b o e _ => by cases e)

set_option maxHeartbeats 2000000 in
set_option maxRecDepth 100000 in
theorem compares_walk (n m : Int) (la ga oa lb gb ob : Option Addr) (lc gc oc ld gd od : Nat) (ls gs : List (Int × Int)) (os : List Int) (lt gt : List (Int × Int)) (ot : List Int) (w : World) (hdb : TabDB w)
    (hml : ls.length * 16 ≤ 140737488351232) (hmg : gs.length * 16 ≤ 140737488351232) (hmo : os.length * 8 ≤ 140737488351232) (hnl : lt.length * 16 ≤ 140737488351232) (hng : gt.length * 16 ≤ 140737488351232) (hno : ot.length * 8 ≤ 140737488351232)
    (hL : PairsAt w la ls) (hG : PairsAt w ga gs) (hO : IntsAt w oa os) (kL : PairsAt w lb lt) (kG : PairsAt w gb gt) (kO : IntsAt w ob ot)
    (fL : ∀ i, i < ls.length → Fits (ls.getD i (0, 0)).1) (fG : ∀ i, i < gs.length → Fits (gs.getD i (0, 0)).1 ∧ Fits (gs.getD i (0, 0)).2) (fO : ∀ i, i < os.length → Fits (os.getD i 0))
    (gL : ∀ i, i < lt.length → Fits (lt.getD i (0, 0)).1) (gG : ∀ i, i < gt.length → Fits (gt.getD i (0, 0)).1 ∧ Fits (gt.getD i (0, 0)).2) (gO : ∀ i, i < ot.length → Fits (ot.getD i 0)) :
    Calls Tryz.prog 8 #[.agg #[.int .i64 n, .slice la ls.length lc, .slice ga gs.length gc, .slice oa os.length oc], .agg #[.int .i64 m, .slice lb lt.length ld, .slice gb gt.length gd, .slice ob ot.length od]] w fun e w' => e = .returned (.bool true) ∧ Below w.heap.size w w' := by
  obtain ⟨W3, hW3⟩ : ∃ W3, W3 = ((w.alloc (.cells #[.int .i64 n, .slice la ls.length lc, .slice ga gs.length gc, .slice oa os.length oc] 34)).alloc (.cells #[.int .i64 m, .slice lb lt.length ld, .slice gb gt.length gd, .slice ob ot.length od] 34)).alloc (.cells #[.slice none 0 0, .slice none 0 0, .slice none 0 0, .slice none 0 0] 29) := ⟨_, rfl⟩
  have b3 : Below w.heap.size w W3 := by rw [hW3]; exact (((Below.refl _ _).alloc (Nat.le_refl _) _).alloc (by simp) _).alloc (by simp; omega) _
  have s3 : W3.heap.size = w.heap.size + 3 := by rw [hW3]; simp
  have xA : W3.heap[w.heap.size]? = some (.cells #[.int .i64 n, .slice la ls.length lc, .slice ga gs.length gc, .slice oa os.length oc] 34 (0, 0)) := by rw [hW3]; exact alloc_old (alloc_old (alloc_blk _ _ _ rfl))
  have xB : W3.heap[w.heap.size + 1]? = some (.cells #[.int .i64 m, .slice lb lt.length ld, .slice gb gt.length gd, .slice ob ot.length od] 34 (0, 0)) := by rw [hW3]; exact alloc_old (alloc_blk _ _ _ (by simp))
  have xP : W3.heap[w.heap.size + 1 + 1]? = some (.cells #[.slice none 0 0, .slice none 0 0, .slice none 0 0, .slice none 0 0] 29 (0, 0)) := by rw [hW3]; exact alloc_blk _ _ _ (by simp)
  have hB3 : Book2 (emptyR (w.heap.size + 1 + 1)) W3 (w.heap.size + 1 + 1) (fun _ => .slice none 0 0) (fun _ => []) 0 := book_start (by omega) (fun c hc => by
    rw [cell_of_row _ _ _ _ _ _ xP]
    match c, hc with
    | 0, _ => rfl
    | 1, _ => rfl
    | 2, _ => rfl
    | 3, _ => rfl) (fun i => frozen_of_row _ _ _ _ _ xP)
  have hd0 := lawDelay_any 0 W3
  rw [hW3] at hd0
  have HB3 := hidK hB3
  have XA := hidK xA
  have XB := hidK xB
  clear hB3 xA xB xP
  go_enter Tryz.func8, Tryz.ntmps8
  go_wp2_with fail
  refine hd0.mono ?_
  rw [← hW3]
  rintro e w4 ⟨bl, bo, rfl, hbl, hbo, dL, dO, b4⟩
  clear hd0 hW3
  go_wp2_with fail
  refine (lawDelay_any 1 w4).mono ?_
  rintro e w5 ⟨dl, do', rfl, hdl, hdo, eL, eO, b5⟩
  have s4 := b4.size
  have s5 := b5.size
  have B35 := b4.trans (b5.mono b4.size)
  have B05 : Below w.heap.size w w5 := b3.trans (B35.mono b3.size)
  have eR : ∀ k, k ≠ w.heap.size + 1 + 1 → ¬ emptyR (w.heap.size + 1 + 1) k < 6 := fun k hk h => hk (emptyR_lt h)
  go_wp2_with fail
  refine (one_cmp_first (emptyR (w.heap.size + 1 + 1)) (w.heap.size + 1 + 1) 0 _ _ bl bo dl do' 0 1 _ _ (HB3.out.below B35) (by omega) (hdb.below B05) (dL.below b5) (dO.below b5) eL eO (eR _ (by omega)) (eR _ (by omega)) (eR _ (by omega)) (eR _ (by omega))).mono ?_
  rintro e w6 ⟨rfl, R6, v6, es6, hB6, K6, n6⟩
  have hdb6 : TabDB w6 := (hdb.below B05).keeps K6 (eR _ (by have := hdb.lt; omega))
  have yA := (K6.block w.heap.size (by omega) (eR _ (by omega))).trans ((B35.block w.heap.size (by omega)).trans XA.out)
  have yB := (K6.block (w.heap.size + 1) (by omega) (eR _ (by omega))).trans ((B35.block (w.heap.size + 1) (by omega)).trans XB.out)
  have bel6 : Below w.heap.size w w6 := B05.trans (K6.below (by omega) (fun k hk => by rw [emptyR_lt hk]; omega))
  have s6 := K6.size
  have n6' : ∀ k, k < w.heap.size → ¬ R6 k < 6 := fun k hk h => by
    rcases n6 k h with h | h
    · have := emptyR_lt h; omega
    · omega
  obtain ⟨A0, A1, A2, A3, D0, D1, D2, D3⟩ := row8 yA yB
  have HB6 := hidK hB6
  clear hB6
  go_wp2_with fail
  refine (one_cmp R6 (w.heap.size + 1 + 1) (0 + 3) v6 es6 _ n m 0 la ga oa lb gb ob none lc gc oc ld gd od 0 ls gs os lt gt ot [] _ HB6.out (by omega) hdb6 hml hmg hmo hnl hng hno (by simp) (hL.below bel6) (hG.below bel6) (hO.below bel6) (kL.below bel6) (kG.below bel6) (kO.below bel6) (.inl rfl) fL fG fO gL gG gO
    (fun b o ha hne => n6' _ (hL.lt ha hne)) (fun b o ha hne => n6' _ (hG.lt ha hne)) (fun b o ha hne => n6' _ (hO.lt ha hne)) (fun b o ha hne => n6' _ (kL.lt ha hne)) (fun b o ha hne => n6' _ (kG.lt ha hne)) (fun b o ha hne => n6' _ (kO.lt ha hne)) (fun b o ha hne => by cases ha)).mono ?_
  rintro e w7 ⟨rfl, R7, v7, es7, hB7, K7, n7⟩
  go_wp2
  go_ret
  refine ⟨rfl, bel6.trans (K7.below (by omega) (fun k hk => ?_))⟩
  rcases n6 k hk with h | h
  · rw [emptyR_lt h]; omega
  · omega

end Go.Proofs.YtgpaajdfkekjiaaGreatDoor
