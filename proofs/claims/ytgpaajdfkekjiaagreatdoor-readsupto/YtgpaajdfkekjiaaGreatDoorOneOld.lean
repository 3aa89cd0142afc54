/-
  What Run of package latchref answers of any circuit and any inputs whose lists can be read: just what Run of package latch answers.
  Run of package latch and Run of package latchref answer the same of any circuit and inputs: one outcome for both. And small facts on the book.
  What the book's one does with a call of Run: the program's answer is the document's, what was handed in reads as it did, and the book goes on.
  The book's one, at a call of Run: it answers true; the book goes on; nothing else that was there is written.
-/
import Derived.Test.YtgpaajdfkekjiaaGreatDoorRefAll
namespace Go.Proofs.YtgpaajdfkekjiaaGreatDoor
open Go.RowKit

theorem refRight_is {n : Int} {la ga oa : Option Addr} {lc gc oc : Nat} {ls gs : List (Int × Int)} {os : List Int} {b : Bool} (w : World)
    (hL : PairsAt w la ls) (hG : PairsAt w ga gs) (hO : IntsAt w oa os) (fL : ∀ i, i < ls.length → Fits (ls.getD i (0, 0)).1) (fG : ∀ i, i < gs.length → Fits (gs.getD i (0, 0)).1 ∧ Fits (gs.getD i (0, 0)).2) (fO : ∀ i, i < os.length → Fits (os.getD i 0)) (h : rightB n ls gs os = b) :
    Calls Tryz.prog 46 #[.agg #[.int .i64 n, .slice la ls.length lc, .slice ga gs.length gc, .slice oa os.length oc]] w fun e w' =>
      e = .returned (.bool b) ∧ Below w.heap.size w w' := by subst h; exact refRight_any n la ga oa lc gc oc ls gs os w hL hG hO fL fG fO

set_option maxHeartbeats 400000 in
set_option maxRecDepth 100000 in
/-- A circuit that is not right. -/
theorem refRun_wrong (n : Int) (la ga oa : Option Addr) (lc gc oc : Nat) (ls gs : List (Int × Int)) (os : List Int) (iv : Value) (w : World)
    (hL : PairsAt w la ls) (hG : PairsAt w ga gs) (hO : IntsAt w oa os) (fL : ∀ i, i < ls.length → Fits (ls.getD i (0, 0)).1) (fG : ∀ i, i < gs.length → Fits (gs.getD i (0, 0)).1 ∧ Fits (gs.getD i (0, 0)).2) (fO : ∀ i, i < os.length → Fits (os.getD i 0)) (hr : rightB n ls gs os = false) :
    Calls Tryz.prog 25 #[.agg #[.int .i64 n, .slice la ls.length lc, .slice ga gs.length gc, .slice oa os.length oc], iv] w fun e w' =>
      e = .returned (.tuple #[.slice none 0 0, .int .i64 2]) ∧ Below w.heap.size w w' := by
  have bel0 : Below w.heap.size w (w.alloc (.cells #[.int .i64 n, .slice la ls.length lc, .slice ga gs.length gc, .slice oa os.length oc] 34)) := (Below.refl _ _).alloc (Nat.le_refl _) _
  have hL0 := hL.below bel0
  have hG0 := hG.below bel0
  have hO0 := hO.below bel0
  go_enter Tryz.func25, Tryz.ntmps25
  go_wp2_with (go_at_call 46; refine (refRight_is _ hL0 hG0 hO0 fL fG fO hr).mono ?_; rintro e w1 ⟨rfl, b1⟩)
  go_ret2
  exact ⟨rfl, bel0.trans (b1.mono (by simp))⟩

def upI (n : Nat) (ins : List Int) (k : Nat) : Bool := decide (∀ i, i < k → inB (ins.getD i 0) (2 ^ n - 1) = true)
theorem upI_succ (n : Nat) (ins : List Int) (k : Nat) : upI n ins (k + 1) = (upI n ins k && inB (ins.getD k 0) (2 ^ n - 1)) := up_succ (fun i => inB (ins.getD i 0) (2 ^ n - 1)) k
theorem upI_zero (n : Nat) (ins : List Int) : upI n ins 0 = true := decide_eq_true (fun i hi => absurd hi (Nat.not_lt_zero i))
theorem bad_hi {x : Int} {M : Nat} (h : ¬ x < 0) : decide ((M : Int) ≤ x) = (false || !inB x ((M : Int) - 1)) := by
  unfold inB
  by_cases h2 : (M : Int) ≤ x
  · rw [decide_eq_true h2, decide_eq_false (by omega)]; rfl
  · rw [decide_eq_false h2, decide_eq_true (by omega)]; rfl
theorem inputsB_up (n : Nat) (ins : List Int) : inputsB n ins = !(decide (50 < ins.length) || !upI n ins ins.length) := by
  unfold inputsB upI
  rw [Bool.eq_iff_iff]
  simp only [decide_eq_true_eq, Bool.not_eq_true', Bool.or_eq_false_iff, decide_eq_false_iff_not, Bool.not_eq_false']
  exact and_congr (by omega) Iff.rfl

def outsUp (n : Nat) (ls gs : List (Int × Int)) (os ins : List Int) (k : Nat) : List Nat := (List.range k).map (outAt n ls gs os ins)
theorem outsUp_succ (n : Nat) (ls gs : List (Int × Int)) (os ins : List Int) (k : Nat) : outsUp n ls gs os ins (k + 1) = outsUp n ls gs os ins k ++ [outAt n ls gs os ins k] := by
  simp [outsUp, List.range_succ]

theorem keep_box {X w5 : World} {B b o : Nat} {c0 c1 c2 c3 c4 : Value} (h5 : Below X.heap.size X w5) (hB : B < X.heap.size) (hb : b < X.heap.size)
    (h0 : X.cell? ⟨B, 0, none⟩ = some c0) (h1 : X.cell? ⟨B, 1, none⟩ = some c1) (h2 : X.cell? ⟨B, 2, none⟩ = some c2) (h3 : X.cell? ⟨B, 3, none⟩ = some c3) (h4 : X.cell? ⟨b, o, none⟩ = some c4) :
    w5.cell? ⟨B, 0, none⟩ = some c0 ∧ w5.cell? ⟨B, 1, none⟩ = some c1 ∧ w5.cell? ⟨B, 2, none⟩ = some c2 ∧ w5.cell? ⟨B, 3, none⟩ = some c3 ∧ w5.cell? ⟨b, o, none⟩ = some c4 :=
  ⟨((bcell h5).1 _ _ hB).trans h0, ((bcell h5).1 _ _ hB).trans h1, ((bcell h5).1 _ _ hB).trans h2, ((bcell h5).1 _ _ hB).trans h3, ((bcell h5).1 _ _ hb).trans h4⟩

theorem below_of_drew {B : Nat} {w w' : World} (h : Below B w.drew w') : Below B w w' := ⟨h.os, h.tape, h.output, h.size, h.block⟩

set_option maxHeartbeats 1000000 in
set_option maxRecDepth 100000 in
/-- A right circuit: the inputs are looked through, and then run. -/
theorem refRun_right (n : Nat) (la ga oa ia : Option Addr) (lc gc oc ic : Nat) (ls gs : List (Int × Int)) (os ins : List Int) (w : World) (hm : ins.length ≤ maxLen)
    (hL : PairsAt w la ls) (hG : PairsAt w ga gs) (hO : IntsAt w oa os) (hI : IntsAt w ia ins) (fL : ∀ i, i < ls.length → Fits (ls.getD i (0, 0)).1) (fG : ∀ i, i < gs.length → Fits (gs.getD i (0, 0)).1 ∧ Fits (gs.getD i (0, 0)).2) (fO : ∀ i, i < os.length → Fits (os.getD i 0)) (hr : rightB n ls gs os = true) :
    Calls Tryz.prog 25 #[.agg #[.int .i64 n, .slice la ls.length lc, .slice ga gs.length gc, .slice oa os.length oc], .slice ia ins.length ic] w fun e w' =>
      (inputsB n ins = false → e = .returned (.tuple #[.slice none 0 0, .int .i64 3]) ∧ Below w.heap.size w w') ∧
      (inputsB n ins = true → ∃ v, e = .returned (.tuple #[v, .int .i64 0]) ∧ w'.ownsRow w.heap.size 3 1 v ins.length (ivals (outs n ls gs os ins)) ∧ Below w.heap.size w w') := by
  unfold maxLen at hm
  have bel0 : Below w.heap.size w (w.alloc (.cells #[.int .i64 n, .slice la ls.length lc, .slice ga gs.length gc, .slice oa os.length oc] 34)) := (Below.refl _ _).alloc (Nat.le_refl _) _
  have hL0 := hL.below bel0
  have hG0 := hG.below bel0
  have hO0 := hO.below bel0
  obtain ⟨⟨_, hn4, hl4, ho4, hg30⟩, hokl, hokg, hoko⟩ := rightB_pos hr
  have hn4 : n ≤ 4 := by omega
  obtain ⟨i0, hi0, hz0, hz1, hz2⟩ := info_parts Tryz.infoInt
  have hinit : ∀ i, i < ls.length → inB (ls.getD i (0, 0)).2 1 = true := fun i h => by have := hokl i h; simp only [latchOk, Bool.and_eq_true] at this; exact this.2
  have hnext : ∀ i, i < ls.length → inB (ls.getD i (0, 0)).1 (2 * (n + ls.length + gs.length) + 1) = true := fun i h => by have := hokl i h; simp only [latchOk, Bool.and_eq_true] at this; exact this.1
  obtain ⟨M, hM⟩ : ∃ M : Nat, (M : Int) = 2 ^ n := ⟨2 ^ n, by simp⟩
  have hM16 : M ≤ 16 := by
    have hp : (2 : Nat) ^ n ≤ 2 ^ 4 := Nat.pow_le_pow_right (by omega) hn4
    have e : M = 2 ^ n := by exact_mod_cast hM
    omega
  have hsh : IntKind.i64.wrap ((2 : Int) ^ n) = (M : Int) := by rw [← hM, wrap_i64']; omega
  have HM : Hid ((M : Int) = 2 ^ n) := hM
  clear hM
  go_enter Tryz.func25, Tryz.ntmps25
  go_wp2_with (go_at_call 46; refine (refRight_is _ hL0 hG0 hO0 fL fG fO hr).mono ?_; rintro e w1 ⟨rfl, b1⟩)
  have bel1 : Below w.heap.size w w1 := bel0.trans (b1.mono (by simp))
  have y1 : w.heap.size < w1.heap.size := Nat.lt_of_lt_of_le (by simp) b1.size
  have qq : ∀ j, w1.cell? ⟨w.heap.size, j, none⟩ = (w.alloc (.cells #[.int .i64 n, .slice la ls.length lc, .slice ga gs.length gc, .slice oa os.length oc] 34)).cell? ⟨w.heap.size, j, none⟩ := fun j => (bcell b1).1 _ _ (by simp)
  have q0 : w1.cell? ⟨w.heap.size, 0, none⟩ = some (.int .i64 n) := by rw [qq]; simp
  have q1 : w1.cell? ⟨w.heap.size, 1, none⟩ = some (.slice la ls.length lc) := by rw [qq]; simp
  have q2 : w1.cell? ⟨w.heap.size, 2, none⟩ = some (.slice ga gs.length gc) := by rw [qq]; simp
  have q3 : w1.cell? ⟨w.heap.size, 3, none⟩ = some (.slice oa os.length oc) := by rw [qq]; simp
  clear qq b1 bel0 hL0 hG0 hO0 fL fG fO
  go_loopw [7, 8] (fun bad i wr => ∃ k : Nat, k ≤ ins.length ∧ i = .int .i64 k ∧ bad = .bool (decide (50 < ins.length) || !upI n ins k) ∧ Below w1.heap.size w1 wr) (fun _ i _ => ins.length - (intOf i).toNat)
  case atStart => exact ⟨0, Nat.zero_le _, rfl, by rw [upI_zero]; simp; omega, Below.refl _ _⟩
  case round =>
    obtain ⟨k, hk, rfl, rfl, hb⟩ := hrel
    by_cases hk2 : k < ins.length
    · obtain ⟨b, off, rfl, hlt, hc⟩ := hI.get (by omega)
      have hcy : wr.cell? ⟨b, off + k, none⟩ = some (.int .i64 (ins.getD k 0)) := ((hb.cell (p := ⟨b, _, none⟩) (Nat.lt_of_lt_of_le hlt bel1.size)).trans (bel1.cell (p := ⟨b, _, none⟩) hlt)).trans (hc k hk2)
      have p0 := (hb.cell (p := ⟨w.heap.size, 0, none⟩) y1).trans q0
      have hu := upI_succ n ins k
      obtain ⟨x, hX⟩ : ∃ x, x = ins.getD k 0 := ⟨_, rfl⟩
      rw [← hX] at hcy hu
      obtain ⟨U, hU⟩ : ∃ U, U = (decide (50 < ins.length) || !upI n ins k) := ⟨_, rfl⟩
      have fin : ∀ c : Bool, c = (U || !inB x (2 ^ n - 1)) → Value.bool c = Value.bool (decide (50 < ins.length) || !upI n ins (k + 1)) := fun c h => by
        rw [hu, h, hU]; cases decide (50 < ins.length) <;> cases upI n ins k <;> rfl
      have FIN : Hid (∀ c : Bool, c = (U || !inB x (2 ^ n - 1)) → Value.bool c = Value.bool (decide (50 < ins.length) || !upI n ins (k + 1))) := fin
      rw [← hU]
      have hk3 : (k : Int) < (ins.length : Int) := by omega
      have hk0 : (0 : Int) ≤ (k : Int) := by omega
      clear hX hc hu hU fin hinit hnext hokl hokg hoko q0 q1 q2 q3
      cases U
      · by_cases hx0 : x < 0
        · have hd : decide (x < 0) = true := by simpa using hx0
          go_wp2
          go_quiet (fail)
          go_wp2
          go_roundw
          case rel => exact ⟨k + 1, by omega, by go_num, FIN.out _ (by unfold inB; rw [decide_eq_false (by omega)]; rfl), hb.trans (below_drewN (Below.refl _ _) _ |>.mono hb.size)⟩
          case measure => simp [intOf]; omega
        · have hd : decide (x < 0) = false := by simpa using hx0
          go_wp2
          go_quiet (fail)
          go_wp2
          go_roundw
          case rel => exact ⟨k + 1, by omega, by go_num, FIN.out _ (by rw [← HM.out]; exact bad_hi (by omega)), hb.trans (below_drewN (Below.refl _ _) _ |>.mono hb.size)⟩
          case measure => simp [intOf]; omega
      · go_wp2
        go_quiet (fail)
        go_wp2
        go_roundw
        case rel => exact ⟨k + 1, by omega, by go_num, FIN.out _ rfl, hb.trans (below_drewN (Below.refl _ _) _ |>.mono hb.size)⟩
        case measure => simp [intOf]; omega
    · obtain rfl : k = ins.length := by omega
      have hup := inputsB_up n ins
      obtain ⟨U, hU⟩ : ∃ U, U = (decide (50 < ins.length) || !upI n ins ins.length) := ⟨_, rfl⟩
      rw [← hU] at hup
      rw [← hU]
      have HUP : Hid (inputsB n ins = !U) := hup
      obtain ⟨w2, rfl⟩ : ∃ w2, w2 = wr := ⟨wr, rfl⟩
      have bel2 : Below w.heap.size w w2 := bel1.trans (hb.mono (by omega))
      have p0 := (hb.cell (p := ⟨w.heap.size, 0, none⟩) y1).trans q0
      have p1 := (hb.cell (p := ⟨w.heap.size, 1, none⟩) y1).trans q1
      have p2 := (hb.cell (p := ⟨w.heap.size, 2, none⟩) y1).trans q2
      have p3 := (hb.cell (p := ⟨w.heap.size, 3, none⟩) y1).trans q3
      have y2 : w.heap.size < w2.heap.size := Nat.lt_of_lt_of_le y1 hb.size
      clear hU hup q0 q1 q2 q3 hb bel1 y1 hsh
      cases U
      · have hL2 := hL.below bel2
        have hin : inputsB n ins = true := by rw [HUP.out]; rfl
        have h50 : ins.length ≤ 50 := (of_decide_eq_true hin).1
        go_wp2_with (go_at_call 52; refine (begin_any _ la lc _ _ ls _ hl4 hL2 hinit).mono ?_; rintro e w3 ⟨rfl, b3⟩)
        have bel3 : Below w.heap.size w w3 := bel2.trans (b3.mono (by omega))
        have y3 : w.heap.size < w3.heap.size := Nat.lt_of_lt_of_le y2 b3.size
        have r0 := ((bcell b3).1 _ 0 y2).trans p0
        have r1 := ((bcell b3).1 _ 1 y2).trans p1
        have r2 := ((bcell b3).1 _ 2 y2).trans p2
        have r3 := ((bcell b3).1 _ 3 y2).trans p3
        clear p0 p1 p2 p3 b3 bel2 hL2 hokl hinit y2
        go_loopw [9, 10, 11, 12] (fun st v i _ wr => ∃ k : Nat, k ≤ ins.length ∧ i = .int .i64 k ∧ st = .int .i64 (stateAt n ls gs ins k : Nat) ∧ wr.ownsRow (w.heap.size + 1) 3 1 v k (ivals (outsUp n ls gs os ins k)) ∧
            wr.cell? ⟨w.heap.size, 0, none⟩ = some (.int .i64 n) ∧ wr.cell? ⟨w.heap.size, 1, none⟩ = some (.slice la ls.length lc) ∧ wr.cell? ⟨w.heap.size, 2, none⟩ = some (.slice ga gs.length gc) ∧ wr.cell? ⟨w.heap.size, 3, none⟩ = some (.slice oa os.length oc) ∧
            w.heap.size < wr.heap.size ∧ Below w.heap.size w wr) (fun _ _ i _ _ => ins.length - (intOf i).toNat)
        case atStart => exact ⟨0, Nat.zero_le _, rfl, rfl, World.ownsRow_nil _ _ _ _, r0, r1, r2, r3, y3, bel3⟩
        case round =>
          clear r0 r1 r2 r3 y3 bel3
          obtain ⟨k, hk, rfl, rfl, hown, q0, q1, q2, q3, hz, hbel⟩ := hrel
          by_cases hk2 : k < ins.length
          · obtain ⟨b, off, rfl, hlt, hc⟩ := hI.get (by omega)
            obtain ⟨X, hX, hX16⟩ := inputs_lt hn4 hin hk2
            have hcy : wr.cell? ⟨b, off + k, none⟩ = some (.int .i64 (X : Int)) := by rw [← hX]; exact (hbel.cell (p := ⟨b, _, none⟩) hlt).trans (hc k hk2)
            obtain ⟨S, hS⟩ : ∃ S, S = stateAt n ls gs ins k := ⟨_, rfl⟩
            have hS16 : S < 16 := by rw [hS]; exact stateAt_lt n ls gs ins k hl4
            have HN : Hid (nextOf ls (vals n ls.length gs S X) ls.length = stateAt n ls gs ins (k + 1)) := by
              show _ = nextOf ls (vals n ls.length gs (stateAt n ls gs ins k) (ins.getD k 0).toNat) ls.length
              rw [hS, hX]; rfl
            have HO : Hid (outOf os (vals n ls.length gs S X) os.length = outAt n ls gs os ins k) := by
              unfold Hid outAt; rw [hS, hX]; rfl
            rw [← hS]
            obtain ⟨NX, hNX⟩ : ∃ NX, NX = nextOf ls (vals n ls.length gs S X) ls.length := ⟨_, rfl⟩
            obtain ⟨OX, hOX⟩ : ∃ OX, OX = outOf os (vals n ls.length gs S X) os.length := ⟨_, rfl⟩
            have hLr := hL.below hbel
            have hGr := hG.below hbel
            have hOr := hO.below hbel
            have hbz : b < wr.heap.size := Nat.lt_of_lt_of_le hlt hbel.size
            have co := refOutputs_any n S X la ga oa lc gc oc ls.length gs os wr.drew hn4 hl4 hg30 ho4 hS16 hX16 (hGr.below (Below.refl _ _).drew) (hOr.below (Below.refl _ _).drew) hokg hoko
            rw [← hOX] at co
            have hk0 : (0 : Int) ≤ (k : Int) := by omega
            have hk3 : (k : Int) < (ins.length : Int) := by omega
            have HNX : Hid (NX = nextOf ls (vals n ls.length gs S X) ls.length) := hNX
            have HOX : Hid (OX = outOf os (vals n ls.length gs S X) os.length) := hOX
            clear hS hX hc hNX hOX
            go_wp2
            go_region_held3 (fun w' => w'.cell? ⟨w.heap.size, 0, none⟩ = some (.int .i64 n) ∧ w'.cell? ⟨w.heap.size, 1, none⟩ = some (.slice la ls.length lc) ∧ w'.cell? ⟨w.heap.size, 2, none⟩ = some (.slice ga gs.length gc) ∧ w'.cell? ⟨w.heap.size, 3, none⟩ = some (.slice oa os.length oc) ∧ w'.cell? ⟨b, off + k, none⟩ = some (.int .i64 (X : Int))) (first | (simp [go_sem, q0, q1, q2, q3, hcy]; done) | (exact keep_box b5 hz hbz q0 q1 q2 q3 hcy)) (first | (go_at_call 53; refine co.mono ?_; rintro e w5 ⟨rfl, b5⟩) | fail)
            have b5' : Below wr.heap.size wr w5 := below_of_drew b5
            obtain ⟨s0, s1, s2, s3, s4⟩ := keep_box b5' hz hbz q0 q1 q2 q3 hcy
            have own5 := own_keeps hown (fun q hq => b5'.block q (hown.lt q hq).2)
            have z5 : w.heap.size < w5.heap.size := Nat.lt_of_lt_of_le hz b5'.size
            have bel5 : Below w.heap.size w w5 := hbel.trans (b5'.mono (by omega))
            clear q0 q1 q2 q3 hcy hown hLr hGr hOr co b5 b5'
            go_wp2_with (first | (at_builtin; refine wpList_append_lies _ rfl (.tmp 60) (.tmp 62) 32 rfl (w.heap.size + 1) 3 i0 (.int .i64 0) 1 8 Tryz.underlying32 hi0 hz0 hz1 hz2 rfl (by omega) _ _ _ rfl (own5.alloc _) ⟨w5.heap.size, 0, none⟩ 1 1 [.int .i64 OX] rfl rfl (cell_one_new _ _ _) (by simp; rfl) (by omega) (by unfold maxLen; omega) (by omega) (by simp; omega) _ rfl ?_) | fail)
            intro g' cap' w6 own6 hgrow hat hlt6
            have far : ∀ c o, c ≤ w.heap.size → c < w5.heap.size → w6.cell? ⟨c, o, none⟩ = w5.cell? ⟨c, o, none⟩ := fun c o hc1 hc2 => by
              rw [hgrow.cell_far ⟨c, o, none⟩ (by show c < (w5.alloc _).heap.size; simp; omega) (fun e => by have := (own5.lt c e.symm).1; omega), World.cell?_alloc_past _ _ _ hc2]
            have t0 := (far _ 0 (Nat.le_refl _) z5).trans s0
            have t1 := (far _ 1 (Nat.le_refl _) z5).trans s1
            have t2 := (far _ 2 (Nat.le_refl _) z5).trans s2
            have t3 := (far _ 3 (Nat.le_refl _) z5).trans s3
            have hb5 : b < w5.heap.size := Nat.lt_of_lt_of_le hlt bel5.size
            have t4 := (far b (off + k) (by omega) hb5).trans s4
            have bel6 : Below w.heap.size w w6 := (bel5.alloc (by omega) _).grown hgrow (by simp; omega) (fun q hq => by have := (own5.lt q hq).1; omega)
            have z6 : w.heap.size < w6.heap.size := Nat.lt_of_lt_of_le z5 (Nat.le_trans (by simp) hgrow.size)
            have hb6 : b < w6.heap.size := Nat.lt_of_lt_of_le hlt bel6.size
            have cb := behind_any n S X la ga lc gc (.slice oa os.length oc) ls gs w6.drew hn4 hl4 hg30 hS16 hX16 ((hL.below bel6).below (Below.refl _ _).drew) ((hG.below bel6).below (Below.refl _ _).drew) hokg hnext
            rw [← HNX.out] at cb
            clear s0 s1 s2 s3 s4 own5 hgrow hat far bel5 z5 hb5
            go_wp2
            go_region_held3 (fun w' => w'.cell? ⟨w.heap.size, 0, none⟩ = some (.int .i64 n) ∧ w'.cell? ⟨w.heap.size, 1, none⟩ = some (.slice la ls.length lc) ∧ w'.cell? ⟨w.heap.size, 2, none⟩ = some (.slice ga gs.length gc) ∧ w'.cell? ⟨w.heap.size, 3, none⟩ = some (.slice oa os.length oc) ∧ w'.cell? ⟨b, off + k, none⟩ = some (.int .i64 (X : Int))) (first | (simp [go_sem, t0, t1, t2, t3, t4]; done) | (exact keep_box b7 z6 hb6 t0 t1 t2 t3 t4)) (first | (go_at_call 54; refine cb.mono ?_; rintro e w7 ⟨rfl, b7⟩) | fail)
            have b7' : Below w6.heap.size w6 w7 := below_of_drew b7
            obtain ⟨s0, s1, s2, s3, s4⟩ := keep_box b7' z6 hb6 t0 t1 t2 t3 t4
            have own7 := own_keeps own6 (fun q hq => b7'.block q (own6.lt q hq).2)
            clear t0 t1 t2 t3 t4 own6 cb b7
            go_wp2
            go_roundw
            case rel => exact ⟨k + 1, by omega, by go_num, by rw [HNX.out, HN.out], by rw [outsUp_succ, ivals_snoc, ← HO.out, ← HOX.out]; exact own7, s0, s1, s2, s3, Nat.lt_of_lt_of_le z6 b7'.size, bel6.trans (b7'.mono (by omega))⟩
            case measure => simp [intOf]; omega
          · obtain rfl : k = ins.length := by omega
            go_wp2
            go_ret2
            exact ⟨fun h => (by rw [hin] at h; cases h), fun _ => ⟨_, rfl, hown.lower (by omega), hbel⟩⟩
      · go_wp2
        go_ret2
        exact ⟨fun _ => ⟨rfl, bel2⟩, fun h => by rw [HUP.out] at h; cases h⟩

end Go.Proofs.YtgpaajdfkekjiaaGreatDoor

namespace Go.Proofs.YtgpaajdfkekjiaaGreatDoor
open Go.RowKit

def ints (vs : List Nat) : List Int := vs.map fun x => ((x : Nat) : Int)
theorem ints_len (vs : List Nat) : (ints vs).length = vs.length := by simp [ints]
theorem own_ints {w : World} {base g len cap : Nat} {vs : List Nat} (h : w.ownsRow base 3 1 (.slice (some ⟨g, 0, none⟩) len cap) len (ivals vs)) : IntsAt w (some ⟨g, 0, none⟩) (ints vs) := by
  have hl : vs.length = len := by have := h.1; rw [ivals_len] at this; omega
  refine .inr ⟨g, 0, rfl, (h.lt g rfl).2, fun i hi => ?_⟩
  have hi' : i < vs.length := by simpa [ints] using hi
  rw [own_cells h i (by omega)]
  simp [ints, hi']

/-- What Run answers: the error's number, and the outputs. -/
def runE (n : Int) (ls gs : List (Int × Int)) (os ins : List Int) : Int := if rightB n ls gs os = true then (if inputsB n.toNat ins = true then 0 else 3) else 2
def runL (n : Int) (ls gs : List (Int × Int)) (os ins : List Int) : List Nat := if rightB n ls gs os = true then (if inputsB n.toNat ins = true then outs n.toNat ls gs os ins else []) else []
theorem runL_len (n : Int) (ls gs : List (Int × Int)) (os ins : List Int) : (runL n ls gs os ins).length ≤ 50 := by
  unfold runL
  split
  · split
    · rename_i h
      have := (of_decide_eq_true h).1
      simp [outs]; omega
    · simp
  · simp

theorem run_all (n : Int) (la ga oa ia : Option Addr) (lc gc oc ic : Nat) (ls gs : List (Int × Int)) (os ins : List Int) (w : World) (hm : ins.length ≤ maxLen)
    (hL : PairsAt w la ls) (hG : PairsAt w ga gs) (hO : IntsAt w oa os) (hI : IntsAt w ia ins) :
    Calls Tryz.prog 24 #[.agg #[.int .i64 n, .slice la ls.length lc, .slice ga gs.length gc, .slice oa os.length oc], .slice ia ins.length ic] w fun e w' =>
      ∃ a, e = .returned (.tuple #[.slice a (runL n ls gs os ins).length (runL n ls gs os ins).length, .int .i64 (runE n ls gs os ins)]) ∧
        ((a = none ∧ (runL n ls gs os ins).length = 0) ∨ ∃ g f, a = some ⟨g, 0, none⟩ ∧ w.heap.size ≤ g ∧ w'.rowIs g 3 (runL n ls gs os ins).length f) ∧ IntsAt w' a (ints (runL n ls gs os ins)) ∧ Below w.heap.size w w' := by
  cases hr : rightB n ls gs os
  · have e1 : runL n ls gs os ins = [] := by unfold runL; rw [if_neg (by rw [hr]; decide)]
    have e2 : runE n ls gs os ins = 2 := by unfold runE; rw [if_neg (by rw [hr]; decide)]
    rw [e1, e2]
    exact (run_wrong n la ga oa lc gc oc ls gs os _ w hL hG hO hr).mono fun e w' h => ⟨none, h.1, .inl ⟨rfl, rfl⟩, .inl rfl, h.2⟩
  · obtain ⟨N, rfl⟩ := Int.eq_ofNat_of_zero_le (rightB_pos hr).1.1
    cases hi : inputsB N ins
    · have e1 : runL N ls gs os ins = [] := by unfold runL; rw [if_pos hr, if_neg (by rw [Int.toNat_natCast, hi]; decide)]
      have e2 : runE N ls gs os ins = 3 := by unfold runE; rw [if_pos hr, if_neg (by rw [Int.toNat_natCast, hi]; decide)]
      rw [e1, e2]
      exact (run_inputs N la ga oa ia lc gc oc ic ls gs os ins w hm hL hG hO hI hr hi).mono fun e w' h => ⟨none, h.1, .inl ⟨rfl, rfl⟩, .inl rfl, h.2⟩
    · have e1 : runL N ls gs os ins = outs N ls gs os ins := by unfold runL; rw [if_pos hr, if_pos (by rw [Int.toNat_natCast]; exact hi), Int.toNat_natCast]
      have e2 : runE N ls gs os ins = 0 := by unfold runE; rw [if_pos hr, if_pos (by rw [Int.toNat_natCast]; exact hi)]
      have el : (outs N ls gs os ins).length = ins.length := by simp [outs]
      rw [e1, e2, el]
      refine (run_ok N la ga oa ia lc gc oc ic ls gs os ins w hm hL hG hO hI hr hi).mono fun e w' h => ?_
      obtain ⟨g, he, hown, hb⟩ := h
      refine ⟨_, he, .inr ?_, own_ints hown, hb⟩
      rcases hown.2 with ⟨h', _⟩ | ⟨g', cap', cur, h', hbg, hr', _, _, hcs, htake⟩
      · simp at h'
      · simp only [Value.slice.injEq, Option.some.injEq, Addr.mk.injEq, and_true, true_and] at h'
        obtain ⟨rfl, rfl⟩ := h'
        refine ⟨g, fun i => (cur[i]?).getD undef, rfl, hbg, cur, hr', by omega, fun i hi' => ?_⟩
        have hlt : i < cur.size := by omega
        simp [hlt]

theorem refRun_all (n : Int) (la ga oa ia : Option Addr) (lc gc oc ic : Nat) (ls gs : List (Int × Int)) (os ins : List Int) (w : World) (hm : ins.length ≤ maxLen)
    (hL : PairsAt w la ls) (hG : PairsAt w ga gs) (hO : IntsAt w oa os) (hI : IntsAt w ia ins) (fL : ∀ i, i < ls.length → Fits (ls.getD i (0, 0)).1) (fG : ∀ i, i < gs.length → Fits (gs.getD i (0, 0)).1 ∧ Fits (gs.getD i (0, 0)).2) (fO : ∀ i, i < os.length → Fits (os.getD i 0)) :
    Calls Tryz.prog 25 #[.agg #[.int .i64 n, .slice la ls.length lc, .slice ga gs.length gc, .slice oa os.length oc], .slice ia ins.length ic] w fun e w' =>
      ∃ a c, e = .returned (.tuple #[.slice a (runL n ls gs os ins).length c, .int .i64 (runE n ls gs os ins)]) ∧ IntsAt w' a (ints (runL n ls gs os ins)) ∧ Below w.heap.size w w' := by
  cases hr : rightB n ls gs os
  · have e1 : runL n ls gs os ins = [] := by unfold runL; rw [if_neg (by rw [hr]; decide)]
    have e2 : runE n ls gs os ins = 2 := by unfold runE; rw [if_neg (by rw [hr]; decide)]
    rw [e1, e2]
    exact (refRun_wrong n la ga oa lc gc oc ls gs os _ w hL hG hO fL fG fO hr).mono fun e w' h => ⟨none, 0, h.1, .inl rfl, h.2⟩
  · obtain ⟨N, rfl⟩ := Int.eq_ofNat_of_zero_le (rightB_pos hr).1.1
    have base := refRun_right N la ga oa ia lc gc oc ic ls gs os ins w hm hL hG hO hI fL fG fO hr
    cases hi : inputsB N ins
    · have e1 : runL N ls gs os ins = [] := by unfold runL; rw [if_pos hr, if_neg (by rw [Int.toNat_natCast, hi]; decide)]
      have e2 : runE N ls gs os ins = 3 := by unfold runE; rw [if_pos hr, if_neg (by rw [Int.toNat_natCast, hi]; decide)]
      rw [e1, e2]
      exact base.mono fun e w' h => ⟨none, 0, (h.1 hi).1, .inl rfl, (h.1 hi).2⟩
    · have e1 : runL N ls gs os ins = outs N ls gs os ins := by unfold runL; rw [if_pos hr, if_pos (by rw [Int.toNat_natCast]; exact hi), Int.toNat_natCast]
      have e2 : runE N ls gs os ins = 0 := by unfold runE; rw [if_pos hr, if_pos (by rw [Int.toNat_natCast]; exact hi)]
      have el : (outs N ls gs os ins).length = ins.length := by simp [outs]
      rw [e1, e2, el]
      refine base.mono fun e w' h => ?_
      obtain ⟨v, he, hown, hb⟩ := h.2 hi
      rcases hown.2 with ⟨rfl, h0⟩ | ⟨g, cap, cur, rfl, _⟩
      · have hnil : outs N ls gs os ins = [] := List.eq_nil_of_length_eq_zero (by omega)
        rw [hnil]
        exact ⟨none, 0, by rw [h0]; exact he, .inl rfl, hb⟩
      · exact ⟨_, cap, he, own_ints hown, hb⟩

theorem row_ints {w : World} {g : Nat} {xs : List Int} (h : w.rowIs g 3 (xs.length + 8) (hInt xs)) : IntsAt w (some ⟨g, 0, none⟩) xs :=
  .inr ⟨g, 0, rfl, h.lt, fun i hi => by rw [Nat.zero_add, h.cell (by omega)]; unfold hInt; rw [if_pos hi]⟩
theorem row_pairs {w : World} {g t : Nat} {ps : List (Int × Int)} (h : w.rowIs g t ((ps.length + 8) * 2) (hPair ps)) : PairsAt w (some ⟨g, 0, none⟩) ps :=
  .inr ⟨g, 0, rfl, h.lt, fun i hi => by
    have h1 : i * 2 / 2 = i := by omega
    have h2 : (i * 2 + 1) / 2 = i := by omega
    refine ⟨?_, ?_⟩
    · rw [Nat.zero_add, h.cell (by omega)]; unfold hPair pcell; rw [if_pos (by omega), if_pos (by omega), h1]
    · rw [Nat.zero_add, h.cell (by omega)]; unfold hPair pcell; rw [if_pos (by omega), if_neg (by omega), h2]⟩

theorem rowIs_keeps {S : Nat → Prop} {w w' : World} {b n : Nat} {t : TypeId} {f : Nat → Value} (h : w.rowIs b t n f) (K : Keeps S w w') (hb : ¬ S b) : w'.rowIs b t n f := h.of_block (K.block b h.lt hb)
theorem PairsIn.keeps {S : Nat → Prop} {B : Nat} {w w' : World} {a : Option Addr} {ps : List (Int × Int)} (h : PairsIn B w a ps) (K : Keeps S w w') (hS : ∀ b o, a = some ⟨b, o, none⟩ → ps ≠ [] → ¬ S b) : PairsIn B w' a ps := by
  by_cases h0 : ps = []
  · exact .inl h0
  · rcases h with h | ⟨b, off, ha, hb, hlt, hc⟩
    · exact .inl h
    · exact .inr ⟨b, off, ha, hb, Nat.lt_of_lt_of_le hlt K.size, fun i hi => ⟨(K.cell (p := ⟨b, _, none⟩) hlt (hS b off ha h0)).trans (hc i hi).1, (K.cell (p := ⟨b, _, none⟩) hlt (hS b off ha h0)).trans (hc i hi).2⟩⟩
theorem IntsIn.keeps {S : Nat → Prop} {B : Nat} {w w' : World} {a : Option Addr} {xs : List Int} (h : IntsIn B w a xs) (K : Keeps S w w') (hS : ∀ b o, a = some ⟨b, o, none⟩ → xs ≠ [] → ¬ S b) : IntsIn B w' a xs := by
  by_cases h0 : xs = []
  · exact .inl h0
  · rcases h with h | ⟨b, off, ha, hb, hlt, hc⟩
    · exact .inl h
    · exact .inr ⟨b, off, ha, hb, Nat.lt_of_lt_of_le hlt K.size, fun i hi => (K.cell (p := ⟨b, _, none⟩) hlt (hS b off ha h0)).trans (hc i hi)⟩

theorem BookAt.keeps {S T : Nat → Prop} {w w' : World} {P : Nat} {hv : Value} {es : List Entry} (h : BookAt S w P hv es) (K : Keeps T w w') (hT : ∀ k, S k → ¬ T k) : BookAt S w' P hv es := by
  have hP := hT P h.sp
  refine ⟨h.sp, Nat.lt_of_lt_of_le h.lt K.size, (K.cell (p := ⟨P, 0, none⟩) h.lt hP).trans h.c0, (K.cell (p := ⟨P, 1, none⟩) h.lt hP).trans h.c1, (K.cell (p := ⟨P, 2, none⟩) h.lt hP).trans h.c2, (K.cell (p := ⟨P, 3, none⟩) h.lt hP).trans h.c3,
    (World.frozen?_of_block (w := w) (K.block P h.lt hP)).trans h.fz, own_keeps h.own (fun q hq => K.block q (h.own.lt q hq).2 (hT q (h.hb q hq).1)), h.hb, h.len, fun k hk => ?_⟩
  obtain ⟨l1, gd⟩ := h.good k hk
  refine ⟨l1, ?_⟩
  rcases gd with h0 | ⟨b, hb, sb, bP, bq, blt, hc⟩
  · exact .inl h0
  · exact .inr ⟨b, hb, sb, bP, bq, Nat.lt_of_lt_of_le blt K.size, fun i hi => (K.cell (p := ⟨b, i, none⟩) blt (hT b sb)).trans (hc i hi)⟩
theorem BookAt.mono {S T : Nat → Prop} {w : World} {P : Nat} {hv : Value} {es : List Entry} (h : BookAt S w P hv es) (hT : ∀ k, S k → T k) : BookAt T w P hv es := by
  refine ⟨hT _ h.sp, h.lt, h.c0, h.c1, h.c2, h.c3, h.fz, h.own, fun q hq => ⟨hT _ (h.hb q hq).1, (h.hb q hq).2⟩, h.len, fun k hk => ?_⟩
  obtain ⟨l1, gd⟩ := h.good k hk
  refine ⟨l1, ?_⟩
  rcases gd with h0 | ⟨b, hb, sb, hr⟩
  · exact .inl h0
  · exact .inr ⟨b, hb, hT _ sb, hr⟩

end Go.Proofs.YtgpaajdfkekjiaaGreatDoor

namespace Go.Proofs.YtgpaajdfkekjiaaGreatDoor
open Go.RowKit

theorem ints_eq_of {xs ys : List Int} (hl : xs.length = ys.length) (h : ∀ j, j < xs.length → xs.getD j 0 = ys.getD j 0) : xs = ys := by
  apply List.ext_getElem hl
  intro i h1 h2
  have := h i h1
  simpa [h1, h2] using this

set_option maxHeartbeats 1000000 in
set_option maxRecDepth 100000 in
theorem sameInts_eq (aa ba : Option Addr) (n ac bc : Nat) (xs : List Int) (w : World) (hn : n = xs.length) (hx : xs.length ≤ 1000) (hX : IntsAt w aa xs) (hY : IntsAt w ba xs) :
    Calls Tryz.prog 17 #[.slice aa n ac, .slice ba n bc] w fun e w' => e = .returned (.bool true) ∧ Below w.heap.size w w' := by
  subst hn
  go_enter Tryz.func17, Tryz.ntmps17
  go_wp2
  go_loopw [5] (fun i wr => ∃ k : Nat, k ≤ xs.length ∧ i = .int .i64 k ∧ Below w.heap.size w wr) (fun i _ => xs.length - (intOf i).toNat)
  case atStart => exact ⟨0, Nat.zero_le _, rfl, Below.refl _ _⟩
  case round =>
    obtain ⟨k, hk, rfl, hbel⟩ := hrel
    by_cases hk2 : k < xs.length
    · obtain ⟨b, off, rfl, hlt, hc⟩ := hX.get (by omega)
      obtain ⟨b', off', rfl, hlt', hc'⟩ := hY.get (by omega)
      have hcy : wr.cell? ⟨b, off + k, none⟩ = some (.int .i64 (xs.getD k 0)) := (hbel.cell (p := ⟨b, _, none⟩) hlt).trans (hc k hk2)
      have hcz : wr.cell? ⟨b', off' + k, none⟩ = some (.int .i64 (xs.getD k 0)) := (hbel.cell (p := ⟨b', _, none⟩) hlt').trans (hc' k hk2)
      obtain ⟨x, hx'⟩ : ∃ x, x = xs.getD k 0 := ⟨_, rfl⟩
      rw [← hx'] at hcy hcz
      have k1 : (k : Int) < (xs.length : Int) := by omega
      clear hx' hc hc'
      go_wp2
      go_quiet (fail)
      go_wp2
      go_roundw
      case rel => exact ⟨k + 1, by omega, by go_num, below_drewN hbel _⟩
      case measure => simp [intOf]; omega
    · go_wp2
      go_ret
      exact ⟨rfl, hbel⟩

theorem num_any (x : Int) (w : World) : Calls Tryz.prog 14 #[.int .i64 x] w fun e w' => e = .returned (.int .i64 x) ∧ w' = w := by
  go_enter Tryz.func14, Tryz.ntmps14
  go_wp2
  go_ret
  exact ⟨rfl, rfl⟩

end Go.Proofs.YtgpaajdfkekjiaaGreatDoor

namespace Go.Proofs.YtgpaajdfkekjiaaGreatDoor
open Go.RowKit

theorem handed_zero (w : World) :
    Calls Tryz.prog 18 #[.agg #[.int .i64 0, .slice none 0 0, .slice none 0 0, .slice none 0 0]] w fun e w' => ∃ gl gg go,
      e = .returned (.agg #[.int .i64 0, .slice (some ⟨gl, 0, none⟩) 0 8, .slice (some ⟨gg, 0, none⟩) 0 8, .slice (some ⟨go, 0, none⟩) 0 8]) ∧
      w.heap.size ≤ gl ∧ gl < gg ∧ gg < go ∧ w'.rowIs gl 54 16 (hPair []) ∧ w'.rowIs gg 56 16 (hPair []) ∧ w'.rowIs go 3 8 (hInt []) ∧ Below w.heap.size w w' :=
  handed_any 0 none none none 0 0 0 [] [] [] w (by simp) (by simp) (by simp) (.inl rfl) (.inl rfl) (.inl rfl)
theorem untouched_zero (gl gg go : Nat) (w : World) (h1 : gl < gg) (h2 : gg < go) (rL : w.rowIs gl 54 16 (hPair [])) (rG : w.rowIs gg 56 16 (hPair [])) (rO : w.rowIs go 3 8 (hInt [])) :
    Calls Tryz.prog 35 #[.agg #[.int .i64 0, .slice (some ⟨gl, 0, none⟩) 0 8, .slice (some ⟨gg, 0, none⟩) 0 8, .slice (some ⟨go, 0, none⟩) 0 8],
        .agg #[.int .i64 0, .slice none 0 0, .slice none 0 0, .slice none 0 0]] w fun e w' => e = .returned (.bool true) ∧ Span gl (go + 1) w w' :=
  untouched_any 0 none none none 0 0 0 gl gg go [] [] [] w (by simp) (by simp) (by simp) (.inl rfl) (.inl rfl) (.inl rfl) h1 h2 rL rG rO

/-- The cells of a block, kept. -/
theorem row_keep {w w' : World} {B : Nat} {cs : Array Value} (h : ∀ j, w.cell? ⟨B, j, none⟩ = cs[j]?) (hB : B < w.heap.size) (hb : Below w.heap.size w w') : ∀ j, w'.cell? ⟨B, j, none⟩ = cs[j]? := fun j => (hb.cell (p := ⟨B, j, none⟩) hB).trans (h j)
theorem row_keeps {S : Nat → Prop} {w w' : World} {B : Nat} {cs : Array Value} (h : ∀ j, w.cell? ⟨B, j, none⟩ = cs[j]?) (hB : B < w.heap.size) (K : Keeps S w w') (hS : ¬ S B) : ∀ j, w'.cell? ⟨B, j, none⟩ = cs[j]? := fun j => (K.cell (p := ⟨B, j, none⟩) hB hS).trans (h j)

theorem PairsAt.lt {w : World} {a : Option Addr} {ps : List (Int × Int)} (h : PairsAt w a ps) {b o : Nat} (ha : a = some ⟨b, o, none⟩) (hne : ps ≠ []) : b < w.heap.size := by
  rcases h with h | ⟨b', off, ha', hlt, _⟩
  · exact absurd h hne
  · rw [ha] at ha'; simp only [Option.some.injEq, Addr.mk.injEq, and_true] at ha'; omega
theorem IntsAt.lt {w : World} {a : Option Addr} {xs : List Int} (h : IntsAt w a xs) {b o : Nat} (ha : a = some ⟨b, o, none⟩) (hne : xs ≠ []) : b < w.heap.size := by
  rcases h with h | ⟨b', off, ha', hlt, _⟩
  · exact absurd h hne
  · rw [ha] at ha'; simp only [Option.some.injEq, Addr.mk.injEq, and_true] at ha'; omega
theorem IntsAt.alloc_any {w : World} {a : Option Addr} {xs : List Int} (h : IntsAt w a xs) (o : Obj) : IntsAt (w.alloc o) a xs := h.below ((Below.refl _ _).alloc (Nat.le_refl _) _)
theorem alloc_then {w w' : World} {o : Obj} (h : Below (w.alloc o).heap.size (w.alloc o) w') : Below w.heap.size w w' := ((Below.refl _ _).alloc (Nat.le_refl _) o).trans (h.mono (by simp))
theorem box_cells {w w' : World} {cs : Array Value} {t : TypeId} (h : Below (w.alloc (.cells cs t)).heap.size (w.alloc (.cells cs t)) w') : ∀ i, w'.cell? ⟨w.heap.size, i, none⟩ = cs[i]? := fun i =>
  (h.cell (p := ⟨w.heap.size, i, none⟩) (by simp)).trans (cell_of_row _ _ _ _ _ _ (heap_alloc_new _ _))

set_option maxHeartbeats 2000000 in
set_option maxRecDepth 100000 in
theorem one_run (S : Nat → Prop) (P : Nat) (hv : Value) (es : List Entry) (j : Nat) (sv : Value) (n : Int) (la ga oa ia : Option Addr) (lc gc oc ic : Nat) (ls gs : List (Int × Int)) (os ins : List Int) (w : World)
    (hB : BookAt S w P hv es) (hS : ∀ k, S k → k < w.heap.size) (hj : es.length = 4 * j) (hj2 : j ≤ 100)
    (hml : ls.length * 16 ≤ 140737488351232) (hmg : gs.length * 16 ≤ 140737488351232) (hmo : os.length * 8 ≤ 140737488351232) (hmi : ins.length * 8 ≤ 140737488351232)
    (hL : PairsAt w la ls) (hG : PairsAt w ga gs) (hO : IntsAt w oa os) (hI : IntsAt w ia ins)
    (fL : ∀ i, i < ls.length → Fits (ls.getD i (0, 0)).1) (fG : ∀ i, i < gs.length → Fits (gs.getD i (0, 0)).1 ∧ Fits (gs.getD i (0, 0)).2) (fO : ∀ i, i < os.length → Fits (os.getD i 0))
    (sL : ∀ b o, la = some ⟨b, o, none⟩ → ls ≠ [] → ¬ S b) (sG : ∀ b o, ga = some ⟨b, o, none⟩ → gs ≠ [] → ¬ S b) (sO : ∀ b o, oa = some ⟨b, o, none⟩ → os ≠ [] → ¬ S b) (sI : ∀ b o, ia = some ⟨b, o, none⟩ → ins ≠ [] → ¬ S b) :
    Calls Tryz.prog 13 #[.pointer (some ⟨P, 0, none⟩), .agg #[.int .i64 3, sv, .int .i64 n, .slice la ls.length lc, .slice ga gs.length gc, .slice oa os.length oc, .int .i64 0, .slice none 0 0, .slice none 0 0, .slice none 0 0, .slice ia ins.length ic, .int .i64 0]] w fun e w' =>
      e = .returned (.bool true) ∧ (∃ hv' es', BookAt (fun k => S k ∨ w.heap.size ≤ k) w' P hv' es' ∧ es'.length = 4 * (j + 1)) ∧ Keeps S w w' := by
  obtain ⟨W0, hW0⟩ : ∃ W0, W0 = w.alloc (.cells #[.int .i64 3, sv, .int .i64 n, .slice la ls.length lc, .slice ga gs.length gc, .slice oa os.length oc, .int .i64 0, .slice none 0 0, .slice none 0 0, .slice none 0 0, .slice ia ins.length ic, .int .i64 0] 42) := ⟨_, rfl⟩
  have b0 : Below w.heap.size w W0 := by rw [hW0]; exact (Below.refl _ _).alloc (Nat.le_refl _) _
  have s0 : W0.heap.size = w.heap.size + 1 := by rw [hW0]; simp
  have C0 : ∀ i, W0.cell? ⟨w.heap.size, i, none⟩ = #[.int .i64 3, sv, .int .i64 n, .slice la ls.length lc, .slice ga gs.length gc, .slice oa os.length oc, .int .i64 0, .slice none 0 0, .slice none 0 0, .slice none 0 0, .slice ia ins.length ic, .int .i64 0][i]? := fun i => by rw [hW0]; exact cell_of_row _ _ _ _ _ _ (heap_alloc_new _ _)
  have hd := handed_any n la ga oa lc gc oc ls gs os W0 hml hmg hmo (hL.below b0) (hG.below b0) (hO.below b0)
  rw [hW0] at hd
  have HC0 : Hid (∀ i, W0.cell? ⟨w.heap.size, i, none⟩ = #[.int .i64 3, sv, .int .i64 n, .slice la ls.length lc, .slice ga gs.length gc, .slice oa os.length oc, .int .i64 0, .slice none 0 0, .slice none 0 0, .slice none 0 0, .slice ia ins.length ic, .int .i64 0][i]?) := C0
  have HS0 : Hid (W0.heap.size = w.heap.size + 1) := s0
  have HSS : Hid (∀ k, S k → k < w.heap.size) := hS
  have HJ : Hid (es.length = 4 * j) := hj
  clear C0 s0 hS hj
  go_enter Tryz.func13, Tryz.ntmps13
  go_wp2_with fail
  refine hd.mono ?_
  rw [← hW0]
  rintro e w1 ⟨xl, xg, xo, rfl, hxl, hx1, hx2, rxL, rxG, rxO, b1⟩
  clear hd hW0
  have C1 := row_keep HC0.out (by rw [HS0.out]; omega) b1
  have z1 : w.heap.size < w1.heap.size := Nat.lt_of_lt_of_le (by rw [HS0.out]; omega) b1.size
  have a6 := C1 6
  have a7 := C1 7
  have a8 := C1 8
  have a9 := C1 9
  have HC1 : Hid (∀ i, w1.cell? ⟨w.heap.size, i, none⟩ = #[.int .i64 3, sv, .int .i64 n, .slice la ls.length lc, .slice ga gs.length gc, .slice oa os.length oc, .int .i64 0, .slice none 0 0, .slice none 0 0, .slice none 0 0, .slice ia ins.length ic, .int .i64 0][i]?) := C1
  clear C1
  go_wp2_with fail
  refine (handed_zero _).mono ?_
  rintro e w2 ⟨yl, yg, yo, rfl, hyl, hy1, hy2, ryL, ryG, ryO, b2⟩
  have B12 := alloc_then b2
  have HX2 : Hid (∀ i, w2.cell? ⟨w1.heap.size, i, none⟩ = #[.int .i64 n, .slice (some ⟨xl, 0, none⟩) ls.length (ls.length + 8), .slice (some ⟨xg, 0, none⟩) gs.length (gs.length + 8), .slice (some ⟨xo, 0, none⟩) os.length (os.length + 8)][i]?) := box_cells b2
  have HC2 : Hid (∀ i, w2.cell? ⟨w.heap.size, i, none⟩ = #[.int .i64 3, sv, .int .i64 n, .slice la ls.length lc, .slice ga gs.length gc, .slice oa os.length oc, .int .i64 0, .slice none 0 0, .slice none 0 0, .slice none 0 0, .slice ia ins.length ic, .int .i64 0][i]?) := row_keep HC1.out z1 B12
  have hyl' : w1.heap.size + 1 ≤ yl := by simpa using hyl
  have z2 : w1.heap.size < w2.heap.size := Nat.lt_of_lt_of_le (by simp) b2.size
  have B02 : Below w.heap.size w w2 := (b0.trans (b1.mono (by rw [HS0.out]; omega))).trans (B12.mono (by omega))
  have y2 : w.heap.size < w2.heap.size := by omega
  have a10 := HC2.out 10
  clear a6 a7 a8 a9 b2 hyl
  go_wp2_with fail
  refine (handedInts_any ia ic ins _ hmi ((hI.below B02).alloc_any _)).mono ?_
  rintro e w3 ⟨zi, rfl, hzi, rzI, b3⟩
  have B23 := alloc_then b3
  have HY3 : Hid (∀ i, w3.cell? ⟨w2.heap.size, i, none⟩ = #[.int .i64 0, .slice (some ⟨yl, 0, none⟩) 0 8, .slice (some ⟨yg, 0, none⟩) 0 8, .slice (some ⟨yo, 0, none⟩) 0 8][i]?) := box_cells b3
  have HC3 : Hid (∀ i, w3.cell? ⟨w.heap.size, i, none⟩ = #[.int .i64 3, sv, .int .i64 n, .slice la ls.length lc, .slice ga gs.length gc, .slice oa os.length oc, .int .i64 0, .slice none 0 0, .slice none 0 0, .slice none 0 0, .slice ia ins.length ic, .int .i64 0][i]?) := row_keep HC2.out (by omega) B23
  have HX3 : Hid (∀ i, w3.cell? ⟨w1.heap.size, i, none⟩ = #[.int .i64 n, .slice (some ⟨xl, 0, none⟩) ls.length (ls.length + 8), .slice (some ⟨xg, 0, none⟩) gs.length (gs.length + 8), .slice (some ⟨xo, 0, none⟩) os.length (os.length + 8)][i]?) := row_keep HX2.out z2 B23
  have hzi' : w2.heap.size + 1 ≤ zi := by simpa using hzi
  have z3 : w2.heap.size < w3.heap.size := Nat.lt_of_lt_of_le (by simp) b3.size
  have B03 : Below w.heap.size w w3 := B02.trans (B23.mono (by omega))
  have B13 : Below w1.heap.size w1 w3 := B12.trans (B23.mono (by omega))
  have y3 : w.heap.size < w3.heap.size := by omega
  have yx3 : w1.heap.size < w3.heap.size := by omega
  have c0 := HC3.out 0
  have x0 := HX3.out 0
  have x1 := HX3.out 1
  have x2 := HX3.out 2
  have x3 := HX3.out 3
  have rxL3 := rowIs_below rxL B13
  have rxG3 := rowIs_below rxG B13
  have rxO3 := rowIs_below rxO B13
  have ryL3 := rowIs_below ryL B23
  have ryG3 := rowIs_below ryG B23
  have ryO3 := rowIs_below ryO B23
  have hmax : ins.length ≤ maxLen := by unfold maxLen; omega
  have tops : xo < w1.heap.size ∧ yo < w2.heap.size ∧ zi < w3.heap.size := ⟨rxO.lt, ryO.lt, rzI.lt⟩
  clear a10 b3 hzi HX2 HC2 rxL rxG rxO ryL ryG ryO
  go_wp2_with fail
  refine (run_all n (some ⟨xl, 0, none⟩) (some ⟨xg, 0, none⟩) (some ⟨xo, 0, none⟩) (some ⟨zi, 0, none⟩) _ _ _ _ ls gs os ins _ hmax (row_pairs rxL3) (row_pairs rxG3) (row_ints rxO3) (row_ints rzI)).mono ?_
  rintro e w4 ⟨ra, rfl, hra, rI4, b4⟩
  have HC4 : Hid (∀ i, w4.cell? ⟨w.heap.size, i, none⟩ = #[.int .i64 3, sv, .int .i64 n, .slice la ls.length lc, .slice ga gs.length gc, .slice oa os.length oc, .int .i64 0, .slice none 0 0, .slice none 0 0, .slice none 0 0, .slice ia ins.length ic, .int .i64 0][i]?) := row_keep HC3.out (by omega) b4
  have B04 : Below w.heap.size w w4 := B03.trans (b4.mono (by omega))
  have c2 := HC4.out 2
  have c3 := HC4.out 3
  have c4 := HC4.out 4
  have c5 := HC4.out 5
  have c10 := HC4.out 10
  clear c0 x0 x1 x2 x3
  go_wp2_with fail
  refine (refRun_all n la ga oa ia lc gc oc ic ls gs os ins _ hmax (hL.below B04) (hG.below B04) (hO.below B04) (hI.below B04) fL fG fO).mono ?_
  rintro e w5 ⟨ma, mc, rfl, mI5, b5⟩
  clear c2 c3 c4 c5 c10
  have B35 : Below w3.heap.size w3 w5 := b4.trans (b5.mono b4.size)
  have B05 : Below w.heap.size w w5 := B04.trans (b5.mono (by have := b4.size; omega))
  have hB5 : BookAt S w5 P hv es := hB.keeps (T := fun k => w.heap.size ≤ k) ⟨B05.os, B05.tape, B05.output, B05.size, fun k hk _ => B05.block k hk⟩ (fun k hk => by have := HSS.out k hk; omega)
  go_wp2_with fail
  refine (reads_any S P hv es _ hB5).mono ?_
  rintro e w' ⟨rfl, hw⟩
  have hw := hw.symm
  subst hw
  go_wp2_with fail
  refine (sameInts_eq ra ma _ _ _ (ints (runL n ls gs os ins)) _ (ints_len _).symm (by rw [ints_len]; have := runL_len n ls gs os ins; omega) (rI4.below b5) mI5).mono ?_
  rintro e w6 ⟨rfl, b6⟩
  have B36 : Below w3.heap.size w3 w6 := B35.trans (b6.mono B35.size)
  have B06 : Below w.heap.size w w6 := B05.trans (b6.mono (by have := B35.size; omega))
  have s36 : w3.heap.size ≤ w6.heap.size := B36.size
  have hB6 : BookAt S w6 P hv es := hB.keeps (T := fun k => w.heap.size ≤ k) ⟨B06.os, B06.tape, B06.output, B06.size, fun k hk _ => B06.block k hk⟩ (fun k hk => by have := HSS.out k hk; omega)
  have hra6 : (ra = none ∧ (runL n ls gs os ins).length = 0) ∨ ∃ g f, ra = some ⟨g, 0, none⟩ ∧ w6.rowIs g 3 (runL n ls gs os ins).length f ∧ ∀ k, S k → k < g := by
    rcases hra with h | ⟨g, f, h1, h2, h3⟩
    · exact .inl h
    · exact .inr ⟨g, f, h1, rowIs_below h3 (b5.trans (b6.mono b5.size)), fun k hk => by have := HSS.out k hk; omega⟩
  have hra3 : ∀ g, ra = some ⟨g, 0, none⟩ → w3.heap.size ≤ g ∧ g < w6.heap.size := by
    rcases hra with h | ⟨g, f, h1, h2, h3⟩
    · intro g e; rw [h.1] at e; cases e
    · intro g' e
      have := (rowIs_below h3 (b5.trans (b6.mono b5.size))).lt
      rw [h1] at e; simp only [Option.some.injEq, Addr.mk.injEq, and_true] at e; omega
  clear hB5 hra mI5 rI4
  go_wp2_with fail
  refine (keepInts_any S P hv es ra (runL n ls gs os ins).length j _ hB6 HJ.out hj2 (by have := runL_len n ls gs os ins; omega) hra6).mono ?_
  rintro e w7 ⟨rfl, hv', es', hB7, hes', K7⟩
  have nT : ∀ k, w.heap.size ≤ k → k < w3.heap.size → ¬ (S k ∨ ra = some ⟨k, 0, none⟩) := fun k h1 h2 h => by
    rcases h with h | h
    · have := HSS.out k h; omega
    · have := (hra3 k h).1; omega
  have HC7 : Hid (∀ i, w7.cell? ⟨w.heap.size, i, none⟩ = #[.int .i64 3, sv, .int .i64 n, .slice la ls.length lc, .slice ga gs.length gc, .slice oa os.length oc, .int .i64 0, .slice none 0 0, .slice none 0 0, .slice none 0 0, .slice ia ins.length ic, .int .i64 0][i]?) := row_keeps (row_keep HC3.out (by omega) B36) (by omega) K7 (nT _ (Nat.le_refl _) (by omega))
  have HX7 : Hid (∀ i, w7.cell? ⟨w1.heap.size, i, none⟩ = #[.int .i64 n, .slice (some ⟨xl, 0, none⟩) ls.length (ls.length + 8), .slice (some ⟨xg, 0, none⟩) gs.length (gs.length + 8), .slice (some ⟨xo, 0, none⟩) os.length (os.length + 8)][i]?) := row_keeps (row_keep HX3.out (by omega) B36) (by omega) K7 (nT _ (by omega) (by omega))
  have HY7 : Hid (∀ i, w7.cell? ⟨w2.heap.size, i, none⟩ = #[.int .i64 0, .slice (some ⟨yl, 0, none⟩) 0 8, .slice (some ⟨yg, 0, none⟩) 0 8, .slice (some ⟨yo, 0, none⟩) 0 8][i]?) := row_keeps (row_keep HY3.out (by omega) B36) (by omega) K7 (nT _ (by omega) (by omega))
  have rxL7 := rowIs_keeps (rowIs_below rxL3 B36) K7 (nT _ (by rw [HS0.out] at hxl; omega) (by omega))
  have rxG7 := rowIs_keeps (rowIs_below rxG3 B36) K7 (nT _ (by rw [HS0.out] at hxl; omega) (by omega))
  have rxO7 := rowIs_keeps (rowIs_below rxO3 B36) K7 (nT _ (by rw [HS0.out] at hxl; omega) (by omega))
  have ryL7 := rowIs_keeps (rowIs_below ryL3 B36) K7 (nT _ (by omega) (by omega))
  have ryG7 := rowIs_keeps (rowIs_below ryG3 B36) K7 (nT _ (by omega) (by omega))
  have ryO7 := rowIs_keeps (rowIs_below ryO3 B36) K7 (nT _ (by omega) (by omega))
  have rzI7 := rowIs_keeps (rowIs_below rzI B36) K7 (nT _ (by omega) (by omega))
  have hxl' : w.heap.size + 1 ≤ xl := by rw [HS0.out] at hxl; exact hxl
  have s67 : w6.heap.size ≤ w7.heap.size := K7.size
  have hL7 : PairsIn xl w7 la ls := (((hL.into).below B06).keeps K7 (fun b o ha hne h => by
    rcases h with h | h
    · exact sL b o ha hne h
    · have := (hra3 b h).1; have := hL.lt ha hne; omega)).mono (by omega)
  have hG7 : PairsIn xl w7 ga gs := (((hG.into).below B06).keeps K7 (fun b o ha hne h => by
    rcases h with h | h
    · exact sG b o ha hne h
    · have := (hra3 b h).1; have := hG.lt ha hne; omega)).mono (by omega)
  have hO7 : IntsIn xl w7 oa os := (((hO.into).below B06).keeps K7 (fun b o ha hne h => by
    rcases h with h | h
    · exact sO b o ha hne h
    · have := (hra3 b h).1; have := hO.lt ha hne; omega)).mono (by omega)
  have hI7 : IntsIn xl w7 ia ins := (((hI.into).below B06).keeps K7 (fun b o ha hne h => by
    rcases h with h | h
    · exact sI b o ha hne h
    · have := (hra3 b h).1; have := hI.lt ha hne; omega)).mono (by omega)
  have K07 : Keeps S w w7 := ⟨K7.os.trans B06.os, K7.tape.trans B06.tape, K7.output.trans B06.output, Nat.le_trans B06.size K7.size, fun k hk ho => (K7.block k (by have := B06.size; omega) (fun h => by
    rcases h with h | h
    · exact ho h
    · have := (hra3 k h).1; omega)).trans (B06.block k hk)⟩
  have x0 := HX7.out 0
  have x1 := HX7.out 1
  have x2 := HX7.out 2
  have x3 := HX7.out 3
  have c2 := HC7.out 2
  have c3 := HC7.out 3
  have c4 := HC7.out 4
  have c5 := HC7.out 5
  clear hB6 hra6 HC3 HX3 HY3 HC4 rxL3 rxG3 rxO3 ryL3 ryG3 ryO3 rzI HC1 HC0
  go_wp2_with (go_at_call 14; refine (num_any _ _).mono ?_; rintro e w' ⟨rfl, hw⟩; have hw := hw.symm; subst hw)
  refine (untouched_any n la ga oa lc gc oc xl xg xo ls gs os _ hml hmg hmo hL7 hG7 hO7 hx1 hx2 rxL7 rxG7 rxO7).mono ?_
  rintro e w8 ⟨rfl, sp8⟩
  have K8 := Keeps.of_span sp8
  have HC8 : Hid (∀ i, w8.cell? ⟨w.heap.size, i, none⟩ = #[.int .i64 3, sv, .int .i64 n, .slice la ls.length lc, .slice ga gs.length gc, .slice oa os.length oc, .int .i64 0, .slice none 0 0, .slice none 0 0, .slice none 0 0, .slice ia ins.length ic, .int .i64 0][i]?) := row_keeps HC7.out (by omega) K8 (by omega)
  have HY8 : Hid (∀ i, w8.cell? ⟨w2.heap.size, i, none⟩ = #[.int .i64 0, .slice (some ⟨yl, 0, none⟩) 0 8, .slice (some ⟨yg, 0, none⟩) 0 8, .slice (some ⟨yo, 0, none⟩) 0 8][i]?) := row_keeps HY7.out (by omega) K8 (by omega)
  have ryL8 := rowIs_keeps ryL7 K8 (by omega)
  have ryG8 := rowIs_keeps ryG7 K8 (by omega)
  have ryO8 := rowIs_keeps ryO7 K8 (by omega)
  have rzI8 := rowIs_keeps rzI7 K8 (by omega)
  have hI8 := hI7.span sp8 (Nat.le_refl _)
  have s78 : w7.heap.size ≤ w8.heap.size := K8.size
  have sev : ∀ lo hi, w.heap.size < lo → hi ≤ w3.heap.size → ∀ k, (S k ∨ ra = some ⟨k, 0, none⟩ ∨ w6.heap.size ≤ k) → ¬ (lo ≤ k ∧ k < hi) := fun lo hi h1 h2 k hk h => by
    rcases hk with hk | hk | hk
    · have := HSS.out k hk; omega
    · have := (hra3 k hk).1; omega
    · omega
  have hB8 := hB7.keeps K8 (sev _ _ (by omega) (by omega))
  have y0 := HY8.out 0
  have y1 := HY8.out 1
  have y2' := HY8.out 2
  have y3' := HY8.out 3
  have c6 := HC8.out 6
  have c7 := HC8.out 7
  have c8 := HC8.out 8
  have c9 := HC8.out 9
  clear x0 x1 x2 x3 c2 c3 c4 c5 hL7 hG7 hO7 rxL7 rxG7 rxO7 hB7 hI7 ryL7 ryG7 ryO7 rzI7
  go_wp2_with fail
  refine (untouched_zero yl yg yo _ hy1 hy2 ryL8 ryG8 ryO8).mono ?_
  rintro e w9 ⟨rfl, sp9⟩
  have K9 := Keeps.of_span sp9
  have HC9 : Hid (∀ i, w9.cell? ⟨w.heap.size, i, none⟩ = #[.int .i64 3, sv, .int .i64 n, .slice la ls.length lc, .slice ga gs.length gc, .slice oa os.length oc, .int .i64 0, .slice none 0 0, .slice none 0 0, .slice none 0 0, .slice ia ins.length ic, .int .i64 0][i]?) := row_keeps HC8.out (by omega) K9 (by omega)
  have rzI9 := rowIs_keeps rzI8 K9 (by omega)
  have hI9 := hI8.span sp9 (by omega)
  have s89 : w8.heap.size ≤ w9.heap.size := K9.size
  have hB9 := hB8.keeps K9 (sev _ _ (by omega) (by omega))
  have c10 := HC9.out 10
  clear y0 y1 y2' y3' c6 c7 c8 c9 hB8 hI8 ryL8 ryG8 ryO8 rzI8
  go_wp2_with fail
  refine (untouchedInts_any ia ic zi ins _ hmi (hI9.mono (by omega)) rzI9).mono ?_
  rintro e w10 ⟨rfl, sp10⟩
  have K10 := Keeps.of_span sp10
  have hB10 := hB9.keeps K10 (sev _ _ (by omega) (by omega))
  clear c10 hB9 hI9 rzI9
  go_wp2_with fail
  refine (reads_any _ P hv' es' _ hB10).mono ?_
  rintro e w' ⟨rfl, hw⟩
  have hw := hw.symm
  subst hw
  go_wp2
  go_ret
  refine ⟨rfl, ⟨hv', es', hB10.mono (fun k hk => ?_), hes'⟩, ?_⟩
  · rcases hk with hk | hk | hk
    · exact .inl hk
    · have := (hra3 k hk).1; exact .inr (by omega)
    · exact .inr (by have := B06.size; omega)
  · have fin : ∀ {a b : World} {lo hi : Nat}, Keeps S w a → Keeps (fun k => lo ≤ k ∧ k < hi) a b → w.heap.size ≤ lo → Keeps S w b := fun {a b lo hi} h1 h2 h3 =>
      ⟨h2.os.trans h1.os, h2.tape.trans h1.tape, h2.output.trans h1.output, Nat.le_trans h1.size h2.size, fun k hk ho => (h2.block k (by have := h1.size; omega) (by omega)).trans (h1.block k hk ho)⟩
    exact fin (fin (fin K07 K8 (by omega)) K9 (by omega)) K10 (by omega)

end Go.Proofs.YtgpaajdfkekjiaaGreatDoor
