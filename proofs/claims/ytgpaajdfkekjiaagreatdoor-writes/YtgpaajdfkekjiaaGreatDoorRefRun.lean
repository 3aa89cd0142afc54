/-
  What Run of package latchref answers of any circuit and any inputs whose lists can be read: just what Run of package latch answers.
-/
import Derived.Test.YtgpaajdfkekjiaaGreatDoorRefRight
namespace Go.Proofs.YtgpaajdfkekjiaaGreatDoor
open Go.RowKit

theorem refRight_is {n : Int} {la ga oa : Option Addr} {lc gc oc : Nat} {ls gs : List (Int × Int)} {os : List Int} {b : Bool} (w : World)
    (hL : PairsAt w la ls) (hG : PairsAt w ga gs) (hO : IntsAt w oa os) (fL : ∀ i, i < ls.length → Fits (ls.getD i (0, 0)).1) (fG : ∀ i, i < gs.length → Fits (gs.getD i (0, 0)).1 ∧ Fits (gs.getD i (0, 0)).2) (fO : ∀ i, i < os.length → Fits (os.getD i 0)) (h : rightB n ls gs os = b) :
    Calls Tryz.prog 46 #[.agg #[.int .i64 n, .slice la ls.length lc, .slice ga gs.length gc, .slice oa os.length oc]] w fun e w' =>
      e = .returned (.bool b) ∧ Below w.heap.size w w' := by subst h; exact refRight_any n la ga oa lc gc oc ls gs os w hL hG hO fL fG fO

set_option maxHeartbeats 400000 in
set_option maxRecDepth 100000 in
/-- A circuit that is not right. -/
theorem refRun_wrong (n : Int) (la ga oa : Option Addr) (lc gc oc : Nat) (ls gs : List (Int × Int)) (os : List Int) (iv : Value) (w : World)
    (hL : PairsAt w la ls) (hG : PairsAt w ga gs) (hO : IntsAt w oa os) (fL : ∀ i, i < ls.length → Fits (ls.getD i (0, 0)).1) (fG : ∀ i, i < gs.length → Fits (gs.getD i (0, 0)).1 ∧ Fits (gs.getD i (0, 0)).2) (fO : ∀ i, i < os.length → Fits (os.getD i 0)) (hr : rightB n ls gs os = false) :
    Calls Tryz.prog 25 #[.agg #[.int .i64 n, .slice la ls.length lc, .slice ga gs.length gc, .slice oa os.length oc], iv] w fun e w' =>
      e = .returned (.tuple #[.slice none 0 0, .int .i64 2]) ∧ Below w.heap.size w w' := by
  have bel0 : Below w.heap.size w (w.alloc (.cells #[.int .i64 n, .slice la ls.length lc, .slice ga gs.length gc, .slice oa os.length oc] 34)) := (Below.refl _ _).alloc (Nat.le_refl _) _
  have hL0 := hL.below bel0
  have hG0 := hG.below bel0
  have hO0 := hO.below bel0
  go_enter Tryz.func25, Tryz.ntmps25
  go_wp2_with (go_at_call 46; refine (refRight_is _ hL0 hG0 hO0 fL fG fO hr).mono ?_; rintro e w1 ⟨rfl, b1⟩)
  go_ret2
  exact ⟨rfl, bel0.trans (b1.mono (by simp))⟩

def upI (n : Nat) (ins : List Int) (k : Nat) : Bool := decide (∀ i, i < k → inB (ins.getD i 0) (2 ^ n - 1) = true)
theorem upI_succ (n : Nat) (ins : List Int) (k : Nat) : upI n ins (k + 1) = (upI n ins k && inB (ins.getD k 0) (2 ^ n - 1)) := up_succ (fun i => inB (ins.getD i 0) (2 ^ n - 1)) k
theorem upI_zero (n : Nat) (ins : List Int) : upI n ins 0 = true := decide_eq_true (fun i hi => absurd hi (Nat.not_lt_zero i))
theorem bad_hi {x : Int} {M : Nat} (h : ¬ x < 0) : decide ((M : Int) ≤ x) = (false || !inB x ((M : Int) - 1)) := by
  unfold inB
  by_cases h2 : (M : Int) ≤ x
  · rw [decide_eq_true h2, decide_eq_false (by omega)]; rfl
  · rw [decide_eq_false h2, decide_eq_true (by omega)]; rfl
theorem inputsB_up (n : Nat) (ins : List Int) : inputsB n ins = !(decide (50 < ins.length) || !upI n ins ins.length) := by
  unfold inputsB upI
  rw [Bool.eq_iff_iff]
  simp only [decide_eq_true_eq, Bool.not_eq_true', Bool.or_eq_false_iff, decide_eq_false_iff_not, Bool.not_eq_false']
  exact and_congr (by omega) Iff.rfl

def outsUp (n : Nat) (ls gs : List (Int × Int)) (os ins : List Int) (k : Nat) : List Nat := (List.range k).map (outAt n ls gs os ins)
theorem outsUp_succ (n : Nat) (ls gs : List (Int × Int)) (os ins : List Int) (k : Nat) : outsUp n ls gs os ins (k + 1) = outsUp n ls gs os ins k ++ [outAt n ls gs os ins k] := by
  simp [outsUp, List.range_succ]

theorem keep_box {X w5 : World} {B b o : Nat} {c0 c1 c2 c3 c4 : Value} (h5 : Below X.heap.size X w5) (hB : B < X.heap.size) (hb : b < X.heap.size)
    (h0 : X.cell? ⟨B, 0, none⟩ = some c0) (h1 : X.cell? ⟨B, 1, none⟩ = some c1) (h2 : X.cell? ⟨B, 2, none⟩ = some c2) (h3 : X.cell? ⟨B, 3, none⟩ = some c3) (h4 : X.cell? ⟨b, o, none⟩ = some c4) :
    w5.cell? ⟨B, 0, none⟩ = some c0 ∧ w5.cell? ⟨B, 1, none⟩ = some c1 ∧ w5.cell? ⟨B, 2, none⟩ = some c2 ∧ w5.cell? ⟨B, 3, none⟩ = some c3 ∧ w5.cell? ⟨b, o, none⟩ = some c4 :=
  ⟨((bcell h5).1 _ _ hB).trans h0, ((bcell h5).1 _ _ hB).trans h1, ((bcell h5).1 _ _ hB).trans h2, ((bcell h5).1 _ _ hB).trans h3, ((bcell h5).1 _ _ hb).trans h4⟩

theorem below_of_drew {B : Nat} {w w' : World} (h : Below B w.drew w') : Below B w w' := ⟨h.os, h.tape, h.output, h.size, h.block⟩

set_option maxHeartbeats 1000000 in
set_option maxRecDepth 100000 in
/-- A right circuit: the inputs are looked through, and then run. -/
theorem refRun_right (n : Nat) (la ga oa ia : Option Addr) (lc gc oc ic : Nat) (ls gs : List (Int × Int)) (os ins : List Int) (w : World) (hm : ins.length ≤ maxLen)
    (hL : PairsAt w la ls) (hG : PairsAt w ga gs) (hO : IntsAt w oa os) (hI : IntsAt w ia ins) (fL : ∀ i, i < ls.length → Fits (ls.getD i (0, 0)).1) (fG : ∀ i, i < gs.length → Fits (gs.getD i (0, 0)).1 ∧ Fits (gs.getD i (0, 0)).2) (fO : ∀ i, i < os.length → Fits (os.getD i 0)) (hr : rightB n ls gs os = true) :
    Calls Tryz.prog 25 #[.agg #[.int .i64 n, .slice la ls.length lc, .slice ga gs.length gc, .slice oa os.length oc], .slice ia ins.length ic] w fun e w' =>
      (inputsB n ins = false → e = .returned (.tuple #[.slice none 0 0, .int .i64 3]) ∧ Below w.heap.size w w') ∧
      (inputsB n ins = true → ∃ v, e = .returned (.tuple #[v, .int .i64 0]) ∧ w'.ownsRow w.heap.size 3 1 v ins.length (ivals (outs n ls gs os ins)) ∧ Below w.heap.size w w') := by
  unfold maxLen at hm
  have bel0 : Below w.heap.size w (w.alloc (.cells #[.int .i64 n, .slice la ls.length lc, .slice ga gs.length gc, .slice oa os.length oc] 34)) := (Below.refl _ _).alloc (Nat.le_refl _) _
  have hL0 := hL.below bel0
  have hG0 := hG.below bel0
  have hO0 := hO.below bel0
  obtain ⟨⟨_, hn4, hl4, ho4, hg30⟩, hokl, hokg, hoko⟩ := rightB_pos hr
  have hn4 : n ≤ 4 := by omega
  obtain ⟨i0, hi0, hz0, hz1, hz2⟩ := info_parts Tryz.infoInt
  have hinit : ∀ i, i < ls.length → inB (ls.getD i (0, 0)).2 1 = true := fun i h => by have := hokl i h; simp only [latchOk, Bool.and_eq_true] at this; exact this.2
  have hnext : ∀ i, i < ls.length → inB (ls.getD i (0, 0)).1 (2 * (n + ls.length + gs.length) + 1) = true := fun i h => by have := hokl i h; simp only [latchOk, Bool.and_eq_true] at this; exact this.1
  obtain ⟨M, hM⟩ : ∃ M : Nat, (M : Int) = 2 ^ n := ⟨2 ^ n, by simp⟩
  have hM16 : M ≤ 16 := by
    have hp : (2 : Nat) ^ n ≤ 2 ^ 4 := Nat.pow_le_pow_right (by omega) hn4
    have e : M = 2 ^ n := by exact_mod_cast hM
    omega
  have hsh : IntKind.i64.wrap ((2 : Int) ^ n) = (M : Int) := by rw [← hM, wrap_i64']; omega
  have HM : Hid ((M : Int) = 2 ^ n) := hM
  clear hM
  go_enter Tryz.func25, Tryz.ntmps25
  go_wp2_with (go_at_call 46; refine (refRight_is _ hL0 hG0 hO0 fL fG fO hr).mono ?_; rintro e w1 ⟨rfl, b1⟩)
  have bel1 : Below w.heap.size w w1 := bel0.trans (b1.mono (by simp))
  have y1 : w.heap.size < w1.heap.size := Nat.lt_of_lt_of_le (by simp) b1.size
  have qq : ∀ j, w1.cell? ⟨w.heap.size, j, none⟩ = (w.alloc (.cells #[.int .i64 n, .slice la ls.length lc, .slice ga gs.length gc, .slice oa os.length oc] 34)).cell? ⟨w.heap.size, j, none⟩ := fun j => (bcell b1).1 _ _ (by simp)
  have q0 : w1.cell? ⟨w.heap.size, 0, none⟩ = some (.int .i64 n) := by rw [qq]; simp
  have q1 : w1.cell? ⟨w.heap.size, 1, none⟩ = some (.slice la ls.length lc) := by rw [qq]; simp
  have q2 : w1.cell? ⟨w.heap.size, 2, none⟩ = some (.slice ga gs.length gc) := by rw [qq]; simp
  have q3 : w1.cell? ⟨w.heap.size, 3, none⟩ = some (.slice oa os.length oc) := by rw [qq]; simp
  clear qq b1 bel0 hL0 hG0 hO0 fL fG fO
  go_loopw [7, 8] (fun bad i wr => ∃ k : Nat, k ≤ ins.length ∧ i = .int .i64 k ∧ bad = .bool (decide (50 < ins.length) || !upI n ins k) ∧ Below w1.heap.size w1 wr) (fun _ i _ => ins.length - (intOf i).toNat)
  case atStart => exact ⟨0, Nat.zero_le _, rfl, by rw [upI_zero]; simp; omega, Below.refl _ _⟩
  case round =>
    obtain ⟨k, hk, rfl, rfl, hb⟩ := hrel
    by_cases hk2 : k < ins.length
    · obtain ⟨b, off, rfl, hlt, hc⟩ := hI.get (by omega)
      have hcy : wr.cell? ⟨b, off + k, none⟩ = some (.int .i64 (ins.getD k 0)) := ((hb.cell (p := ⟨b, _, none⟩) (Nat.lt_of_lt_of_le hlt bel1.size)).trans (bel1.cell (p := ⟨b, _, none⟩) hlt)).trans (hc k hk2)
      have p0 := (hb.cell (p := ⟨w.heap.size, 0, none⟩) y1).trans q0
      have hu := upI_succ n ins k
      obtain ⟨x, hX⟩ : ∃ x, x = ins.getD k 0 := ⟨_, rfl⟩
      rw [← hX] at hcy hu
      obtain ⟨U, hU⟩ : ∃ U, U = (decide (50 < ins.length) || !upI n ins k) := ⟨_, rfl⟩
      have fin : ∀ c : Bool, c = (U || !inB x (2 ^ n - 1)) → Value.bool c = Value.bool (decide (50 < ins.length) || !upI n ins (k + 1)) := fun c h => by
        rw [hu, h, hU]; cases decide (50 < ins.length) <;> cases upI n ins k <;> rfl
      have FIN : Hid (∀ c : Bool, c = (U || !inB x (2 ^ n - 1)) → Value.bool c = Value.bool (decide (50 < ins.length) || !upI n ins (k + 1))) := fin
      rw [← hU]
      have hk3 : (k : Int) < (ins.length : Int) := by omega
      have hk0 : (0 : Int) ≤ (k : Int) := by omega
      clear hX hc hu hU fin hinit hnext hokl hokg hoko q0 q1 q2 q3
      cases U
      · by_cases hx0 : x < 0
        · have hd : decide (x < 0) = true := by simpa using hx0
          go_wp2
          go_quiet (fail)
          go_wp2
          go_roundw
          case rel => exact ⟨k + 1, by omega, by go_num, FIN.out _ (by unfold inB; rw [decide_eq_false (by omega)]; rfl), hb.trans (below_drewN (Below.refl _ _) _ |>.mono hb.size)⟩
          case measure => simp [intOf]; omega
        · have hd : decide (x < 0) = false := by simpa using hx0
          go_wp2
          go_quiet (fail)
          go_wp2
          go_roundw
          case rel => exact ⟨k + 1, by omega, by go_num, FIN.out _ (by rw [← HM.out]; exact bad_hi (by omega)), hb.trans (below_drewN (Below.refl _ _) _ |>.mono hb.size)⟩
          case measure => simp [intOf]; omega
      · go_wp2
        go_quiet (fail)
        go_wp2
        go_roundw
        case rel => exact ⟨k + 1, by omega, by go_num, FIN.out _ rfl, hb.trans (below_drewN (Below.refl _ _) _ |>.mono hb.size)⟩
        case measure => simp [intOf]; omega
    · obtain rfl : k = ins.length := by omega
      have hup := inputsB_up n ins
      obtain ⟨U, hU⟩ : ∃ U, U = (decide (50 < ins.length) || !upI n ins ins.length) := ⟨_, rfl⟩
      rw [← hU] at hup
      rw [← hU]
      have HUP : Hid (inputsB n ins = !U) := hup
      obtain ⟨w2, rfl⟩ : ∃ w2, w2 = wr := ⟨wr, rfl⟩
      have bel2 : Below w.heap.size w w2 := bel1.trans (hb.mono (by omega))
      have p0 := (hb.cell (p := ⟨w.heap.size, 0, none⟩) y1).trans q0
      have p1 := (hb.cell (p := ⟨w.heap.size, 1, none⟩) y1).trans q1
      have p2 := (hb.cell (p := ⟨w.heap.size, 2, none⟩) y1).trans q2
      have p3 := (hb.cell (p := ⟨w.heap.size, 3, none⟩) y1).trans q3
      have y2 : w.heap.size < w2.heap.size := Nat.lt_of_lt_of_le y1 hb.size
      clear hU hup q0 q1 q2 q3 hb bel1 y1 hsh
      cases U
      · have hL2 := hL.below bel2
        have hin : inputsB n ins = true := by rw [HUP.out]; rfl
        have h50 : ins.length ≤ 50 := (of_decide_eq_true hin).1
        go_wp2_with (go_at_call 52; refine (begin_any _ la lc _ _ ls _ hl4 hL2 hinit).mono ?_; rintro e w3 ⟨rfl, b3⟩)
        have bel3 : Below w.heap.size w w3 := bel2.trans (b3.mono (by omega))
        have y3 : w.heap.size < w3.heap.size := Nat.lt_of_lt_of_le y2 b3.size
        have r0 := ((bcell b3).1 _ 0 y2).trans p0
        have r1 := ((bcell b3).1 _ 1 y2).trans p1
        have r2 := ((bcell b3).1 _ 2 y2).trans p2
        have r3 := ((bcell b3).1 _ 3 y2).trans p3
        clear p0 p1 p2 p3 b3 bel2 hL2 hokl hinit y2
        go_loopw [9, 10, 11, 12] (fun st v i _ wr => ∃ k : Nat, k ≤ ins.length ∧ i = .int .i64 k ∧ st = .int .i64 (stateAt n ls gs ins k : Nat) ∧ wr.ownsRow (w.heap.size + 1) 3 1 v k (ivals (outsUp n ls gs os ins k)) ∧
            wr.cell? ⟨w.heap.size, 0, none⟩ = some (.int .i64 n) ∧ wr.cell? ⟨w.heap.size, 1, none⟩ = some (.slice la ls.length lc) ∧ wr.cell? ⟨w.heap.size, 2, none⟩ = some (.slice ga gs.length gc) ∧ wr.cell? ⟨w.heap.size, 3, none⟩ = some (.slice oa os.length oc) ∧
            w.heap.size < wr.heap.size ∧ Below w.heap.size w wr) (fun _ _ i _ _ => ins.length - (intOf i).toNat)
        case atStart => exact ⟨0, Nat.zero_le _, rfl, rfl, World.ownsRow_nil _ _ _ _, r0, r1, r2, r3, y3, bel3⟩
        case round =>
          clear r0 r1 r2 r3 y3 bel3
          obtain ⟨k, hk, rfl, rfl, hown, q0, q1, q2, q3, hz, hbel⟩ := hrel
          by_cases hk2 : k < ins.length
          · obtain ⟨b, off, rfl, hlt, hc⟩ := hI.get (by omega)
            obtain ⟨X, hX, hX16⟩ := inputs_lt hn4 hin hk2
            have hcy : wr.cell? ⟨b, off + k, none⟩ = some (.int .i64 (X : Int)) := by rw [← hX]; exact (hbel.cell (p := ⟨b, _, none⟩) hlt).trans (hc k hk2)
            obtain ⟨S, hS⟩ : ∃ S, S = stateAt n ls gs ins k := ⟨_, rfl⟩
            have hS16 : S < 16 := by rw [hS]; exact stateAt_lt n ls gs ins k hl4
            have HN : Hid (nextOf ls (vals n ls.length gs S X) ls.length = stateAt n ls gs ins (k + 1)) := by
              show _ = nextOf ls (vals n ls.length gs (stateAt n ls gs ins k) (ins.getD k 0).toNat) ls.length
              rw [hS, hX]; rfl
            have HO : Hid (outOf os (vals n ls.length gs S X) os.length = outAt n ls gs os ins k) := by
              unfold Hid outAt; rw [hS, hX]; rfl
            rw [← hS]
            obtain ⟨NX, hNX⟩ : ∃ NX, NX = nextOf ls (vals n ls.length gs S X) ls.length := ⟨_, rfl⟩
            obtain ⟨OX, hOX⟩ : ∃ OX, OX = outOf os (vals n ls.length gs S X) os.length := ⟨_, rfl⟩
            have hLr := hL.below hbel
            have hGr := hG.below hbel
            have hOr := hO.below hbel
            have hbz : b < wr.heap.size := Nat.lt_of_lt_of_le hlt hbel.size
            have co := refOutputs_any n S X la ga oa lc gc oc ls.length gs os wr.drew hn4 hl4 hg30 ho4 hS16 hX16 (hGr.below (Below.refl _ _).drew) (hOr.below (Below.refl _ _).drew) hokg hoko
            rw [← hOX] at co
            have hk0 : (0 : Int) ≤ (k : Int) := by omega
            have hk3 : (k : Int) < (ins.length : Int) := by omega
            have HNX : Hid (NX = nextOf ls (vals n ls.length gs S X) ls.length) := hNX
            have HOX : Hid (OX = outOf os (vals n ls.length gs S X) os.length) := hOX
            clear hS hX hc hNX hOX
            go_wp2
            go_region_held3 (fun w' => w'.cell? ⟨w.heap.size, 0, none⟩ = some (.int .i64 n) ∧ w'.cell? ⟨w.heap.size, 1, none⟩ = some (.slice la ls.length lc) ∧ w'.cell? ⟨w.heap.size, 2, none⟩ = some (.slice ga gs.length gc) ∧ w'.cell? ⟨w.heap.size, 3, none⟩ = some (.slice oa os.length oc) ∧ w'.cell? ⟨b, off + k, none⟩ = some (.int .i64 (X : Int))) (first | (simp [go_sem, q0, q1, q2, q3, hcy]; done) | (exact keep_box b5 hz hbz q0 q1 q2 q3 hcy)) (first | (go_at_call 53; refine co.mono ?_; rintro e w5 ⟨rfl, b5⟩) | fail)
            have b5' : Below wr.heap.size wr w5 := below_of_drew b5
            obtain ⟨s0, s1, s2, s3, s4⟩ := keep_box b5' hz hbz q0 q1 q2 q3 hcy
            have own5 := own_keeps hown (fun q hq => b5'.block q (hown.lt q hq).2)
            have z5 : w.heap.size < w5.heap.size := Nat.lt_of_lt_of_le hz b5'.size
            have bel5 : Below w.heap.size w w5 := hbel.trans (b5'.mono (by omega))
            clear q0 q1 q2 q3 hcy hown hLr hGr hOr co b5 b5'
            go_wp2_with (first | (at_builtin; refine wpList_append_lies _ rfl (.tmp 60) (.tmp 62) 32 rfl (w.heap.size + 1) 3 i0 (.int .i64 0) 1 8 Tryz.underlying32 hi0 hz0 hz1 hz2 rfl (by omega) _ _ _ rfl (own5.alloc _) ⟨w5.heap.size, 0, none⟩ 1 1 [.int .i64 OX] rfl rfl (cell_one_new _ _ _) (by simp; rfl) (by omega) (by unfold maxLen; omega) (by omega) (by simp; omega) _ rfl ?_) | fail)
            intro g' cap' w6 own6 hgrow hat hlt6
            have far : ∀ c o, c ≤ w.heap.size → c < w5.heap.size → w6.cell? ⟨c, o, none⟩ = w5.cell? ⟨c, o, none⟩ := fun c o hc1 hc2 => by
              rw [hgrow.cell_far ⟨c, o, none⟩ (by show c < (w5.alloc _).heap.size; simp; omega) (fun e => by have := (own5.lt c e.symm).1; omega), World.cell?_alloc_past _ _ _ hc2]
            have t0 := (far _ 0 (Nat.le_refl _) z5).trans s0
            have t1 := (far _ 1 (Nat.le_refl _) z5).trans s1
            have t2 := (far _ 2 (Nat.le_refl _) z5).trans s2
            have t3 := (far _ 3 (Nat.le_refl _) z5).trans s3
            have hb5 : b < w5.heap.size := Nat.lt_of_lt_of_le hlt bel5.size
            have t4 := (far b (off + k) (by omega) hb5).trans s4
            have bel6 : Below w.heap.size w w6 := (bel5.alloc (by omega) _).grown hgrow (by simp; omega) (fun q hq => by have := (own5.lt q hq).1; omega)
            have z6 : w.heap.size < w6.heap.size := Nat.lt_of_lt_of_le z5 (Nat.le_trans (by simp) hgrow.size)
            have hb6 : b < w6.heap.size := Nat.lt_of_lt_of_le hlt bel6.size
            have cb := behind_any n S X la ga lc gc (.slice oa os.length oc) ls gs w6.drew hn4 hl4 hg30 hS16 hX16 ((hL.below bel6).below (Below.refl _ _).drew) ((hG.below bel6).below (Below.refl _ _).drew) hokg hnext
            rw [← HNX.out] at cb
            clear s0 s1 s2 s3 s4 own5 hgrow hat far bel5 z5 hb5
            go_wp2
            go_region_held3 (fun w' => w'.cell? ⟨w.heap.size, 0, none⟩ = some (.int .i64 n) ∧ w'.cell? ⟨w.heap.size, 1, none⟩ = some (.slice la ls.length lc) ∧ w'.cell? ⟨w.heap.size, 2, none⟩ = some (.slice ga gs.length gc) ∧ w'.cell? ⟨w.heap.size, 3, none⟩ = some (.slice oa os.length oc) ∧ w'.cell? ⟨b, off + k, none⟩ = some (.int .i64 (X : Int))) (first | (simp [go_sem, t0, t1, t2, t3, t4]; done) | (exact keep_box b7 z6 hb6 t0 t1 t2 t3 t4)) (first | (go_at_call 54; refine cb.mono ?_; rintro e w7 ⟨rfl, b7⟩) | fail)
            have b7' : Below w6.heap.size w6 w7 := below_of_drew b7
            obtain ⟨s0, s1, s2, s3, s4⟩ := keep_box b7' z6 hb6 t0 t1 t2 t3 t4
            have own7 := own_keeps own6 (fun q hq => b7'.block q (own6.lt q hq).2)
            clear t0 t1 t2 t3 t4 own6 cb b7
            go_wp2
            go_roundw
            case rel => exact ⟨k + 1, by omega, by go_num, by rw [HNX.out, HN.out], by rw [outsUp_succ, ivals_snoc, ← HO.out, ← HOX.out]; exact own7, s0, s1, s2, s3, Nat.lt_of_lt_of_le z6 b7'.size, bel6.trans (b7'.mono (by omega))⟩
            case measure => simp [intOf]; omega
          · obtain rfl : k = ins.length := by omega
            go_wp2
            go_ret2
            exact ⟨fun h => (by rw [hin] at h; cases h), fun _ => ⟨_, rfl, hown.lower (by omega), hbel⟩⟩
      · go_wp2
        go_ret2
        exact ⟨fun _ => ⟨rfl, bel2⟩, fun h => by rw [HUP.out] at h; cases h⟩

end Go.Proofs.YtgpaajdfkekjiaaGreatDoor
