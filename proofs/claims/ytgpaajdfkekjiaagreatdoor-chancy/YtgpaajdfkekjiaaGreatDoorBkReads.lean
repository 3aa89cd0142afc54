/-
  The book's reads: over a book of lists that bear their marks, it answers true and writes nothing. Written by wip/mk_bkreads.py.
-/
import Derived.Test.YtgpaajdfkekjiaaGreatDoorBookNew
import Derived.Test.YtgpaajdfkekjiaaGreatDoorFltB
namespace Go.Proofs.YtgpaajdfkekjiaaGreatDoor
open Go.RowKit

theorem order_self {f : Ieee.Format} {x : Nat} (h : (f.read x).isNaN = false) : f.order x x = some .eq := by
  unfold Ieee.Format.order
  cases hd : f.read x with
  | number s m e => simp [Ieee.Datum.order]
  | infinity s => simp [Ieee.Datum.order]
  | nan s t => rw [hd] at h; simp [Ieee.Datum.isNaN] at h
theorem read_word_notNaN (f : Ieee.Format) (neg : Bool) {r : Nat} (hr : r ≤ f.infRung) : (f.read (f.word neg r)).isNaN = false := by
  have hlt := f.infRung_lt
  have hmod : f.word neg r % f.signWeight = r := by
    unfold Ieee.Format.word
    cases neg
    · simp only [Bool.false_eq_true, if_false]; exact Nat.mod_eq_of_lt (by omega)
    · simp only [if_true, Nat.add_mod_left]; exact Nat.mod_eq_of_lt (by omega)
  unfold Ieee.Format.read
  simp only [hmod]
  split
  · rfl
  · split
    · rfl
    · split
      · rfl
      · omega
theorem nearest_notNaN (f : Ieee.Format) (neg : Bool) (m : Nat) (p : Int) : (f.read (f.nearest neg m p)).isNaN = false := by
  unfold Ieee.Format.nearest
  split
  · exact read_word_notNaN f neg (Nat.zero_le _)
  · exact read_word_notNaN f neg (Nat.min_le_right _ _)
theorem floatOfInt_same (n : Int) : Ieee.double.order (floatOfInt .f64 n) (floatOfInt .f64 n) = some .eq := order_self (nearest_notNaN _ _ _ _)

theorem float_same (n : Int) : Value.bool (FloatKind.f64.format.order (floatOfInt .f64 n) (floatOfInt .f64 n) == some .eq) = .bool true := by
  rw [show FloatKind.f64.format.order (floatOfInt .f64 n) (floatOfInt .f64 n) = some .eq from floatOfInt_same n]; rfl
/-- What a kind's lists hold. -/
theorem Slot.look {R : Nat → Nat} {w : World} {P c : Nat} {T : TypeId} {sz : Nat} {mk : Nat → Nat → Value} {hv : Value} {es : List Entry} (h : Slot R w P c T sz mk hv es) {j : Nat} (hj : j < es.length) {ha : Option Addr} {hc n : Nat} (hv' : hv = .slice ha n hc) :
    ∃ q ea el ec, ha = some ⟨q, 0, none⟩ ∧ w.cell? ⟨q, j, none⟩ = some (.slice ea el ec) ∧ el ≤ 1000 ∧ (el = 0 ∨ ∃ b, ea = some ⟨b, 0, none⟩ ∧ ∀ i, i < el * sz → w.cell? ⟨b, i, none⟩ = some (mk (j / 4) i)) := by
  have own := h.own
  obtain ⟨q, cap, hq, _, hlt⟩ := own.form (by omega)
  have hcj : w.cell? ⟨q, j, none⟩ = some (es[j].val) := by
    rw [hq] at own
    rw [own.cellAt j (by omega)]; simp [hj]
  obtain ⟨l1, gd⟩ := h.good j hj
  rw [hv'] at hq
  simp only [Value.slice.injEq] at hq
  refine ⟨q, es[j].a, es[j].len, es[j].cap, hq.1, hcj, l1, ?_⟩
  rcases gd with h0 | ⟨b, hb, _, _, hcell⟩
  · exact .inl h0
  · exact .inr ⟨b, hb, hcell⟩
theorem Slot.form {R : Nat → Nat} {w : World} {P c : Nat} {T : TypeId} {sz : Nat} {mk : Nat → Nat → Value} {hv : Value} {es : List Entry} (h : Slot R w P c T sz mk hv es) : ∃ ha hc, hv = .slice ha es.length hc := by
  rcases h.own.2 with ⟨h, h0⟩ | ⟨g, cap, cur, h, _⟩
  · exact ⟨none, 0, by rw [h, h0]⟩
  · exact ⟨_, _, h⟩

theorem mkP_even (j m : Nat) : mkP j (m * 2) = .int .i64 (-1 - (j : Int)) := by unfold mkP; rw [if_neg (by omega)]
theorem mkP_odd (j m : Nat) : mkP j (m * 2 + 1) = .int .i64 0 := by unfold mkP; rw [if_pos (by omega)]

theorem cellB {w w' : World} (h : Below w.heap.size w w') {a : Addr} {v : Value} (hc : w.cell? a = some v) : w'.cell? a = some v := (h.cell (p := a) (block_lt_of_cell hc)).trans hc

set_option maxHeartbeats 2000000 in
set_option maxRecDepth 100000 in
theorem reads_all (R : Nat → Nat) (P N : Nat) (v : Nat → Value) (es : Nat → List Entry) (w : World) (hB : Book2 R w P v es N) (hN : N ≤ 700000000000) :
    Calls Tryz.prog 21 #[.pointer (some ⟨P, 0, none⟩)] w fun e w' => e = .returned (.bool true) ∧ Below w.heap.size w w' := by
  obtain ⟨ha0, hc0, e0⟩ := (hB.slot 0 (by omega)).form
  have HC0 := hidK ((hB.slot 0 (by omega)).cell)
  rw [e0] at HC0
  have HL0 := hidK (fun j (hj : j < (es 0).length) => (hB.slot 0 (by omega)).look hj e0)
  have hn0 : (es 0).length ≤ 2800000000000 := by obtain ⟨j, h1, h2⟩ := hB.len 0 (by omega); omega
  obtain ⟨n0, hN0⟩ : ∃ n, n = (es 0).length := ⟨_, rfl⟩
  rw [← hN0] at HC0 hn0
  simp only [← hN0] at HL0
  clear hN0 e0
  obtain ⟨ha1, hc1, e1⟩ := (hB.slot 1 (by omega)).form
  have HC1 := hidK ((hB.slot 1 (by omega)).cell)
  rw [e1] at HC1
  have HL1 := hidK (fun j (hj : j < (es 1).length) => (hB.slot 1 (by omega)).look hj e1)
  have hn1 : (es 1).length ≤ 2800000000000 := by obtain ⟨j, h1, h2⟩ := hB.len 1 (by omega); omega
  obtain ⟨n1, hN1⟩ : ∃ n, n = (es 1).length := ⟨_, rfl⟩
  rw [← hN1] at HC1 hn1
  simp only [← hN1] at HL1
  clear hN1 e1
  obtain ⟨ha2, hc2, e2⟩ := (hB.slot 2 (by omega)).form
  have HC2 := hidK ((hB.slot 2 (by omega)).cell)
  rw [e2] at HC2
  have HL2 := hidK (fun j (hj : j < (es 2).length) => (hB.slot 2 (by omega)).look hj e2)
  have hn2 : (es 2).length ≤ 2800000000000 := by obtain ⟨j, h1, h2⟩ := hB.len 2 (by omega); omega
  obtain ⟨n2, hN2⟩ : ∃ n, n = (es 2).length := ⟨_, rfl⟩
  rw [← hN2] at HC2 hn2
  simp only [← hN2] at HL2
  clear hN2 e2
  obtain ⟨ha3, hc3, e3⟩ := (hB.slot 3 (by omega)).form
  have HC3 := hidK ((hB.slot 3 (by omega)).cell)
  rw [e3] at HC3
  have HL3 := hidK (fun j (hj : j < (es 3).length) => (hB.slot 3 (by omega)).look hj e3)
  have hn3 : (es 3).length ≤ 2800000000000 := by obtain ⟨j, h1, h2⟩ := hB.len 3 (by omega); omega
  obtain ⟨n3, hN3⟩ : ∃ n, n = (es 3).length := ⟨_, rfl⟩
  rw [← hN3] at HC3 hn3
  simp only [← hN3] at HL3
  clear hN3 e3
  clear hB
  go_enter Tryz.func21, Tryz.ntmps21
  go_wp2
  go_loopw [3, 4, 5] (fun ok k _ w0 => ∃ j : Nat, j ≤ n0 ∧ k = .int .i64 j ∧ ok = .bool true ∧ Below w.heap.size w w0) (fun _ k _ _ => n0 - (intOf k).toNat)
  case atStart => exact ⟨0, Nat.zero_le _, rfl, rfl, Below.refl _ _⟩
  case round =>
    obtain ⟨k, hk, rfl, rfl, hbel0⟩ := hrel
    have cP := cellB hbel0 HC0.out
    by_cases hk2 : k < n0
    · obtain ⟨q, ea, el, ec, ha, hcj0, l1000, gd⟩ := HL0.out k hk2
      subst ha
      have hk3 : (k : Int) < (n0 : Int) := by omega
      have hcj := cellB hbel0 hcj0
      have HCJ := hidK hcj0
      clear hcj0
      go_wp2
      go_loopw [3, 5] (fun ok i wi => ∃ m : Nat, m ≤ el ∧ i = .int .i64 m ∧ ok = .bool true ∧ Below w.heap.size w wi) (fun _ i _ => el - (intOf i).toNat)
      case atStart => exact ⟨0, Nat.zero_le _, rfl, rfl, hbel0⟩
      case round =>
        clear cP hcj
        obtain ⟨m, hm, rfl, rfl, hb2⟩ := hrel
        have cP := cellB hb2 HC0.out
        have hcj := cellB hb2 HCJ.out
        by_cases hm2 : m < el
        · rcases gd with h0 | ⟨b, hb, hcells⟩
          · omega
          · subst hb
            have hcm := cellB hb2 (hcells m (by show m < el * 1; omega))
            rw [show mkOf 0 (k / 4) m = .int .i64 (-1 - ((k / 4 : Nat) : Int)) from rfl] at hcm
            clear hcells
            go_wp2
            go_roundw
            case rel => exact ⟨m + 1, by omega, by go_num, rfl, hb2⟩
            case measure => simp [intOf]; omega
        · clear gd
          go_wp2
          go_roundw
          case rel => exact ⟨k + 1, by omega, by go_num, rfl, hb2⟩
          case measure => simp [intOf]; omega
    · go_wp2
      go_loopw [3, 6, 7] (fun ok k _ w1 => ∃ j : Nat, j ≤ n1 ∧ k = .int .i64 j ∧ ok = .bool true ∧ Below w.heap.size w w1) (fun _ k _ _ => n1 - (intOf k).toNat)
      case atStart => exact ⟨0, Nat.zero_le _, rfl, rfl, hbel0⟩
      case round =>
        obtain ⟨k, hk, rfl, rfl, hbel1⟩ := hrel
        have cP := cellB hbel1 HC1.out
        by_cases hk2 : k < n1
        · obtain ⟨q, ea, el, ec, ha, hcj0, l1000, gd⟩ := HL1.out k hk2
          subst ha
          have hk3 : (k : Int) < (n1 : Int) := by omega
          have hcj := cellB hbel1 hcj0
          have HCJ := hidK hcj0
          clear hcj0
          go_wp2
          go_loopw [3, 7] (fun ok i wi => ∃ m : Nat, m ≤ el ∧ i = .int .i64 m ∧ ok = .bool true ∧ Below w.heap.size w wi) (fun _ i _ => el - (intOf i).toNat)
          case atStart => exact ⟨0, Nat.zero_le _, rfl, rfl, hbel1⟩
          case round =>
            clear cP hcj
            obtain ⟨m, hm, rfl, rfl, hb2⟩ := hrel
            have cP := cellB hb2 HC1.out
            have hcj := cellB hb2 HCJ.out
            by_cases hm2 : m < el
            · rcases gd with h0 | ⟨b, hb, hcells⟩
              · omega
              · subst hb
                have hcm := cellB hb2 (hcells m (by show m < el * 1; omega))
                rw [show mkOf 1 (k / 4) m = .float .f64 (floatOfInt .f64 (-1 - ((k / 4 : Nat) : Int))) from rfl] at hcm
                clear hcells
                go_wp2
                go_roundw
                case rel => exact ⟨m + 1, by omega, by go_num, float_same _, hb2⟩
                case measure => simp [intOf]; omega
            · clear gd
              go_wp2
              go_roundw
              case rel => exact ⟨k + 1, by omega, by go_num, rfl, hb2⟩
              case measure => simp [intOf]; omega
        · go_wp2
          go_loopw [3, 8, 9] (fun ok k _ w2 => ∃ j : Nat, j ≤ n2 ∧ k = .int .i64 j ∧ ok = .bool true ∧ Below w.heap.size w w2) (fun _ k _ _ => n2 - (intOf k).toNat)
          case atStart => exact ⟨0, Nat.zero_le _, rfl, rfl, hbel1⟩
          case round =>
            obtain ⟨k, hk, rfl, rfl, hbel2⟩ := hrel
            have cP := cellB hbel2 HC2.out
            by_cases hk2 : k < n2
            · obtain ⟨q, ea, el, ec, ha, hcj0, l1000, gd⟩ := HL2.out k hk2
              subst ha
              have hk3 : (k : Int) < (n2 : Int) := by omega
              have hcj := cellB hbel2 hcj0
              have HCJ := hidK hcj0
              clear hcj0
              go_wp2
              go_loopw [3, 9] (fun ok i wi => ∃ m : Nat, m ≤ el ∧ i = .int .i64 m ∧ ok = .bool true ∧ Below w.heap.size w wi) (fun _ i _ => el - (intOf i).toNat)
              case atStart => exact ⟨0, Nat.zero_le _, rfl, rfl, hbel2⟩
              case round =>
                clear cP hcj
                obtain ⟨m, hm, rfl, rfl, hb2⟩ := hrel
                have cP := cellB hb2 HC2.out
                have hcj := cellB hb2 HCJ.out
                by_cases hm2 : m < el
                · rcases gd with h0 | ⟨b, hb, hcells⟩
                  · omega
                  · subst hb
                    have hcm0 := cellB hb2 (hcells (m * 2) (by show m * 2 < el * 2; omega))
                    have hcm1 := cellB hb2 (hcells (m * 2 + 1) (by show m * 2 + 1 < el * 2; omega))
                    rw [show mkOf 2 = mkP from rfl, mkP_even] at hcm0
                    rw [show mkOf 2 = mkP from rfl, mkP_odd] at hcm1
                    clear hcells
                    go_wp2
                    go_roundw
                    case rel => exact ⟨m + 1, by omega, by go_num, rfl, hb2⟩
                    case measure => simp [intOf]; omega
                · clear gd
                  go_wp2
                  go_roundw
                  case rel => exact ⟨k + 1, by omega, by go_num, rfl, hb2⟩
                  case measure => simp [intOf]; omega
            · go_wp2
              go_loopw [3, 10, 11] (fun ok k _ w3 => ∃ j : Nat, j ≤ n3 ∧ k = .int .i64 j ∧ ok = .bool true ∧ Below w.heap.size w w3) (fun _ k _ _ => n3 - (intOf k).toNat)
              case atStart => exact ⟨0, Nat.zero_le _, rfl, rfl, hbel2⟩
              case round =>
                obtain ⟨k, hk, rfl, rfl, hbel3⟩ := hrel
                have cP := cellB hbel3 HC3.out
                by_cases hk2 : k < n3
                · obtain ⟨q, ea, el, ec, ha, hcj0, l1000, gd⟩ := HL3.out k hk2
                  subst ha
                  have hk3 : (k : Int) < (n3 : Int) := by omega
                  have hcj := cellB hbel3 hcj0
                  have HCJ := hidK hcj0
                  clear hcj0
                  go_wp2
                  go_loopw [3, 11] (fun ok i wi => ∃ m : Nat, m ≤ el ∧ i = .int .i64 m ∧ ok = .bool true ∧ Below w.heap.size w wi) (fun _ i _ => el - (intOf i).toNat)
                  case atStart => exact ⟨0, Nat.zero_le _, rfl, rfl, hbel3⟩
                  case round =>
                    clear cP hcj
                    obtain ⟨m, hm, rfl, rfl, hb2⟩ := hrel
                    have cP := cellB hb2 HC3.out
                    have hcj := cellB hb2 HCJ.out
                    by_cases hm2 : m < el
                    · rcases gd with h0 | ⟨b, hb, hcells⟩
                      · omega
                      · subst hb
                        have hcm0 := cellB hb2 (hcells (m * 2) (by show m * 2 < el * 2; omega))
                        have hcm1 := cellB hb2 (hcells (m * 2 + 1) (by show m * 2 + 1 < el * 2; omega))
                        rw [show mkOf 3 = mkP from rfl, mkP_even] at hcm0
                        rw [show mkOf 3 = mkP from rfl, mkP_odd] at hcm1
                        clear hcells
                        go_wp2
                        go_roundw
                        case rel => exact ⟨m + 1, by omega, by go_num, rfl, hb2⟩
                        case measure => simp [intOf]; omega
                    · clear gd
                      go_wp2
                      go_roundw
                      case rel => exact ⟨k + 1, by omega, by go_num, rfl, hb2⟩
                      case measure => simp [intOf]; omega
                · go_wp2
                  go_ret
                  exact ⟨rfl, hbel3⟩

end Go.Proofs.YtgpaajdfkekjiaaGreatDoor
