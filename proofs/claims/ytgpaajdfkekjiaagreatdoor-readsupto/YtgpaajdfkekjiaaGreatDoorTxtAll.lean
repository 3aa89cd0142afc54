/-
  The writers of strings.Builder, by the library's contracts, laid at this program's numbers by hand (the shelf's command finds no number for two types that no body names any longer).
  A line of numbers below a hundred: what text.writeLine writes behind a builder's bytes.
  The text of a right circuit, line by line, in plain bytes.
  The plain reading undoes the writing: the text of a right circuit is read as it, and no other text is.
-/
import Derived.Shelf.Strings.BuilderK
import Derived.Shelf.Strconv.Itoa1
import Derived.WalkKit
import Derived.Test.YtgpaajdfkekjiaaGreatDoorProg
import Derived.Test.YtgpaajdfkekjiaaGreatDoorBase
import Derived.Test.YtgpaajdfkekjiaaGreatDoorPlainRd
import Derived.Test.YtgpaajdfkekjiaaGreatDoorRight2
namespace Go.Proofs.YtgpaajdfkekjiaaGreatDoor
open Go.Shelf

def buildRen : Go.Shelf.Ren := ⟨fun | 166 => 66 | 167 => 92 | 169 => 69 | 240 => 91 | 276 => 111 | n => n,
  fun | 0 => 0 | 3 => 3 | 4 => 4 | 5 => 5 | 9 => 9 | 20 => 20 | 37 => 123 | 70 => 122 | 72 => 125 | 75 => 127 | 80 => 131 | 127 => 158 | 164 => 186 | n => n, fun | n => n⟩

theorem layWriteByte : Go.Proofs.Lays.n167 Tryz.prog buildRen := {
  mixed := by kernel_rfl
  f167 := Tryz.func92.trans (congrArg some (by kernel_rfl))
  f240 := Tryz.func91.trans (congrArg some (by kernel_rfl))
  f276 := Tryz.func111.trans (congrArg some (by kernel_rfl))
  t0 := Tryz.underlying0
  a0 := Tryz.isAgg0
  z0 := Tryz.sizeOf0
  v0 := Tryz.zeroValue0
  t4 := Tryz.underlying4
  a4 := Tryz.isAgg4
  z4 := Tryz.sizeOf4
  v4 := Tryz.zeroValue4
  t5 := Tryz.underlying5
  a5 := Tryz.isAgg5
  z5 := Tryz.sizeOf5
  v5 := Tryz.zeroValue5
  t9 := Tryz.underlying9
  a9 := Tryz.isAgg9
  z9 := Tryz.sizeOf9
  v9 := Tryz.zeroValue9
  t20 := Tryz.underlying20
  a20 := Tryz.isAgg20
  z20 := Tryz.sizeOf20
  v20 := Tryz.zeroValue20
  t37 := Tryz.underlying123
  a37 := Tryz.isAgg123
  z37 := Tryz.sizeOf123
  v37 := Tryz.zeroValue123
  t70 := Tryz.underlying122
  a70 := Tryz.isAgg122
  z70 := Tryz.sizeOf122
  v70 := Tryz.zeroValue122
  t72 := Tryz.underlying125
  a72 := Tryz.isAgg125
  z72 := Tryz.sizeOf125
  v72 := Tryz.zeroValue125
  t75 := Tryz.underlying127
  a75 := Tryz.isAgg127
  z75 := Tryz.sizeOf127
  v75 := Tryz.zeroValue127
  t164 := Tryz.underlying186
  a164 := Tryz.isAgg186
  z164 := Tryz.sizeOf186
  v164 := Tryz.zeroValue186 }

theorem layWriteString : Go.Proofs.Lays.n166 Tryz.prog buildRen := {
  mixed := by kernel_rfl
  f166 := Tryz.func66.trans (congrArg some (by kernel_rfl))
  f240 := Tryz.func91.trans (congrArg some (by kernel_rfl))
  f276 := Tryz.func111.trans (congrArg some (by kernel_rfl))
  t0 := Tryz.underlying0
  a0 := Tryz.isAgg0
  z0 := Tryz.sizeOf0
  v0 := Tryz.zeroValue0
  t3 := Tryz.underlying3
  a3 := Tryz.isAgg3
  z3 := Tryz.sizeOf3
  v3 := Tryz.zeroValue3
  t4 := Tryz.underlying4
  a4 := Tryz.isAgg4
  z4 := Tryz.sizeOf4
  v4 := Tryz.zeroValue4
  t9 := Tryz.underlying9
  a9 := Tryz.isAgg9
  z9 := Tryz.sizeOf9
  v9 := Tryz.zeroValue9
  t20 := Tryz.underlying20
  a20 := Tryz.isAgg20
  z20 := Tryz.sizeOf20
  v20 := Tryz.zeroValue20
  t37 := Tryz.underlying123
  a37 := Tryz.isAgg123
  z37 := Tryz.sizeOf123
  v37 := Tryz.zeroValue123
  t70 := Tryz.underlying122
  a70 := Tryz.isAgg122
  z70 := Tryz.sizeOf122
  v70 := Tryz.zeroValue122
  t72 := Tryz.underlying125
  a72 := Tryz.isAgg125
  z72 := Tryz.sizeOf125
  v72 := Tryz.zeroValue125
  t75 := Tryz.underlying127
  a75 := Tryz.isAgg127
  z75 := Tryz.sizeOf127
  v75 := Tryz.zeroValue127
  t164 := Tryz.underlying186
  a164 := Tryz.isAgg186
  z164 := Tryz.sizeOf186
  v164 := Tryz.zeroValue186 }

theorem layString : Go.Proofs.Lays.n169 Tryz.prog buildRen := {
  mixed := by kernel_rfl
  f169 := Tryz.func69.trans (congrArg some (by kernel_rfl))
  t0 := Tryz.underlying0
  a0 := Tryz.isAgg0
  z0 := Tryz.sizeOf0
  v0 := Tryz.zeroValue0
  t3 := Tryz.underlying3
  a3 := Tryz.isAgg3
  z3 := Tryz.sizeOf3
  v3 := Tryz.zeroValue3
  t9 := Tryz.underlying9
  a9 := Tryz.isAgg9
  z9 := Tryz.sizeOf9
  v9 := Tryz.zeroValue9
  t37 := Tryz.underlying123
  a37 := Tryz.isAgg123
  z37 := Tryz.sizeOf123
  v37 := Tryz.zeroValue123
  t70 := Tryz.underlying122
  a70 := Tryz.isAgg122
  z70 := Tryz.sizeOf122
  v70 := Tryz.zeroValue122
  t72 := Tryz.underlying125
  a72 := Tryz.isAgg125
  z72 := Tryz.sizeOf125
  v72 := Tryz.zeroValue125
  t127 := Tryz.underlying158
  a127 := Tryz.isAgg158
  z127 := Tryz.sizeOf158
  v127 := Tryz.zeroValue158 }

theorem buildExtra : Builder.Extra Tryz.prog buildRen := {
  sizeBuilder := by kernel_rfl
  liesBuilder := by kernel_rfl
  t5 := Tryz.underlying5
  a5 := Tryz.isAgg5
  z5 := Tryz.sizeOf5
  v5 := Tryz.zeroValue5
  infoByte := by kernel_rfl
  cellsByte := by kernel_rfl
  sizeByte := by kernel_rfl
  neB5 := by decide }

open Go.RowKit in
theorem writeByte (B b : Nat) (l : List UInt8) (c : Int) (w : World) (h : Lib.IsBuilderF 125 5 B b (Lib.byteCells l) w) (hlen : l.length + 1 ≤ 140737488355328) (hBw : B ≤ w.heap.size) (u : UInt8) (hu : c = (u.toNat : Int)) :
    Calls Tryz.prog 92 #[.pointer (some ⟨b, 0, none⟩), .int .u8 c] w fun e w' => e = .returned .nilIface ∧ Lib.IsBuilderF 125 5 B b (Lib.byteCells (l ++ [u])) w' ∧ Below B w w' ∧ Lib.OthersKept 5 (some b) w w' := by
  refine (Any.Builder_WriteByte_k layWriteByte buildExtra B b _ c w h (by rw [Lib.byteCells_length]; exact hlen) hBw).mono ?_
  rintro e w' ⟨rfl, h1, b1, k1⟩
  subst hu
  exact ⟨rfl, by rw [Lib.byteCells_append]; exact Or.inr h1, b1, k1⟩

open Go.RowKit in
theorem writeString (B b : Nat) (l : List UInt8) (s : List UInt8) (w : World) (h : Lib.IsBuilderF 125 5 B b (Lib.byteCells l) w) (hlen : l.length + s.length ≤ 140737488355328) (hBw : B ≤ w.heap.size) :
    Calls Tryz.prog 66 #[.pointer (some ⟨b, 0, none⟩), .string ⟨s.toArray⟩] w fun e w' => e = .returned (.tuple #[.int .i64 s.length, .nilIface]) ∧ Lib.IsBuilderF 125 5 B b (Lib.byteCells (l ++ s)) w' ∧ Below B w w' ∧ Lib.OthersKept 5 (some b) w w' := by
  refine (Any.Builder_WriteString_k layWriteString buildExtra B b _ ⟨s.toArray⟩ w h (by rw [Lib.byteCells_length]; exact hlen) hBw).mono ?_
  rintro e w' ⟨rfl, h1, b1, k1⟩
  exact ⟨rfl, by rw [Lib.byteCells_append]; exact Or.inr h1, b1, k1⟩

open Go.RowKit in
theorem builderString (B b : Nat) (l : List UInt8) (w : World) (h : Lib.IsBuilderF 125 5 B b (Lib.byteCells l) w) (hBw : B ≤ w.heap.size) :
    Calls Tryz.prog 69 #[.pointer (some ⟨b, 0, none⟩)] w fun e w' => e = .returned (.string ⟨l.toArray⟩) ∧ Below B w w' := by
  refine (Any.Builder_String_any_k layString buildExtra B b l w h hBw).mono ?_
  rintro e w' ⟨rfl, _, b1, _⟩
  exact ⟨rfl, b1⟩

def smallRen : Go.Shelf.Ren := ⟨fun | 283 => 129 | n => n, fun | 3 => 3 | 9 => 9 | 4 => 4 | n => n, fun | n => n⟩
theorem laySmall : Go.Proofs.Lays.n283 Tryz.prog smallRen := {
  mixed := by kernel_rfl
  f283 := Tryz.func129.trans (congrArg some (by kernel_rfl))
  t3 := Tryz.underlying3
  a3 := Tryz.isAgg3
  z3 := Tryz.sizeOf3
  v3 := Tryz.zeroValue3
  t4 := Tryz.underlying4
  a4 := Tryz.isAgg4
  z4 := Tryz.sizeOf4
  v4 := Tryz.zeroValue4
  t9 := Tryz.underlying9
  a9 := Tryz.isAgg9
  z9 := Tryz.sizeOf9
  v9 := Tryz.zeroValue9 }
theorem small_is (n : Nat) (h : n < 100) (w : World) :
    Calls Tryz.prog 129 #[.int .i64 (n : Int)] w fun e w' => e = .returned (.string ⟨(Lib.decDigits n).toArray⟩) ∧ w' = w := Any.internal_strconv_small laySmall n h w

set_option maxHeartbeats 1000000 in
set_option maxRecDepth 100000 in
theorem formatInt_is (n : Nat) (h : n < 100) (w : World) :
    Calls Tryz.prog 120 #[.int .i64 (n : Int), .int .i64 10] w fun e w' => e = .returned (.string ⟨(Lib.decDigits n).toArray⟩) ∧ w' = w := by
  have h1 : (n : Int) < 100 := by omega
  have h0 : (0 : Int) ≤ n := by omega
  go_enter Tryz.func120, Tryz.ntmps120
  go_wp2_with (go_at_call 129; refine (small_is n h _).mono ?_; rintro e w1 ⟨rfl, hw1⟩; have hw1 := hw1.symm; subst hw1)
  go_ret
  exact ⟨rfl, rfl⟩

set_option maxHeartbeats 1000000 in
set_option maxRecDepth 100000 in
theorem innerItoa_is (n : Nat) (h : n < 100) (w : World) :
    Calls Tryz.prog 112 #[.int .i64 (n : Int)] w fun e w' => e = .returned (.string ⟨(Lib.decDigits n).toArray⟩) ∧ w' = w := by
  go_enter Tryz.func112, Tryz.ntmps112
  go_wp2_with (go_at_call 120; refine (formatInt_is n h _).mono ?_; rintro e w1 ⟨rfl, hw1⟩; have hw1 := hw1.symm; subst hw1)
  go_ret
  exact ⟨rfl, rfl⟩

set_option maxHeartbeats 1000000 in
set_option maxRecDepth 100000 in
theorem itoa_is (n : Nat) (h : n < 100) (w : World) :
    Calls Tryz.prog 93 #[.int .i64 (n : Int)] w fun e w' => e = .returned (.string ⟨(Lib.decDigits n).toArray⟩) ∧ w' = w := by
  go_enter Tryz.func93, Tryz.ntmps93
  go_wp2_with (go_at_call 112; refine (innerItoa_is n h _).mono ?_; rintro e w1 ⟨rfl, hw1⟩; have hw1 := hw1.symm; subst hw1)
  go_ret
  exact ⟨rfl, rfl⟩

end Go.Proofs.YtgpaajdfkekjiaaGreatDoor

namespace Go.Proofs.YtgpaajdfkekjiaaGreatDoor
open Go.RowKit

theorem ivals_cell {w : World} {nb : Nat} {ns : List Nat} {fz : Nat × Nat} {T : TypeId} (hn : w.heap[nb]? = some (.cells (ivals ns).toArray T fz)) (k : Nat) (hk : k < ns.length) : w.cell? ⟨nb, k, none⟩ = some (.int .i64 (ns.getD k 0 : Nat)) := by
  rw [Lib.cell_of_heap hn]
  simp [ivals, hk]

set_option maxHeartbeats 1000000 in
set_option maxRecDepth 100000 in
theorem writeLine_any (B b nb : Nat) (acc : List UInt8) (ns : List Nat) (fz : Nat × Nat) (w : World) (hI : Lib.IsBuilderF 125 5 B b (Lib.byteCells acc) w) (hB : B ≤ w.heap.size)
    (hn : w.heap[nb]? = some (.cells (ivals ns).toArray 3 fz)) (hnb : nb ≠ b) (h100 : ∀ i, i < ns.length → ns.getD i 0 < 100) (h5 : ns.length ≤ 5) (ha : acc.length ≤ 100000) :
    Calls Tryz.prog 67 #[.pointer (some ⟨b, 0, none⟩), .slice (some ⟨nb, 0, none⟩) ns.length ns.length] w fun e w' =>
      e = .returned (.tuple #[]) ∧ Lib.IsBuilderF 125 5 B b (Lib.byteCells (acc ++ lineB ns)) w' ∧ Below B w w' ∧ Lib.OthersKept 5 (some b) w w' := by
  go_enter Tryz.func67, Tryz.ntmps67
  go_wp2
  go_loopw [4, 5, 8] (fun _ _ i wr => ∃ k : Nat, k ≤ ns.length ∧ i = .int .i64 k ∧ Lib.IsBuilderF 125 5 B b (Lib.byteCells (acc ++ numsTo ns k)) wr ∧ Below B w wr ∧ Lib.OthersKept 5 (some b) w wr)
    (fun _ _ i _ => ns.length - (intOf i).toNat)
  case atStart => exact ⟨0, Nat.zero_le _, rfl, by simpa [numsTo] using hI, Below.refl _ _, Lib.OthersKept.refl _ _ _⟩
  case round =>
    obtain ⟨k, hk, rfl, hI1, hbel, hoth⟩ := hrel
    have hBr : B ≤ wr.heap.size := Nat.le_trans hB hbel.size
    have hlen := numsTo_len ns k (fun i hi => h100 i (by omega))
    have hnr : wr.heap[nb]? = some (.cells (ivals ns).toArray 3 fz) := hoth nb _ hn (by simpa using hnb) (fun c fz' h => by simp at h)
    by_cases hk2 : k < ns.length
    · have hc := ivals_cell hnr k hk2
      obtain ⟨X, hX⟩ : ∃ X, X = ns.getD k 0 := ⟨_, rfl⟩
      have hX1 : X < 100 := by rw [hX]; exact h100 k hk2
      have hXl := dec_len X hX1
      rw [← hX] at hc
      by_cases hk0 : 0 < k
      · have HX : Hid (acc ++ numsTo ns (k + 1) = acc ++ numsTo ns k ++ [32] ++ Lib.decDigits X) := by unfold Hid; rw [numsTo_next ns k hk0, ← hX]; simp
        clear hX
        go_wp2_with (first | (go_at_call 92; refine (writeByte B b _ 32 _ hI1 (by simp; omega) hBr 32 rfl).mono ?_; rintro e w1 ⟨rfl, hI2, b2, o2⟩; have hB1 : B ≤ w1.heap.size := Nat.le_trans hBr b2.size) | (go_at_call 93; refine (itoa_is X hX1 _).mono ?_; rintro e w2 ⟨rfl, hw2⟩; have hw2 := hw2.symm; subst hw2) | (go_at_call 66; refine (writeString B b _ (Lib.decDigits X) _ hI2 (by simp; omega) hB1).mono ?_; rintro e w3 ⟨rfl, hI3, b3, o3⟩))
        go_roundw
        case rel => exact ⟨k + 1, by omega, by go_num, by rw [HX.out]; exact hI3, (hbel.trans b2).trans b3, (hoth.trans o2).trans o3⟩
        case measure => simp [intOf]; omega
      · obtain rfl : k = 0 := by omega
        have HX : Hid (acc ++ numsTo ns (0 + 1) = acc ++ numsTo ns 0 ++ Lib.decDigits X) := by unfold Hid; rw [numsTo_first ns, ← hX]; simp [numsTo]
        clear hX
        go_wp2_with (first | (go_at_call 93; refine (itoa_is X hX1 _).mono ?_; rintro e w2 ⟨rfl, hw2⟩; have hw2 := hw2.symm; subst hw2) | (go_at_call 66; refine (writeString B b _ (Lib.decDigits X) _ hI1 (by simp; omega) hBr).mono ?_; rintro e w3 ⟨rfl, hI3, b3, o3⟩))
        go_roundw
        case rel => exact ⟨0 + 1, by omega, by go_num, by rw [HX.out]; exact hI3, hbel.trans b3, hoth.trans o3⟩
        case measure => simp [intOf]; omega
    · obtain rfl : k = ns.length := by omega
      go_wp2_with (go_at_call 92; refine (writeByte B b _ 10 _ hI1 (by simp; omega) hBr 10 rfl).mono ?_; rintro e w1 ⟨rfl, hI2, b2, o2⟩)
      go_end0
      exact ⟨rfl, by rw [lineB, ← List.append_assoc]; exact hI2, hbel.trans b2, hoth.trans o2⟩

end Go.Proofs.YtgpaajdfkekjiaaGreatDoor

namespace Go.Proofs.YtgpaajdfkekjiaaGreatDoor
open Go.RowKit

def txtHead (n l g o : Nat) : List UInt8 := [97, 97, 103, 32] ++ lineB [n + l + g, n, l, o, g]
def txtIn : Nat → List UInt8
  | 0 => []
  | k + 1 => txtIn k ++ lineB [2 * k + 2]
def txtLatch (n : Nat) (ls : List (Int × Int)) : Nat → List UInt8
  | 0 => []
  | k + 1 => txtLatch n ls k ++ lineB [2 * (n + k) + 2, (ls.getD k (0, 0)).1.toNat, (ls.getD k (0, 0)).2.toNat]
def txtOut (os : List Int) : Nat → List UInt8
  | 0 => []
  | k + 1 => txtOut os k ++ lineB [(os.getD k 0).toNat]
def txtGate (m : Nat) (gs : List (Int × Int)) : Nat → List UInt8
  | 0 => []
  | k + 1 => txtGate m gs k ++ lineB [2 * (m + k) + 2, (gs.getD k (0, 0)).1.toNat, (gs.getD k (0, 0)).2.toNat]
def txt (n : Nat) (ls gs : List (Int × Int)) (os : List Int) : List UInt8 :=
  txtHead n ls.length gs.length os.length ++ txtIn n ++ txtLatch n ls ls.length ++ txtOut os os.length ++ txtGate (n + ls.length) gs gs.length

theorem lineB_len (ns : List Nat) (h : ∀ i, i < ns.length → ns.getD i 0 < 100) : (lineB ns).length ≤ 3 * ns.length + 1 := by
  have := numsTo_len ns ns.length h
  simp only [lineB, List.length_append, List.length_cons, List.length_nil]
  omega

theorem all1 {a : Nat} (ha : a < 100) : ∀ i, i < [a].length → [a].getD i 0 < 100 := fun i hi => by
  match i, hi with
  | 0, _ => exact ha
theorem all3 {a b c : Nat} (ha : a < 100) (hb : b < 100) (hc : c < 100) : ∀ i, i < [a, b, c].length → [a, b, c].getD i 0 < 100 := fun i hi => by
  match i, hi with
  | 0, _ => exact ha
  | 1, _ => exact hb
  | 2, _ => exact hc
theorem all5 {a b c d e : Nat} (ha : a < 100) (hb : b < 100) (hc : c < 100) (hd : d < 100) (he : e < 100) : ∀ i, i < [a, b, c, d, e].length → [a, b, c, d, e].getD i 0 < 100 := fun i hi => by
  match i, hi with
  | 0, _ => exact ha
  | 1, _ => exact hb
  | 2, _ => exact hc
  | 3, _ => exact hd
  | 4, _ => exact he

/-- The numbers of a right circuit, as naturals below a hundred. -/
structure Small (n : Nat) (ls gs : List (Int × Int)) (os : List Int) : Prop where
  n4 : n ≤ 4
  l4 : ls.length ≤ 4
  o4 : os.length ≤ 4
  g30 : gs.length ≤ 30
  l1 : ∀ i, i < ls.length → ((((ls.getD i (0, 0)).1.toNat : Nat) : Int) = (ls.getD i (0, 0)).1 ∧ (ls.getD i (0, 0)).1.toNat < 100)
  l2 : ∀ i, i < ls.length → ((((ls.getD i (0, 0)).2.toNat : Nat) : Int) = (ls.getD i (0, 0)).2 ∧ (ls.getD i (0, 0)).2.toNat < 100)
  o1 : ∀ i, i < os.length → ((((os.getD i 0).toNat : Nat) : Int) = os.getD i 0 ∧ (os.getD i 0).toNat < 100)
  g1 : ∀ i, i < gs.length → ((((gs.getD i (0, 0)).1.toNat : Nat) : Int) = (gs.getD i (0, 0)).1 ∧ (gs.getD i (0, 0)).1.toNat < 100)
  g2 : ∀ i, i < gs.length → ((((gs.getD i (0, 0)).2.toNat : Nat) : Int) = (gs.getD i (0, 0)).2 ∧ (gs.getD i (0, 0)).2.toNat < 100)

theorem small_of {n : Nat} {ls gs : List (Int × Int)} {os : List Int} (hr : rightB n ls gs os = true) : Small n ls gs os := by
  obtain ⟨⟨_, hn4, hl4, ho4, hg30⟩, hokl, hokg, hoko⟩ := rightB_pos hr
  refine ⟨by omega, hl4, ho4, hg30, fun i hi => ?_, fun i hi => ?_, fun i hi => ?_, fun i hi => ?_, fun i hi => ?_⟩
  · have h := hokl i hi
    simp only [latchOk, Bool.and_eq_true] at h
    have := inB_pos h.1
    omega
  · have h := hokl i hi
    simp only [latchOk, Bool.and_eq_true] at h
    have := inB_pos h.2
    omega
  · have := inB_pos (hoko i hi)
    omega
  · have h := hokg i hi
    simp only [gateOk, Bool.and_eq_true] at h
    have := inB_pos h.1
    omega
  · have h := hokg i hi
    simp only [gateOk, Bool.and_eq_true] at h
    have := inB_pos h.2
    omega

theorem txtHead_len {n : Nat} {ls gs : List (Int × Int)} {os : List Int} (s : Small n ls gs os) : (txtHead n ls.length gs.length os.length).length ≤ 20 := by
  have := lineB_len [n + ls.length + gs.length, n, ls.length, os.length, gs.length] (all5 (by have := s.n4; have := s.l4; have := s.g30; omega) (by have := s.n4; omega) (by have := s.l4; omega) (by have := s.o4; omega) (by have := s.g30; omega))
  simp only [txtHead, List.length_append, List.length_cons, List.length_nil] at this ⊢
  omega
theorem txtIn_len (k : Nat) (h : k ≤ 4) : (txtIn k).length ≤ 4 * k := by
  induction k with
  | zero => simp [txtIn]
  | succ k ih =>
    have h1 := ih (by omega)
    have := lineB_len [2 * k + 2] (all1 (by omega))
    simp only [txtIn, List.length_append, List.length_cons, List.length_nil] at this ⊢
    omega
theorem txtLatch_len {n : Nat} {ls gs : List (Int × Int)} {os : List Int} (s : Small n ls gs os) (k : Nat) (h : k ≤ ls.length) : (txtLatch n ls k).length ≤ 10 * k := by
  induction k with
  | zero => simp [txtLatch]
  | succ k ih =>
    have h1 := ih (by omega)
    have := lineB_len [2 * (n + k) + 2, (ls.getD k (0, 0)).1.toNat, (ls.getD k (0, 0)).2.toNat] (all3 (by have := s.n4; have := s.l4; omega) (s.l1 k (by omega)).2 (s.l2 k (by omega)).2)
    simp only [txtLatch, List.length_append, List.length_cons, List.length_nil] at this ⊢
    omega
theorem txtOut_len {n : Nat} {ls gs : List (Int × Int)} {os : List Int} (s : Small n ls gs os) (k : Nat) (h : k ≤ os.length) : (txtOut os k).length ≤ 10 * k := by
  induction k with
  | zero => simp [txtOut]
  | succ k ih =>
    have h1 := ih (by omega)
    have := lineB_len [(os.getD k 0).toNat] (all1 (s.o1 k (by omega)).2)
    simp only [txtOut, List.length_append, List.length_cons, List.length_nil] at this ⊢
    omega
theorem txtGate_len {n : Nat} {ls gs : List (Int × Int)} {os : List Int} (s : Small n ls gs os) (k : Nat) (h : k ≤ gs.length) : (txtGate (n + ls.length) gs k).length ≤ 10 * k := by
  induction k with
  | zero => simp [txtGate]
  | succ k ih =>
    have h1 := ih (by omega)
    have := lineB_len [2 * (n + ls.length + k) + 2, (gs.getD k (0, 0)).1.toNat, (gs.getD k (0, 0)).2.toNat] (all3 (by have := s.n4; have := s.l4; have := s.g30; omega) (s.g1 k (by omega)).2 (s.g2 k (by omega)).2)
    simp only [txtGate, List.length_append, List.length_cons, List.length_nil] at this ⊢
    omega

end Go.Proofs.YtgpaajdfkekjiaaGreatDoor

namespace Go.Proofs.YtgpaajdfkekjiaaGreatDoor
open Go.RowKit

theorem snoc_split {f g : Nat → List UInt8} (hf : ∀ k, f (k + 1) = f k ++ g k) : ∀ (n k : Nat), k < n → ∃ X, f n = f k ++ g k ++ X := by
  intro n
  induction n with
  | zero => intro k h; omega
  | succ n ih =>
    intro k h
    by_cases e : k = n
    · subst e; exact ⟨[], by rw [hf]; simp⟩
    · obtain ⟨X, hX⟩ := ih k (by omega)
      exact ⟨X ++ g n, by rw [hf, hX]; simp⟩

theorem isLine_nil {r rest : List UInt8} {ns : List Nat} (h : r = lineB ns ++ rest) : IsLine [] r ns rest := by unfold IsLine; simpa using h

/-- The text ahead of what is left. -/
def ahead (h : Hd) (i : Nat) (ls : List (Int × Int)) (os : List Int) (gs : List (Int × Int)) : List UInt8 :=
  txtHead h.n h.l h.g h.o ++ txtIn i ++ txtLatch h.n ls ls.length ++ txtOut os os.length ++ txtGate (h.n + h.l) gs gs.length

theorem txtLatch_more (n : Nat) (ls : List (Int × Int)) (p : Int × Int) : ∀ k, k ≤ ls.length → txtLatch n (ls ++ [p]) k = txtLatch n ls k := by
  intro k
  induction k with
  | zero => intro _; rfl
  | succ k ih =>
    intro hk
    have e : (ls ++ [p]).getD k (0, 0) = ls.getD k (0, 0) := by simp [List.getElem?_append_left (show k < ls.length by omega)]
    rw [txtLatch, txtLatch, ih (by omega), e]
theorem txtLatch_snoc (n : Nat) (ls : List (Int × Int)) (a b : Nat) : txtLatch n (ls ++ [((a : Int), (b : Int))]) (ls.length + 1) = txtLatch n ls ls.length ++ lineB [2 * (n + ls.length) + 2, a, b] := by
  rw [txtLatch, txtLatch_more n ls _ _ (Nat.le_refl _)]
  simp
theorem txtGate_more (n : Nat) (ls : List (Int × Int)) (p : Int × Int) : ∀ k, k ≤ ls.length → txtGate n (ls ++ [p]) k = txtGate n ls k := by
  intro k
  induction k with
  | zero => intro _; rfl
  | succ k ih =>
    intro hk
    have e : (ls ++ [p]).getD k (0, 0) = ls.getD k (0, 0) := by simp [List.getElem?_append_left (show k < ls.length by omega)]
    rw [txtGate, txtGate, ih (by omega), e]
theorem txtGate_snoc (n : Nat) (ls : List (Int × Int)) (a b : Nat) : txtGate n (ls ++ [((a : Int), (b : Int))]) (ls.length + 1) = txtGate n ls ls.length ++ lineB [2 * (n + ls.length) + 2, a, b] := by
  rw [txtGate, txtGate_more n ls _ _ (Nat.le_refl _)]
  simp
theorem txtOut_more (os : List Int) (p : Int) : ∀ k, k ≤ os.length → txtOut (os ++ [p]) k = txtOut os k := by
  intro k
  induction k with
  | zero => intro _; rfl
  | succ k ih =>
    intro hk
    have e : (os ++ [p]).getD k 0 = os.getD k 0 := by simp [List.getElem?_append_left (show k < os.length by omega)]
    rw [txtOut, txtOut, ih (by omega), e]
theorem txtOut_snoc (os : List Int) (a : Nat) : txtOut (os ++ [(a : Int)]) (os.length + 1) = txtOut os os.length ++ lineB [a] := by
  rw [txtOut, txtOut_more os _ _ (Nat.le_refl _)]
  simp

/-- What has been read is as a right circuit's, and stands in the text. -/
structure Told' (S : List UInt8) (k : Nat) (h : Hd) (i : Nat) (ls : List (Int × Int)) (os : List Int) (gs : List (Int × Int)) (r : List UInt8) : Prop where
  ok : h.Ok
  txt : S = ahead h i ls os gs ++ r
  i4 : i ≤ h.n
  l4 : ls.length ≤ h.l
  o4 : os.length ≤ h.o
  g4 : gs.length ≤ h.g
  oi : i < h.n → ls = [] ∧ os = [] ∧ gs = []
  ol : ls.length < h.l → os = [] ∧ gs = []
  oo : os.length < h.o → gs = []
  okl : ∀ j, j < ls.length → latchOk ((h.n : Int) + h.l + h.g) (ls.getD j (0, 0)) = true
  oko : ∀ j, j < os.length → inB (os.getD j 0) (2 * ((h.n : Int) + h.l + h.g) + 1) = true
  okg : ∀ j, j < gs.length → gateOk ((h.n : Int) + h.l + j) (gs.getD j (0, 0)) = true

theorem getD_snoc {α : Type} (l : List α) (x d : α) (j : Nat) (hj : j < (l ++ [x]).length) : (l ++ [x]).getD j d = if j < l.length then l.getD j d else x := by
  by_cases h : j < l.length
  · rw [if_pos h]; simp [List.getElem?_append_left h]
  · rw [if_neg h]
    have : j = l.length := by simp at hj; omega
    subst this
    simp

theorem line3 {r rest : List UInt8} {ns : List Nat} (h : lineF [] 3 r = some (ns, rest)) : ∃ a b c, ns = [a, b, c] ∧ r = lineB [a, b, c] ++ rest := by
  obtain ⟨h1, _, h3⟩ := lineF_spec h
  match ns, h1 with
  | [a, b, c], _ => exact ⟨a, b, c, rfl, by unfold IsLine at h3; simpa using h3⟩
theorem line1 {r rest : List UInt8} {ns : List Nat} (h : lineF [] 1 r = some (ns, rest)) : ∃ a, ns = [a] ∧ r = lineB [a] ++ rest := by
  obtain ⟨h1, _, h3⟩ := lineF_spec h
  match ns, h1 with
  | [a], _ => exact ⟨a, rfl, by unfold IsLine at h3; simpa using h3⟩
theorem line5 {r rest : List UInt8} {ns : List Nat} (h : lineF aag 5 r = some (ns, rest)) : ∃ a b c d e, ns = [a, b, c, d, e] ∧ r = aag ++ lineB [a, b, c, d, e] ++ rest := by
  obtain ⟨h1, _, h3⟩ := lineF_spec h
  match ns, h1 with
  | [a, b, c, d, e], _ => exact ⟨a, b, c, d, e, rfl, h3⟩

theorem told_step {S : List UInt8} {k : Nat} {st : St} : runN S k = some st → (st = st0 S) ∨ ∃ h, st.h = some h ∧ Told' S k h st.i st.ls st.os st.gs st.rest := by
  induction k generalizing st with
  | zero => intro e; injection e with e; exact .inl e.symm
  | succ k ih =>
    intro e
    rw [runN] at e
    cases hk : runN S k with
    | none => rw [hk] at e; cases e
    | some st1 =>
      rw [hk] at e
      have e : stepF st1 = some st := e
      right
      rcases ih hk with rfl | ⟨h, hh, T⟩
      · have e : stepHead S = some st := e
        unfold stepHead at e
        cases hl : lineF aag 5 S with
        | none => rw [hl] at e; cases e
        | some p =>
          obtain ⟨ns, rest⟩ := p
          obtain ⟨m, n, l, o, g, rfl, hS⟩ := line5 hl
          rw [hl] at e
          simp only [Option.bind_some] at e
          split at e
          · rename_i hc
            injection e with e
            subst e
            simp only [List.getD_cons_zero, List.getD_cons_succ] at hc
            refine ⟨⟨n, l, o, g⟩, by simp, ⟨⟨hc.1, hc.2.1, hc.2.2.1, hc.2.2.2.1⟩, ?_, by simp, by simp, by simp, by simp, by simp, by simp, by simp, by simp, by simp, by simp⟩⟩
            rw [hS]
            simp [ahead, txtHead, txtIn, txtLatch, txtOut, txtGate, aag, hc.2.2.2.2]
          · cases e
      · obtain ⟨h0, i, ls, os, gs, r⟩ := st1
        simp only at hh T
        subst hh
        by_cases c1 : i < h.n
        · obtain ⟨rfl, rfl, rfl⟩ := T.oi c1
          have e : (if i < h.n then stepIn ⟨some h, i, [], [], [], r⟩ else _) = some st := e
          rw [if_pos c1] at e
          unfold stepIn at e
          cases hl : lineF [] 1 r with
          | none => rw [hl] at e; cases e
          | some p =>
            obtain ⟨ns, rest⟩ := p
            obtain ⟨a, rfl, hr⟩ := line1 hl
            rw [hl] at e
            simp only [Option.bind_some] at e
            split at e
            · rename_i hc
              injection e with e
              subst e
              simp only [List.getD_cons_zero] at hc
              refine ⟨h, rfl, ⟨T.ok, ?_, c1, by simp, by simp, by simp, by simp, by simp, by simp, by simp, by simp, by simp⟩⟩
              rw [T.txt, hr, hc]
              simp [ahead, txtIn, txtLatch, txtOut, txtGate]
            · cases e
        · by_cases c2 : ls.length < h.l
          · obtain ⟨rfl, rfl⟩ := T.ol c2
            have e : (if i < h.n then _ else if ls.length < h.l then stepLatch h ⟨some h, i, ls, [], [], r⟩ else _) = some st := e
            rw [if_neg c1, if_pos c2] at e
            unfold stepLatch at e
            cases hl : lineF [] 3 r with
            | none => rw [hl] at e; cases e
            | some p =>
              obtain ⟨ns, rest⟩ := p
              obtain ⟨a, b, c, rfl, hr⟩ := line3 hl
              rw [hl] at e
              simp only [Option.bind_some] at e
              split at e
              · rename_i hc
                injection e with e
                subst e
                simp only [List.getD_cons_zero, List.getD_cons_succ] at hc ⊢
                refine ⟨h, rfl, ⟨T.ok, ?_, T.i4, by simp; omega, by simp, by simp, fun x => absurd x c1, fun _ => ⟨rfl, rfl⟩, by simp, fun j hj => ?_, by simp, by simp⟩⟩
                · rw [T.txt, hr, hc.1]
                  simp [ahead, txtLatch_snoc, txtOut, txtGate]
                · rw [getD_snoc _ _ _ _ hj]
                  split
                  · exact T.okl j (by assumption)
                  · simp only [latchOk, Bool.and_eq_true]
                    exact ⟨inB_mk (by omega) (by omega), inB_mk (by omega) (by omega)⟩
              · cases e
          · by_cases c3 : os.length < h.o
            · obtain rfl := T.oo c3
              have e : (if i < h.n then _ else if ls.length < h.l then _ else if os.length < h.o then stepOut h ⟨some h, i, ls, os, [], r⟩ else _) = some st := e
              rw [if_neg c1, if_neg c2, if_pos c3] at e
              unfold stepOut at e
              cases hl : lineF [] 1 r with
              | none => rw [hl] at e; cases e
              | some p =>
                obtain ⟨ns, rest⟩ := p
                obtain ⟨a, rfl, hr⟩ := line1 hl
                rw [hl] at e
                simp only [Option.bind_some] at e
                split at e
                · rename_i hc
                  injection e with e
                  subst e
                  simp only [List.getD_cons_zero] at hc ⊢
                  refine ⟨h, rfl, ⟨T.ok, ?_, T.i4, T.l4, by simp; omega, by simp, fun x => absurd x c1, fun x => absurd x c2, fun _ => rfl, T.okl, fun j hj => ?_, by simp⟩⟩
                  · rw [T.txt, hr]
                    simp [ahead, txtOut_snoc, txtGate]
                  · rw [getD_snoc _ _ _ _ hj]
                    split
                    · exact T.oko j (by assumption)
                    · exact inB_mk (by omega) (by omega)
                · cases e
            · by_cases c4 : gs.length < h.g
              · have e : (if i < h.n then _ else if ls.length < h.l then _ else if os.length < h.o then _ else if gs.length < h.g then stepGate h ⟨some h, i, ls, os, gs, r⟩ else _) = some st := e
                rw [if_neg c1, if_neg c2, if_neg c3, if_pos c4] at e
                unfold stepGate at e
                cases hl : lineF [] 3 r with
                | none => rw [hl] at e; cases e
                | some p =>
                  obtain ⟨ns, rest⟩ := p
                  obtain ⟨a, b, c, rfl, hr⟩ := line3 hl
                  rw [hl] at e
                  simp only [Option.bind_some] at e
                  split at e
                  · rename_i hc
                    injection e with e
                    subst e
                    simp only [List.getD_cons_zero, List.getD_cons_succ] at hc ⊢
                    refine ⟨h, rfl, ⟨T.ok, ?_, T.i4, T.l4, T.o4, by simp; omega, fun x => absurd x c1, fun x => absurd x c2, fun x => absurd x c3, T.okl, T.oko, fun j hj => ?_⟩⟩
                    · rw [T.txt, hr, hc.1]
                      simp [ahead, txtGate_snoc]
                    · rw [getD_snoc _ _ _ _ hj]
                      split
                      · exact T.okg j (by assumption)
                      · have hj' : j = gs.length := by simp at hj; omega
                        subst hj'
                        simp only [gateOk, Bool.and_eq_true]
                        exact ⟨inB_mk (by omega) (by omega), inB_mk (by omega) (by omega)⟩
                  · cases e
              · have e : (if i < h.n then _ else if ls.length < h.l then _ else if os.length < h.o then _ else if gs.length < h.g then _ else none) = some st := e
                rw [if_neg c1, if_neg c2, if_neg c3, if_neg c4] at e
                cases e

/-- What is read whole is the text of a right circuit. -/
theorem ans_txt {S : List UInt8} {n : Nat} {ls gs : List (Int × Int)} {os : List Int} {line : Nat} (h : Ans S (some ⟨n, ls, gs, os⟩) line) : S = txt n ls gs os ∧ rightB n ls gs os = true ∧ line = 0 := by
  rcases h with ⟨_, h, _⟩ | ⟨_, k, st, hk, hs, ⟨hd, hc, hl⟩ | ⟨_, hc, _⟩⟩
  · cases h
  · obtain ⟨h, e1, e2, e3, e4, e5, e6⟩ := hd
    injection hc with hc
    obtain ⟨h0, i, ls', os', gs', r⟩ := st
    simp only [Circ.mk.injEq] at hc
    simp only at e1 e2 e3 e4 e5 e6
    obtain ⟨rfl, rfl, rfl, rfl⟩ := hc
    subst e1 e6
    rcases told_step hk with e | ⟨h', e, T⟩
    · simp [st0] at e
    · simp only [Option.some.injEq] at e
      subst e
      simp only at T
      obtain ⟨k1, k2, k3, k4⟩ := T.ok
      refine ⟨?_, ?_, hl⟩
      · rw [T.txt]
        simp [ahead, txt, e2, e3, e4, e5]
      · simp only [rightB, sizesB, latchesB, gatesB, outsB, Bool.and_eq_true, decide_eq_true_eq]
        have hn : ((n : Nat) : Int) = h.n := by omega
        have hl' : ((ls.length : Nat) : Int) = h.l := by omega
        have hg' : ((gs.length : Nat) : Int) = h.g := by omega
        rw [hn, hl', hg']
        exact ⟨⟨⟨⟨⟨⟨inB_mk (by omega) (by omega), inB_mk (by omega) (by omega)⟩, inB_mk (by omega) (by omega)⟩, inB_mk (by omega) (by omega)⟩, T.okl⟩, T.okg⟩, T.oko⟩
  · cases hc


theorem right_in {n : Nat} {ls gs : List (Int × Int)} {os : List Int} (hr : rightB n ls gs os = true) :
    (∀ j, j < ls.length → ((ls.getD j (0, 0)).1.toNat ≤ 2 * (n + ls.length + gs.length) + 1 ∧ (ls.getD j (0, 0)).2.toNat ≤ 1)) ∧ (∀ j, j < os.length → (os.getD j 0).toNat ≤ 2 * (n + ls.length + gs.length) + 1) ∧
    (∀ j, j < gs.length → ((gs.getD j (0, 0)).1.toNat ≤ 2 * (n + ls.length + j) + 1 ∧ (gs.getD j (0, 0)).2.toNat ≤ 2 * (n + ls.length + j) + 1)) := by
  obtain ⟨_, h1, h2, h3⟩ := rightB_pos hr
  refine ⟨fun j hj => ?_, fun j hj => ?_, fun j hj => ?_⟩
  · have := h1 j hj
    simp only [latchOk, Bool.and_eq_true] at this
    have a := inB_pos this.1
    have b := inB_pos this.2
    omega
  · have := inB_pos (h3 j hj)
    omega
  · have := h2 j hj
    simp only [gateOk, Bool.and_eq_true] at this
    have a := inB_pos this.1
    have b := inB_pos this.2
    omega

theorem take_snoc {α : Type} (l : List α) (d : α) (k : Nat) (hk : k < l.length) : l.take (k + 1) = l.take k ++ [l.getD k d] := by
  rw [List.take_add_one]
  simp [hk]

/-- The text of a right circuit is read as it. -/
theorem txt_ans {n : Nat} {ls gs : List (Int × Int)} {os : List Int} (hr : rightB n ls gs os = true) (hlen : (txt n ls gs os).length ≤ 1000) : Ans (txt n ls gs os) (some ⟨n, ls, gs, os⟩) 0 := by
  have s := small_of hr
  obtain ⟨rl, ro, rg⟩ := right_in hr
  obtain ⟨S, hS⟩ : ∃ S, S = txt n ls gs os := ⟨_, rfl⟩
  obtain ⟨h, hh⟩ : ∃ h : Hd, h = ⟨n, ls.length, os.length, gs.length⟩ := ⟨_, rfl⟩
  have hn : h.n = n := by rw [hh]
  have hl : h.l = ls.length := by rw [hh]
  have ho : h.o = os.length := by rw [hh]
  have hg : h.g = gs.length := by rw [hh]
  have hok : h.Ok := ⟨by rw [hn]; exact s.n4, by rw [hl]; exact s.l4, by rw [ho]; exact s.o4, by rw [hg]; exact s.g30⟩
  have hS' : S = txtHead n ls.length gs.length os.length ++ (txtIn n ++ (txtLatch n ls ls.length ++ (txtOut os os.length ++ txtGate (n + ls.length) gs gs.length))) := by rw [hS]; simp [txt]
  -- the first line
  have r1 : runN S 1 = some ⟨some h, 0, [], [], [], txtIn n ++ (txtLatch n ls ls.length ++ (txtOut os os.length ++ txtGate (n + ls.length) gs gs.length))⟩ := by
    refine runN_step (k := 0) rfl ?_
    have g : Got aag 5 S [n + ls.length + gs.length, n, ls.length, os.length, gs.length] (txtIn n ++ (txtLatch n ls ls.length ++ (txtOut os os.length ++ txtGate (n + ls.length) gs gs.length))) := ⟨rfl, by unfold IsLine; rw [hS']; simp [txtHead, aag]⟩
    rw [stepHead_got g, if_pos (by simp; exact ⟨s.n4, s.l4, s.o4, s.g30⟩), hh]
    rfl
  -- the inputs
  have rI : ∀ k, k ≤ n → ∃ r, runN S (1 + k) = some ⟨some h, k, [], [], [], r⟩ ∧ txtIn n ++ (txtLatch n ls ls.length ++ (txtOut os os.length ++ txtGate (n + ls.length) gs gs.length)) = txtIn k ++ r := by
    intro k
    induction k with
    | zero => intro _; exact ⟨_, r1, rfl⟩
    | succ k ih =>
      intro hk
      obtain ⟨r, hr1, hr2⟩ := ih (by omega)
      obtain ⟨X, hX⟩ := snoc_split (f := txtIn) (g := fun k => lineB [2 * k + 2]) (fun _ => rfl) n k (by omega)
      rw [hX, List.append_assoc, List.append_assoc] at hr2
      have hr3 := (List.append_cancel_left hr2).symm
      have st := stepIn_got (h := h) (i := k) (ls := []) (gs := []) (os := []) hok (by omega) (⟨rfl, isLine_nil hr3⟩ : Got [] 1 r [2 * k + 2] _)
      rw [if_pos (by simp)] at st
      refine ⟨_, runN_step hr1 st, ?_⟩
      rw [hX, txtIn]
      simp
  obtain ⟨ra, hra, hra2⟩ := rI n (Nat.le_refl _)
  have hra3 := List.append_cancel_left hra2
  -- the latches
  have rL : ∀ k, k ≤ ls.length → ∃ r, runN S (1 + n + k) = some ⟨some h, n, ls.take k, [], [], r⟩ ∧ ra = txtLatch n ls k ++ r := by
    intro k
    induction k with
    | zero => intro _; exact ⟨ra, by simpa using hra, by simp [txtLatch]⟩
    | succ k ih =>
      intro hk
      obtain ⟨r, hr1, hr2⟩ := ih (by omega)
      obtain ⟨X, hX⟩ := snoc_split (f := txtLatch n ls) (g := fun k => lineB [2 * (n + k) + 2, (ls.getD k (0, 0)).1.toNat, (ls.getD k (0, 0)).2.toNat]) (fun _ => rfl) ls.length k (by omega)
      rw [← hra3, hX, List.append_assoc, List.append_assoc] at hr2
      have hr3 := (List.append_cancel_left hr2).symm
      have hlk : (ls.take k).length = k := by simp; omega
      have st := stepLatch_got (h := h) (i := n) (ls := ls.take k) (gs := []) (os := []) hok hn.symm (by omega) (⟨rfl, isLine_nil hr3⟩ : Got [] 3 r [2 * (n + k) + 2, (ls.getD k (0, 0)).1.toNat, (ls.getD k (0, 0)).2.toNat] _)
      rw [if_pos (by rw [hlk, hn, hl, hg]; exact ⟨rfl, (rl k (by omega)).1, (rl k (by omega)).2⟩)] at st
      refine ⟨X ++ (txtOut os os.length ++ txtGate (n + ls.length) gs gs.length), ?_, ?_⟩
      rotate_left
      · rw [← hra3, hX, txtLatch, List.append_assoc]
      · rw [take_snoc ls (0, 0) k (by omega)]
        have e1 := (s.l1 k (by omega)).1
        have e2 := (s.l2 k (by omega)).1
        have st' := runN_step hr1 st
        simp only [List.getD_cons_zero, List.getD_cons_succ] at st'
        rw [e1, e2] at st'
        exact st'
  obtain ⟨rb, hrb, hrb2⟩ := rL ls.length (Nat.le_refl _)
  rw [← hra3] at hrb2
  have hrb3 := List.append_cancel_left hrb2
  rw [List.take_length] at hrb
  -- the outputs
  have rO : ∀ k, k ≤ os.length → ∃ r, runN S (1 + n + ls.length + k) = some ⟨some h, n, ls, os.take k, [], r⟩ ∧ rb = txtOut os k ++ r := by
    intro k
    induction k with
    | zero => intro _; exact ⟨rb, by simpa using hrb, by simp [txtOut]⟩
    | succ k ih =>
      intro hk
      obtain ⟨r, hr1, hr2⟩ := ih (by omega)
      obtain ⟨X, hX⟩ := snoc_split (f := txtOut os) (g := fun k => lineB [(os.getD k 0).toNat]) (fun _ => rfl) os.length k (by omega)
      rw [← hrb3, hX, List.append_assoc, List.append_assoc] at hr2
      have hr3 := (List.append_cancel_left hr2).symm
      have hlk : (os.take k).length = k := by simp; omega
      have st := stepOut_got (h := h) (i := n) (ls := ls) (gs := []) (os := os.take k) hok hn.symm hl.symm (by omega) (⟨rfl, isLine_nil hr3⟩ : Got [] 1 r [(os.getD k 0).toNat] _)
      rw [if_pos (by rw [hn, hl, hg]; exact ro k (by omega))] at st
      refine ⟨X ++ txtGate (n + ls.length) gs gs.length, ?_, ?_⟩
      rotate_left
      · rw [← hrb3, hX, txtOut, List.append_assoc]
      · rw [take_snoc os 0 k (by omega)]
        have e1 := (s.o1 k (by omega)).1
        have st' := runN_step hr1 st
        simp only [List.getD_cons_zero] at st'
        rw [e1] at st'
        exact st'
  obtain ⟨rc, hrc, hrc2⟩ := rO os.length (Nat.le_refl _)
  rw [← hrb3] at hrc2
  have hrc3 := List.append_cancel_left hrc2
  rw [List.take_length] at hrc
  -- the gates
  have rG : ∀ k, k ≤ gs.length → ∃ r, runN S (1 + n + ls.length + os.length + k) = some ⟨some h, n, ls, os, gs.take k, r⟩ ∧ rc = txtGate (n + ls.length) gs k ++ r := by
    intro k
    induction k with
    | zero => intro _; exact ⟨rc, by simpa using hrc, by simp [txtGate]⟩
    | succ k ih =>
      intro hk
      obtain ⟨r, hr1, hr2⟩ := ih (by omega)
      obtain ⟨X, hX⟩ := snoc_split (f := txtGate (n + ls.length) gs) (g := fun k => lineB [2 * (n + ls.length + k) + 2, (gs.getD k (0, 0)).1.toNat, (gs.getD k (0, 0)).2.toNat]) (fun _ => rfl) gs.length k (by omega)
      rw [← hrc3, hX, List.append_assoc] at hr2
      have hr3 := (List.append_cancel_left hr2).symm
      have hlk : (gs.take k).length = k := by simp; omega
      have st := stepGate_got (h := h) (i := n) (ls := ls) (gs := gs.take k) (os := os) hok hn.symm hl.symm ho.symm (by omega) (⟨rfl, isLine_nil hr3⟩ : Got [] 3 r [2 * (n + ls.length + k) + 2, (gs.getD k (0, 0)).1.toNat, (gs.getD k (0, 0)).2.toNat] _)
      rw [if_pos (by rw [hlk, hn, hl]; exact ⟨rfl, (rg k (by omega)).1, (rg k (by omega)).2⟩)] at st
      refine ⟨X, ?_, ?_⟩
      rotate_left
      · rw [← hrc3, hX, txtGate]
      · rw [take_snoc gs (0, 0) k (by omega)]
        have e1 := (s.g1 k (by omega)).1
        have e2 := (s.g2 k (by omega)).1
        have st' := runN_step hr1 st
        simp only [List.getD_cons_zero, List.getD_cons_succ] at st'
        rw [e1, e2] at st'
        exact st'
  obtain ⟨rd, hrd, hrd2⟩ := rG gs.length (Nat.le_refl _)
  rw [← hrc3] at hrd2
  have hrd3 : rd = [] := by
    have := congrArg List.length hrd2
    rw [List.length_append] at this
    exact List.eq_nil_of_length_eq_zero (by omega)
  rw [List.take_length, hrd3] at hrd
  rw [← hS]
  refine .inr ⟨by rw [hS]; exact hlen, _, _, hrd, stepEnd hn.symm hl.symm ho.symm hg.symm, .inl ⟨⟨h, rfl, hn.symm, hl.symm, ho.symm, hg.symm, rfl⟩, rfl, rfl⟩⟩

end Go.Proofs.YtgpaajdfkekjiaaGreatDoor
