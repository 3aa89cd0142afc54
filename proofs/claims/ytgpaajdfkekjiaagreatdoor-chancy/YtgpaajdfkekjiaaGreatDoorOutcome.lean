/-
  Run of package latch and Run of package latchref answer the same of any circuit and inputs: one outcome for both. And small facts on the book.
-/
import Derived.Test.YtgpaajdfkekjiaaGreatDoorRefAll
namespace Go.Proofs.YtgpaajdfkekjiaaGreatDoor
open Go.RowKit

def ints (vs : List Nat) : List Int := vs.map fun x => ((x : Nat) : Int)
theorem ints_len (vs : List Nat) : (ints vs).length = vs.length := by simp [ints]
theorem own_ints {w : World} {base g len cap : Nat} {vs : List Nat} (h : w.ownsRow base 3 1 (.slice (some ⟨g, 0, none⟩) len cap) len (ivals vs)) : IntsAt w (some ⟨g, 0, none⟩) (ints vs) := by
  have hl : vs.length = len := by have := h.1; rw [ivals_len] at this; omega
  refine .inr ⟨g, 0, rfl, (h.lt g rfl).2, fun i hi => ?_⟩
  have hi' : i < vs.length := by simpa [ints] using hi
  rw [own_cells h i (by omega)]
  simp [ints, hi']

/-- What Run answers: the error's number, and the outputs. -/
def runE (n : Int) (ls gs : List (Int × Int)) (os ins : List Int) : Int := if rightB n ls gs os = true then (if inputsB n.toNat ins = true then 0 else 3) else 2
def runL (n : Int) (ls gs : List (Int × Int)) (os ins : List Int) : List Nat := if rightB n ls gs os = true then (if inputsB n.toNat ins = true then outs n.toNat ls gs os ins else []) else []
theorem runL_len (n : Int) (ls gs : List (Int × Int)) (os ins : List Int) : (runL n ls gs os ins).length ≤ 50 := by
  unfold runL
  split
  · split
    · rename_i h
      have := (of_decide_eq_true h).1
      simp [outs]; omega
    · simp
  · simp

theorem run_all (n : Int) (la ga oa ia : Option Addr) (lc gc oc ic : Nat) (ls gs : List (Int × Int)) (os ins : List Int) (w : World) (hm : ins.length ≤ maxLen)
    (hL : PairsAt w la ls) (hG : PairsAt w ga gs) (hO : IntsAt w oa os) (hI : IntsAt w ia ins) :
    Calls Tryz.prog 24 #[.agg #[.int .i64 n, .slice la ls.length lc, .slice ga gs.length gc, .slice oa os.length oc], .slice ia ins.length ic] w fun e w' =>
      ∃ a, e = .returned (.tuple #[.slice a (runL n ls gs os ins).length (runL n ls gs os ins).length, .int .i64 (runE n ls gs os ins)]) ∧
        ((a = none ∧ (runL n ls gs os ins).length = 0) ∨ ∃ g f, a = some ⟨g, 0, none⟩ ∧ w.heap.size ≤ g ∧ w'.rowIs g 3 (runL n ls gs os ins).length f) ∧ IntsAt w' a (ints (runL n ls gs os ins)) ∧ Below w.heap.size w w' := by
  cases hr : rightB n ls gs os
  · have e1 : runL n ls gs os ins = [] := by unfold runL; rw [if_neg (by rw [hr]; decide)]
    have e2 : runE n ls gs os ins = 2 := by unfold runE; rw [if_neg (by rw [hr]; decide)]
    rw [e1, e2]
    exact (run_wrong n la ga oa lc gc oc ls gs os _ w hL hG hO hr).mono fun e w' h => ⟨none, h.1, .inl ⟨rfl, rfl⟩, .inl rfl, h.2⟩
  · obtain ⟨N, rfl⟩ := Int.eq_ofNat_of_zero_le (rightB_pos hr).1.1
    cases hi : inputsB N ins
    · have e1 : runL N ls gs os ins = [] := by unfold runL; rw [if_pos hr, if_neg (by rw [Int.toNat_natCast, hi]; decide)]
      have e2 : runE N ls gs os ins = 3 := by unfold runE; rw [if_pos hr, if_neg (by rw [Int.toNat_natCast, hi]; decide)]
      rw [e1, e2]
      exact (run_inputs N la ga oa ia lc gc oc ic ls gs os ins w hm hL hG hO hI hr hi).mono fun e w' h => ⟨none, h.1, .inl ⟨rfl, rfl⟩, .inl rfl, h.2⟩
    · have e1 : runL N ls gs os ins = outs N ls gs os ins := by unfold runL; rw [if_pos hr, if_pos (by rw [Int.toNat_natCast]; exact hi), Int.toNat_natCast]
      have e2 : runE N ls gs os ins = 0 := by unfold runE; rw [if_pos hr, if_pos (by rw [Int.toNat_natCast]; exact hi)]
      have el : (outs N ls gs os ins).length = ins.length := by simp [outs]
      rw [e1, e2, el]
      refine (run_ok N la ga oa ia lc gc oc ic ls gs os ins w hm hL hG hO hI hr hi).mono fun e w' h => ?_
      obtain ⟨g, he, hown, hb⟩ := h
      refine ⟨_, he, .inr ?_, own_ints hown, hb⟩
      rcases hown.2 with ⟨h', _⟩ | ⟨g', cap', cur, h', hbg, hr', _, _, hcs, htake⟩
      · simp at h'
      · simp only [Value.slice.injEq, Option.some.injEq, Addr.mk.injEq, and_true, true_and] at h'
        obtain ⟨rfl, rfl⟩ := h'
        refine ⟨g, fun i => (cur[i]?).getD undef, rfl, hbg, cur, hr', by omega, fun i hi' => ?_⟩
        have hlt : i < cur.size := by omega
        simp [hlt]

theorem refRun_all (n : Int) (la ga oa ia : Option Addr) (lc gc oc ic : Nat) (ls gs : List (Int × Int)) (os ins : List Int) (w : World) (hm : ins.length ≤ maxLen)
    (hL : PairsAt w la ls) (hG : PairsAt w ga gs) (hO : IntsAt w oa os) (hI : IntsAt w ia ins) (fL : ∀ i, i < ls.length → Fits (ls.getD i (0, 0)).1) (fG : ∀ i, i < gs.length → Fits (gs.getD i (0, 0)).1 ∧ Fits (gs.getD i (0, 0)).2) (fO : ∀ i, i < os.length → Fits (os.getD i 0)) :
    Calls Tryz.prog 25 #[.agg #[.int .i64 n, .slice la ls.length lc, .slice ga gs.length gc, .slice oa os.length oc], .slice ia ins.length ic] w fun e w' =>
      ∃ a c, e = .returned (.tuple #[.slice a (runL n ls gs os ins).length c, .int .i64 (runE n ls gs os ins)]) ∧ IntsAt w' a (ints (runL n ls gs os ins)) ∧ Below w.heap.size w w' := by
  cases hr : rightB n ls gs os
  · have e1 : runL n ls gs os ins = [] := by unfold runL; rw [if_neg (by rw [hr]; decide)]
    have e2 : runE n ls gs os ins = 2 := by unfold runE; rw [if_neg (by rw [hr]; decide)]
    rw [e1, e2]
    exact (refRun_wrong n la ga oa lc gc oc ls gs os _ w hL hG hO fL fG fO hr).mono fun e w' h => ⟨none, 0, h.1, .inl rfl, h.2⟩
  · obtain ⟨N, rfl⟩ := Int.eq_ofNat_of_zero_le (rightB_pos hr).1.1
    have base := refRun_right N la ga oa ia lc gc oc ic ls gs os ins w hm hL hG hO hI fL fG fO hr
    cases hi : inputsB N ins
    · have e1 : runL N ls gs os ins = [] := by unfold runL; rw [if_pos hr, if_neg (by rw [Int.toNat_natCast, hi]; decide)]
      have e2 : runE N ls gs os ins = 3 := by unfold runE; rw [if_pos hr, if_neg (by rw [Int.toNat_natCast, hi]; decide)]
      rw [e1, e2]
      exact base.mono fun e w' h => ⟨none, 0, (h.1 hi).1, .inl rfl, (h.1 hi).2⟩
    · have e1 : runL N ls gs os ins = outs N ls gs os ins := by unfold runL; rw [if_pos hr, if_pos (by rw [Int.toNat_natCast]; exact hi), Int.toNat_natCast]
      have e2 : runE N ls gs os ins = 0 := by unfold runE; rw [if_pos hr, if_pos (by rw [Int.toNat_natCast]; exact hi)]
      have el : (outs N ls gs os ins).length = ins.length := by simp [outs]
      rw [e1, e2, el]
      refine base.mono fun e w' h => ?_
      obtain ⟨v, he, hown, hb⟩ := h.2 hi
      rcases hown.2 with ⟨rfl, h0⟩ | ⟨g, cap, cur, rfl, _⟩
      · have hnil : outs N ls gs os ins = [] := List.eq_nil_of_length_eq_zero (by omega)
        rw [hnil]
        exact ⟨none, 0, by rw [h0]; exact he, .inl rfl, hb⟩
      · exact ⟨_, cap, he, own_ints hown, hb⟩

theorem row_ints {w : World} {g : Nat} {xs : List Int} (h : w.rowIs g 3 (xs.length + 8) (hInt xs)) : IntsAt w (some ⟨g, 0, none⟩) xs :=
  .inr ⟨g, 0, rfl, h.lt, fun i hi => by rw [Nat.zero_add, h.cell (by omega)]; unfold hInt; rw [if_pos hi]⟩
theorem row_pairs {w : World} {g t : Nat} {ps : List (Int × Int)} (h : w.rowIs g t ((ps.length + 8) * 2) (hPair ps)) : PairsAt w (some ⟨g, 0, none⟩) ps :=
  .inr ⟨g, 0, rfl, h.lt, fun i hi => by
    have h1 : i * 2 / 2 = i := by omega
    have h2 : (i * 2 + 1) / 2 = i := by omega
    refine ⟨?_, ?_⟩
    · rw [Nat.zero_add, h.cell (by omega)]; unfold hPair pcell; rw [if_pos (by omega), if_pos (by omega), h1]
    · rw [Nat.zero_add, h.cell (by omega)]; unfold hPair pcell; rw [if_pos (by omega), if_neg (by omega), h2]⟩

theorem rowIs_keeps {S : Nat → Prop} {w w' : World} {b n : Nat} {t : TypeId} {f : Nat → Value} (h : w.rowIs b t n f) (K : Keeps S w w') (hb : ¬ S b) : w'.rowIs b t n f := h.of_block (K.block b h.lt hb)
theorem PairsIn.keeps {S : Nat → Prop} {B : Nat} {w w' : World} {a : Option Addr} {ps : List (Int × Int)} (h : PairsIn B w a ps) (K : Keeps S w w') (hS : ∀ b o, a = some ⟨b, o, none⟩ → ps ≠ [] → ¬ S b) : PairsIn B w' a ps := by
  by_cases h0 : ps = []
  · exact .inl h0
  · rcases h with h | ⟨b, off, ha, hb, hlt, hc⟩
    · exact .inl h
    · exact .inr ⟨b, off, ha, hb, Nat.lt_of_lt_of_le hlt K.size, fun i hi => ⟨(K.cell (p := ⟨b, _, none⟩) hlt (hS b off ha h0)).trans (hc i hi).1, (K.cell (p := ⟨b, _, none⟩) hlt (hS b off ha h0)).trans (hc i hi).2⟩⟩
theorem IntsIn.keeps {S : Nat → Prop} {B : Nat} {w w' : World} {a : Option Addr} {xs : List Int} (h : IntsIn B w a xs) (K : Keeps S w w') (hS : ∀ b o, a = some ⟨b, o, none⟩ → xs ≠ [] → ¬ S b) : IntsIn B w' a xs := by
  by_cases h0 : xs = []
  · exact .inl h0
  · rcases h with h | ⟨b, off, ha, hb, hlt, hc⟩
    · exact .inl h
    · exact .inr ⟨b, off, ha, hb, Nat.lt_of_lt_of_le hlt K.size, fun i hi => (K.cell (p := ⟨b, _, none⟩) hlt (hS b off ha h0)).trans (hc i hi)⟩

theorem BookAt.keeps {S T : Nat → Prop} {w w' : World} {P : Nat} {hv : Value} {es : List Entry} (h : BookAt S w P hv es) (K : Keeps T w w') (hT : ∀ k, S k → ¬ T k) : BookAt S w' P hv es := by
  have hP := hT P h.sp
  refine ⟨h.sp, Nat.lt_of_lt_of_le h.lt K.size, (K.cell (p := ⟨P, 0, none⟩) h.lt hP).trans h.c0, (K.cell (p := ⟨P, 1, none⟩) h.lt hP).trans h.c1, (K.cell (p := ⟨P, 2, none⟩) h.lt hP).trans h.c2, (K.cell (p := ⟨P, 3, none⟩) h.lt hP).trans h.c3,
    (World.frozen?_of_block (w := w) (K.block P h.lt hP)).trans h.fz, own_keeps h.own (fun q hq => K.block q (h.own.lt q hq).2 (hT q (h.hb q hq).1)), h.hb, h.len, fun k hk => ?_⟩
  obtain ⟨l1, gd⟩ := h.good k hk
  refine ⟨l1, ?_⟩
  rcases gd with h0 | ⟨b, hb, sb, bP, bq, blt, hc⟩
  · exact .inl h0
  · exact .inr ⟨b, hb, sb, bP, bq, Nat.lt_of_lt_of_le blt K.size, fun i hi => (K.cell (p := ⟨b, i, none⟩) blt (hT b sb)).trans (hc i hi)⟩
theorem BookAt.mono {S T : Nat → Prop} {w : World} {P : Nat} {hv : Value} {es : List Entry} (h : BookAt S w P hv es) (hT : ∀ k, S k → T k) : BookAt T w P hv es := by
  refine ⟨hT _ h.sp, h.lt, h.c0, h.c1, h.c2, h.c3, h.fz, h.own, fun q hq => ⟨hT _ (h.hb q hq).1, (h.hb q hq).2⟩, h.len, fun k hk => ?_⟩
  obtain ⟨l1, gd⟩ := h.good k hk
  refine ⟨l1, ?_⟩
  rcases gd with h0 | ⟨b, hb, sb, hr⟩
  · exact .inl h0
  · exact .inr ⟨b, hb, hT _ sb, hr⟩

end Go.Proofs.YtgpaajdfkekjiaaGreatDoor
