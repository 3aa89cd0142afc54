/-
  A region that draws its order, in a round of a loop over an iterator: where all its operations are simple ones, it is walked as anywhere.
-/
import Derived.Test.YtgpaajdfkekjiaaGreatDoorPlain
import Derived.RangeFuncNested
import Derived.Deep.RegionHeld3
import Derived.OrdersIn
namespace Go.Proofs.YtgpaajdfkekjiaaGreatDoor

def simpleOp (o : Oper) : Bool := match o.op with
  | .load _ _ => true
  | .store _ _ _ => true
  | .fieldAddr _ _ _ => true
  | .indexAddr _ _ _ => true
  | .binOp _ _ _ _ _ => true
  | .move _ => true
  | .assign _ => true
  | _ => false
theorem run_value {P : Program} {w w' : World} {s : Sem Value} {x : Next} (h : (do pure (.value (← s)) : Sem Next).run P w = .ok x w') : ∃ v, x = .value v := by
  rw [Sem.run_bind] at h
  cases hr : Sem.run P s w with
  | ok v w1 => rw [hr] at h; simp only [Result.andThen_ok, Sem.run_pure] at h; cases h; exact ⟨_, rfl⟩
  | halt e w1 => rw [hr] at h; cases h
theorem run_unit {P : Program} {w w' : World} {s : Sem Unit} {x : Next} (h : (do s; pure .skip : Sem Next).run P w = .ok x w') : x = .skip := by
  rw [Sem.run_bind] at h
  cases hr : Sem.run P s w with
  | ok v w1 => rw [hr] at h; simp only [Result.andThen_ok, Sem.run_pure] at h; cases h; rfl
  | halt e w1 => rw [hr] at h; cases h
theorem simple_next {P : Program} {w w' : World} {ρ : Operand → Value} {o : Oper} {x : Next} (hs : simpleOp o = true) (h : (execOp ρ o).run P w = .ok x w') : (∃ v, x = .value v) ∨ x = .skip := by
  unfold simpleOp at hs
  unfold execOp at h
  split at hs <;> rename_i ho <;> first | (cases hs; done) | skip
  all_goals simp only [ho] at h
  all_goals first
    | exact .inl (run_value h)
    | exact .inr (run_unit h)
    | (simp only [Sem.run_pure] at h; cases h; exact .inl ⟨_, rfl⟩)
theorem simple_defer {o : Oper} (hs : simpleOp o = true) : ∀ c, o.op ≠ .defer c := fun c e => by simp [simpleOp, e] at hs

section
variable {P : Program} {l n : Nat} {ops : Array Oper} {Q : Exit → Act → World → Prop} {md : Region.Mode}
theorem oper_round {o : Oper} {a : Act} {w : World} {K : Act → World → Prop} (hs : simpleOp o = true) (hh : o.wp P a w K Q) : o.wpIn (Fence.wide.inRound l) n P a w K Q := by
  unfold Oper.wpIn
  refine ⟨fun _ _ => trivial, ?_⟩
  rw [Oper.semAt_eq _ _ _ (simple_defer hs)]
  unfold Oper.wp at hh
  cases hr : (execOp a.eval o).run P w with
  | ok x w' =>
    rw [hr] at hh
    rcases simple_next hs hr with ⟨v, rfl⟩ | rfl
    · exact hh
    · exact hh
  | halt e w' =>
    rw [hr] at hh
    cases e <;> first | exact hh | exact (hh : False).elim

/-- Only the plain way out. -/
def Just (K : Act → World → Prop) : Exit → Act → World → Prop
  | .normal, a, w => K a w
  | _, _, _ => False
theorem wpOp_round {i : Nat} {a : Act} {w : World} {K : Act → World → Prop} {J : Act → World → Prop} (hs : ops.all simpleOp = true) (hh : wpOp P ops (Just J) i K a w) : wpOpIn (Fence.wide.inRound l) n P ops (Just J) i K a w := by
  unfold wpOp at hh
  unfold wpOpIn
  cases ho : ops[i]? with
  | none => rw [ho] at hh; exact hh
  | some o =>
    rw [ho] at hh
    have hso : simpleOp o = true := (Array.all_eq_true'.1 hs) o (Array.mem_of_getElem? ho)
    dsimp only at hh ⊢
    split
    · rename_i hw
      rw [if_pos hw] at hh
      rcases hh with h | ⟨_, _, _, h⟩
      · exact oper_round hso h
      · exact h.elim
    · rename_i hw
      rw [if_neg hw] at hh
      exact ⟨fun _ _ => trivial, hh⟩
theorem wpAny_round {J : Act → World → Prop} (hs : ops.all simpleOp = true) : ∀ (fuel : Nat) (listed : Array Bool) (a : Act) (w : World), wpAny P md ops (Just J) fuel listed a w → wpAnyIn (Fence.wide.inRound l) n P md ops (Just J) fuel listed a w
  | 0, _, _, _, h => h
  | fuel + 1, _, _, _, h => ⟨h.1, fun i hi => wpOpIn_mono (fun a' w' h' => wpAny_round hs fuel _ a' w' h') (wpOp_round hs (h.2 i hi))⟩
theorem wp_region_round {id : Nat} {a : Act} {w : World} (hm : P.follows .mixedOrders = true) (hs : ops.all simpleOp = true)
    (h : wpAny P .any ops (Just (Q .normal)) ops.size (Array.replicate ops.size false) a w.drew) : (Code.region id ops true).wpIn (Fence.wide.inRound l) n P Q a w := by
  refine Code.wpIn_mono (Q := Just (Q .normal)) (fun e a w h => ?_) (wpIn_region_any hm (wpAny_round hs _ _ _ _ h))
  cases e <;> first | exact h | exact (h : False).elim
end

end Go.Proofs.YtgpaajdfkekjiaaGreatDoor
