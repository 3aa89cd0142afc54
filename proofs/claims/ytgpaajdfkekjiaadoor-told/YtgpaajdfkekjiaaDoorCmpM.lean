/-
  The methods that an interface value over package compare's ways leads to.
-/
import Derived.Test.YtgpaajdfkekjiaaDoorCmpD
namespace Go.Proofs.YtgpaajdfkekjiaaDoor
open Go.RowKit

theorem Tryd.mPush (P : Nat) (w : World) : (method 300 93 (.pointer (some ⟨P, 0, none⟩)) "Push").run Tryd.prog w = .ok (138, .pointer (some ⟨P, 0, none⟩)) w := by kernel_rfl
theorem Tryd.mPop (P : Nat) (w : World) : (method 300 93 (.pointer (some ⟨P, 0, none⟩)) "Pop").run Tryd.prog w = .ok (137, .pointer (some ⟨P, 0, none⟩)) w := by kernel_rfl
theorem Tryd.mLen {P : Nat} {w : World} {hv : Value} (h : w.cell? ⟨P, 0, none⟩ = some hv) : (method 300 93 (.pointer (some ⟨P, 0, none⟩)) "Len").run Tryd.prog w = .ok (46, hv) w := by
  have e : (method 300 93 (.pointer (some ⟨P, 0, none⟩)) "Len").run Tryd.prog w = (do let v ← loadVar 97 ⟨P, 0, none⟩; pure (46, v) : Sem (FuncId × Value)).run Tryd.prog w := by kernel_rfl
  rw [e]
  simp [go_sem, h]

theorem Tryd.mLess {P : Nat} {w : World} {hv : Value} (h : w.cell? ⟨P, 0, none⟩ = some hv) : (method 300 93 (.pointer (some ⟨P, 0, none⟩)) "Less").run Tryd.prog w = .ok (136, hv) w := by
  have e : (method 300 93 (.pointer (some ⟨P, 0, none⟩)) "Less").run Tryd.prog w = (do let v ← loadVar 97 ⟨P, 0, none⟩; pure (136, v) : Sem (FuncId × Value)).run Tryd.prog w := by kernel_rfl
  rw [e]
  simp [go_sem, h]

theorem Tryd.mSwap {P : Nat} {w : World} {hv : Value} (h : w.cell? ⟨P, 0, none⟩ = some hv) : (method 300 93 (.pointer (some ⟨P, 0, none⟩)) "Swap").run Tryd.prog w = .ok (139, hv) w := by
  have e : (method 300 93 (.pointer (some ⟨P, 0, none⟩)) "Swap").run Tryd.prog w = (do let v ← loadVar 97 ⟨P, 0, none⟩; pure (139, v) : Sem (FuncId × Value)).run Tryd.prog w := by kernel_rfl
  rw [e]
  simp [go_sem, h]

end Go.Proofs.YtgpaajdfkekjiaaDoor
