/-
  DERIVED. GIVEN WITH THE SEED: THE CARDS: each row of YtgpaajdfkekjiaaDoorRows.lean that lists a variable, with what it lists TIED to the program's text (the seventh form; the later family's looks); each row that meets fmt, with fmt's text TOLD by the authors' own Lean function (tested against real Go, not proved from fmt's source: count such statements apart). THE CARD IS WHAT COUNTS. Prove the row's statement (the work); the ties are given (YtgpaajdfkekjiaaDoorTie.lean); close each card by the builder's one call (the guide's Derived/Test/ToyasCard.lean, 'card_holds'). Laid BY PROGRAM, IN A SANDBOX (cutbox-door.mjs). By AI agents, Wed Nov 11 2026. No macro, syntax, notation, axiom, sorry.
-/
import Derived.Test.YtgpaajdfkekjiaaDoorRows
import GoSem.ClaimSeven
namespace Go.Proofs.YtgpaajdfkekjiaaDoor
namespace Rows

/-- THE TIED CARD OF 'latchkeep.Back'. -/
def backCard : Claim7 := { stood := { row := backRow, standIns := [], harness := (true, "ed7ee9a4af64f21473c740a64efa3d24a80e069c7f418d75561db65b72d040f1"), looks := true }, kinds := [], alts := [], laidByText := true, laidKinds := [.data, .data, .data, .data, .sentinel, .sentinel, .pinned], laidTests := true, laidLooks := .later }
def BackCardSaid : Prop := Claim7.holds Tryd.pinned (.plain (OpenSpec.ofChange backSpec)) backCard

/-- THE TIED CARD OF 'latchkeep.Slimmer'. -/
def slimmerCard : Claim7 := { stood := { row := slimmerRow, standIns := [], harness := (true, "ed7ee9a4af64f21473c740a64efa3d24a80e069c7f418d75561db65b72d040f1"), looks := true }, kinds := [], alts := [], laidByText := true, laidKinds := [.data, .data, .data], laidTests := true, laidLooks := .later }
def SlimmerCardSaid : Prop := Claim7.holds Tryd.pinned (.plain (OpenSpec.ofChange slimmerSpec)) slimmerCard

/-- THE TIED CARD OF 'latchkeep.Told'. -/
def toldCard : Claim7 := { stood := { row := toldRow, standIns := [], harness := (true, "ed7ee9a4af64f21473c740a64efa3d24a80e069c7f418d75561db65b72d040f1"), looks := true }, kinds := [], alts := [], laidByText := true, laidKinds := [.data, .data], laidTests := true, laidLooks := .later }
def ToldCardSaid : Prop := Claim7.holds Tryd.pinned (.plain (OpenSpec.ofChange toldSpec)) toldCard

/-- THE TIED CARD OF 'latchkeep.Turned'. -/
def turnedCard : Claim7 := { stood := { row := turnedRow, standIns := [], harness := (true, "ed7ee9a4af64f21473c740a64efa3d24a80e069c7f418d75561db65b72d040f1"), looks := true }, kinds := [], alts := [], laidByText := true, laidKinds := [.data, .data], laidTests := true, laidLooks := .later }
def TurnedCardSaid : Prop := Claim7.holds Tryd.pinned (.plain (OpenSpec.ofChange turnedSpec)) turnedCard

/-- THE SECOND FORM's CARD OF 'latchkeep.Back'. -/
def backUptoCard : Claim7 := { stood := { row := backUptoRow, standIns := [], harness := (true, "ed7ee9a4af64f21473c740a64efa3d24a80e069c7f418d75561db65b72d040f1"), looks := true }, kinds := [], alts := [], laidByText := true, laidKinds := [.data, .data, .data, .data, .sentinel, .sentinel, .pinned], laidTests := true, laidLooks := .later }
def BackUptoCardSaid : Prop := Claim7.holds Tryd.pinned (.plain (OpenSpec.upto backSpec)) backUptoCard

/-- THE SECOND FORM's CARD OF 'latchkeep.Slimmer'. -/
def slimmerUptoCard : Claim7 := { stood := { row := slimmerUptoRow, standIns := [], harness := (true, "ed7ee9a4af64f21473c740a64efa3d24a80e069c7f418d75561db65b72d040f1"), looks := true }, kinds := [], alts := [], laidByText := true, laidKinds := [.data, .data, .data], laidTests := true, laidLooks := .later }
def SlimmerUptoCardSaid : Prop := Claim7.holds Tryd.pinned (.plain (OpenSpec.upto slimmerSpec)) slimmerUptoCard

/-- THE SECOND FORM's CARD OF 'latchkeep.Told'. -/
def toldUptoCard : Claim7 := { stood := { row := toldUptoRow, standIns := [], harness := (true, "ed7ee9a4af64f21473c740a64efa3d24a80e069c7f418d75561db65b72d040f1"), looks := true }, kinds := [], alts := [], laidByText := true, laidKinds := [.data, .data], laidTests := true, laidLooks := .later }
def ToldUptoCardSaid : Prop := Claim7.holds Tryd.pinned (.plain (OpenSpec.upto toldSpec)) toldUptoCard

/-- THE SECOND FORM's CARD OF 'latchkeep.Turned'. -/
def turnedUptoCard : Claim7 := { stood := { row := turnedUptoRow, standIns := [], harness := (true, "ed7ee9a4af64f21473c740a64efa3d24a80e069c7f418d75561db65b72d040f1"), looks := true }, kinds := [], alts := [], laidByText := true, laidKinds := [.data, .data], laidTests := true, laidLooks := .later }
def TurnedUptoCardSaid : Prop := Claim7.holds Tryd.pinned (.plain (OpenSpec.upto turnedSpec)) turnedUptoCard
end Rows
end Go.Proofs.YtgpaajdfkekjiaaDoor
