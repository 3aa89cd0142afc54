/-
  DERIVED. GIVEN WITH THE SEED: THE CARDS: each row of YtgpaajdfkekjiaaGreatDoorRows.lean that lists a variable, with what it lists TIED to the program's text (the seventh form; the later family's looks); each row that meets fmt, with fmt's text TOLD by the authors' own Lean function (tested against real Go, not proved from fmt's source: count such statements apart). THE CARD IS WHAT COUNTS. Prove the row's statement (the work); the ties are given (YtgpaajdfkekjiaaGreatDoorTie.lean); close each card by the builder's one call (the guide's Derived/Test/ToyasCard.lean, 'card_holds'). Laid BY PROGRAM, IN A SANDBOX (cutbox-door.mjs). By AI agents, Wed Nov 11 2026. No macro, syntax, notation, axiom, sorry.
-/
import Derived.Test.YtgpaajdfkekjiaaGreatDoorRows
import GoSem.ClaimSeven
namespace Go.Proofs.YtgpaajdfkekjiaaGreatDoor
namespace Rows

/-- THE TIED CARD OF 'latchlaw.Reads'. -/
def readsCard : Claim7 := { stood := { row := readsRow, standIns := [], harness := (true, "106e3d81a5124f334ac4c602ed4275deb7a1ed8f6392cba894608766fc645acc"), looks := true }, kinds := [], alts := [], laidByText := true, laidKinds := [.data, .data, .data, .data, .sentinel, .sentinel, .pinned], laidTests := true, laidLooks := .later }
def ReadsCardSaid : Prop := Claim7.holds Tryz.pinned (.plain (OpenSpec.ofChange readsSpec)) readsCard

/-- THE TIED CARD OF 'latchlaw.Writes'. -/
def writesCard : Claim7 := { stood := { row := writesRow, standIns := [], harness := (true, "106e3d81a5124f334ac4c602ed4275deb7a1ed8f6392cba894608766fc645acc"), looks := true }, kinds := [], alts := [], laidByText := true, laidKinds := [.data, .data, .data, .data, .sentinel, .sentinel, .pinned], laidTests := true, laidLooks := .later }
def WritesCardSaid : Prop := Claim7.holds Tryz.pinned (.plain (OpenSpec.ofChange writesSpec)) writesCard

/-- THE TIED CARD OF 'latchlaw.Runs'. -/
def runsCard : Claim7 := { stood := { row := runsRow, standIns := [], harness := (true, "106e3d81a5124f334ac4c602ed4275deb7a1ed8f6392cba894608766fc645acc"), looks := true }, kinds := [], alts := [], laidByText := true, laidKinds := [.data, .data, .data, .data, .sentinel, .sentinel, .pinned], laidTests := true, laidLooks := .later }
def RunsCardSaid : Prop := Claim7.holds Tryz.pinned (.plain (OpenSpec.ofChange runsSpec)) runsCard

/-- THE TIED CARD OF 'latchlaw.Slims'. -/
def slimsCard : Claim7 := { stood := { row := slimsRow, standIns := [], harness := (true, "106e3d81a5124f334ac4c602ed4275deb7a1ed8f6392cba894608766fc645acc"), looks := true }, kinds := [], alts := [], laidByText := true, laidKinds := [.data, .data, .data, .data, .sentinel, .sentinel, .pinned], laidTests := true, laidLooks := .later }
def SlimsCardSaid : Prop := Claim7.holds Tryz.pinned (.plain (OpenSpec.ofChange slimsSpec)) slimsCard

/-- THE TIED CARD OF 'latchlaw.Chancy'. -/
def chancyCard : Claim7 := { stood := { row := chancyRow, standIns := [], harness := (true, "106e3d81a5124f334ac4c602ed4275deb7a1ed8f6392cba894608766fc645acc"), looks := true }, kinds := [], alts := [], laidByText := true, laidKinds := [.data, .data, .data, .data, .sentinel, .sentinel, .pinned], laidTests := true, laidLooks := .later }
def ChancyCardSaid : Prop := Claim7.holds Tryz.pinned (.plain (OpenSpec.ofChange chancySpec)) chancyCard

/-- THE TIED CARD OF 'latchlaw.Compares'. -/
def comparesCard : Claim7 := { stood := { row := comparesRow, standIns := [], harness := (true, "106e3d81a5124f334ac4c602ed4275deb7a1ed8f6392cba894608766fc645acc"), looks := true }, kinds := [], alts := [], laidByText := true, laidKinds := [.data, .data, .data, .data, .sentinel, .sentinel, .pinned], laidTests := true, laidLooks := .later }
def ComparesCardSaid : Prop := Claim7.holds Tryz.pinned (.plain (OpenSpec.ofChange comparesSpec)) comparesCard

/-- THE TIED CARD OF 'latchlaw.All'. -/
def allCard : Claim7 := { stood := { row := allRow, standIns := [], harness := (true, "106e3d81a5124f334ac4c602ed4275deb7a1ed8f6392cba894608766fc645acc"), looks := true }, kinds := [], alts := [], laidByText := true, laidKinds := [.data, .data, .data, .data, .sentinel, .sentinel, .pinned], laidTests := true, laidLooks := .later }
def AllCardSaid : Prop := Claim7.holds Tryz.pinned (.plain (OpenSpec.ofChange allSpec)) allCard

/-- THE SECOND FORM's CARD OF 'latchlaw.Reads'. -/
def readsUptoCard : Claim7 := { stood := { row := readsUptoRow, standIns := [], harness := (true, "106e3d81a5124f334ac4c602ed4275deb7a1ed8f6392cba894608766fc645acc"), looks := true }, kinds := [], alts := [], laidByText := true, laidKinds := [.data, .data, .data, .data, .sentinel, .sentinel, .pinned], laidTests := true, laidLooks := .later }
def ReadsUptoCardSaid : Prop := Claim7.holds Tryz.pinned (.plain (OpenSpec.upto readsSpec)) readsUptoCard

/-- THE SECOND FORM's CARD OF 'latchlaw.Writes'. -/
def writesUptoCard : Claim7 := { stood := { row := writesUptoRow, standIns := [], harness := (true, "106e3d81a5124f334ac4c602ed4275deb7a1ed8f6392cba894608766fc645acc"), looks := true }, kinds := [], alts := [], laidByText := true, laidKinds := [.data, .data, .data, .data, .sentinel, .sentinel, .pinned], laidTests := true, laidLooks := .later }
def WritesUptoCardSaid : Prop := Claim7.holds Tryz.pinned (.plain (OpenSpec.upto writesSpec)) writesUptoCard

/-- THE SECOND FORM's CARD OF 'latchlaw.Runs'. -/
def runsUptoCard : Claim7 := { stood := { row := runsUptoRow, standIns := [], harness := (true, "106e3d81a5124f334ac4c602ed4275deb7a1ed8f6392cba894608766fc645acc"), looks := true }, kinds := [], alts := [], laidByText := true, laidKinds := [.data, .data, .data, .data, .sentinel, .sentinel, .pinned], laidTests := true, laidLooks := .later }
def RunsUptoCardSaid : Prop := Claim7.holds Tryz.pinned (.plain (OpenSpec.upto runsSpec)) runsUptoCard

/-- THE SECOND FORM's CARD OF 'latchlaw.Slims'. -/
def slimsUptoCard : Claim7 := { stood := { row := slimsUptoRow, standIns := [], harness := (true, "106e3d81a5124f334ac4c602ed4275deb7a1ed8f6392cba894608766fc645acc"), looks := true }, kinds := [], alts := [], laidByText := true, laidKinds := [.data, .data, .data, .data, .sentinel, .sentinel, .pinned], laidTests := true, laidLooks := .later }
def SlimsUptoCardSaid : Prop := Claim7.holds Tryz.pinned (.plain (OpenSpec.upto slimsSpec)) slimsUptoCard

/-- THE SECOND FORM's CARD OF 'latchlaw.Chancy'. -/
def chancyUptoCard : Claim7 := { stood := { row := chancyUptoRow, standIns := [], harness := (true, "106e3d81a5124f334ac4c602ed4275deb7a1ed8f6392cba894608766fc645acc"), looks := true }, kinds := [], alts := [], laidByText := true, laidKinds := [.data, .data, .data, .data, .sentinel, .sentinel, .pinned], laidTests := true, laidLooks := .later }
def ChancyUptoCardSaid : Prop := Claim7.holds Tryz.pinned (.plain (OpenSpec.upto chancySpec)) chancyUptoCard

/-- THE SECOND FORM's CARD OF 'latchlaw.Compares'. -/
def comparesUptoCard : Claim7 := { stood := { row := comparesUptoRow, standIns := [], harness := (true, "106e3d81a5124f334ac4c602ed4275deb7a1ed8f6392cba894608766fc645acc"), looks := true }, kinds := [], alts := [], laidByText := true, laidKinds := [.data, .data, .data, .data, .sentinel, .sentinel, .pinned], laidTests := true, laidLooks := .later }
def ComparesUptoCardSaid : Prop := Claim7.holds Tryz.pinned (.plain (OpenSpec.upto comparesSpec)) comparesUptoCard

/-- THE SECOND FORM's CARD OF 'latchlaw.All'. -/
def allUptoCard : Claim7 := { stood := { row := allUptoRow, standIns := [], harness := (true, "106e3d81a5124f334ac4c602ed4275deb7a1ed8f6392cba894608766fc645acc"), looks := true }, kinds := [], alts := [], laidByText := true, laidKinds := [.data, .data, .data, .data, .sentinel, .sentinel, .pinned], laidTests := true, laidLooks := .later }
def AllUptoCardSaid : Prop := Claim7.holds Tryz.pinned (.plain (OpenSpec.upto allSpec)) allUptoCard
end Rows
end Go.Proofs.YtgpaajdfkekjiaaGreatDoor
