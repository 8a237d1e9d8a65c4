/-
  DERIVED. GIVEN WITH THE SEED: THE CARDS: each row of YtommgdgilcemdaaGreatDoorRows.lean that lists a variable, with what it lists TIED to the program's text (the seventh form; the later family's looks); each row that meets fmt, with fmt's text TOLD by the authors' own Lean function (tested against real Go, not proved from fmt's source: count such statements apart). THE CARD IS WHAT COUNTS. Prove the row's statement (the work); the ties are given (YtommgdgilcemdaaGreatDoorTie.lean); close each card by the builder's one call (the guide's Derived/Test/ToyasCard.lean, 'card_holds'). Laid BY PROGRAM, IN A SANDBOX (cutbox-door.mjs). By AI agents, Wed Nov 11 2026. No macro, syntax, notation, axiom, sorry.
-/
import Derived.Test.YtommgdgilcemdaaGreatDoorRows
import GoSem.ClaimSeven
namespace Go.Proofs.YtommgdgilcemdaaGreatDoor
namespace Rows

/-- THE TIED CARD OF 'glosslaw8.CmdRuns'. -/
def cmdRunsCard : Claim7 := { stood := { row := cmdRunsRow, standIns := [], harness := (true, "83058e917f773d7ae6798968f2d05561e50962e1245fc37b3c6339206dbeca4b"), looks := false }, kinds := [], alts := [], laidByText := true, laidKinds := [.data, .data, .data], laidTests := true, laidLooks := .later }
def CmdRunsCardSaid : Prop := Claim7.holds Tryz.pinned (.plain (OpenSpec.ofChange cmdRunsSpec)) cmdRunsCard

/-- THE TIED CARD OF 'glosslaw8.CmdTells'. -/
def cmdTellsCard : Claim7 := { stood := { row := cmdTellsRow, standIns := [], harness := (true, "83058e917f773d7ae6798968f2d05561e50962e1245fc37b3c6339206dbeca4b"), looks := false }, kinds := [], alts := [], laidByText := true, laidKinds := [.data, .data, .data], laidTests := true, laidLooks := .later }
def CmdTellsCardSaid : Prop := Claim7.holds Tryz.pinned (.plain (OpenSpec.ofChange cmdTellsSpec)) cmdTellsCard

/-- THE TIED CARD OF 'glosslaw8.CmdTurned'. -/
def cmdTurnedCard : Claim7 := { stood := { row := cmdTurnedRow, standIns := [], harness := (true, "83058e917f773d7ae6798968f2d05561e50962e1245fc37b3c6339206dbeca4b"), looks := false }, kinds := [], alts := [], laidByText := true, laidKinds := [.data, .data, .data], laidTests := true, laidLooks := .later }
def CmdTurnedCardSaid : Prop := Claim7.holds Tryz.pinned (.plain (OpenSpec.ofChange cmdTurnedSpec)) cmdTurnedCard

/-- THE TIED CARD OF 'glosslaw8.CmdOne'. -/
def cmdOneCard : Claim7 := { stood := { row := cmdOneRow, standIns := [], harness := (true, "83058e917f773d7ae6798968f2d05561e50962e1245fc37b3c6339206dbeca4b"), looks := false }, kinds := [], alts := [], laidByText := true, laidKinds := [.data, .data, .data], laidTests := true, laidLooks := .later }
def CmdOneCardSaid : Prop := Claim7.holds Tryz.pinned (.plain (OpenSpec.ofChange cmdOneSpec)) cmdOneCard

/-- THE TIED CARD OF 'glosslaw8.CmdLabels'. -/
def cmdLabelsCard : Claim7 := { stood := { row := cmdLabelsRow, standIns := [], harness := (true, "83058e917f773d7ae6798968f2d05561e50962e1245fc37b3c6339206dbeca4b"), looks := false }, kinds := [], alts := [], laidByText := true, laidKinds := [.data, .data, .data], laidTests := true, laidLooks := .later }
def CmdLabelsCardSaid : Prop := Claim7.holds Tryz.pinned (.plain (OpenSpec.ofChange cmdLabelsSpec)) cmdLabelsCard

/-- THE TIED CARD OF 'glosslaw8.CmdAddrs'. -/
def cmdAddrsCard : Claim7 := { stood := { row := cmdAddrsRow, standIns := [], harness := (true, "83058e917f773d7ae6798968f2d05561e50962e1245fc37b3c6339206dbeca4b"), looks := false }, kinds := [], alts := [], laidByText := true, laidKinds := [.data, .data, .data], laidTests := true, laidLooks := .later }
def CmdAddrsCardSaid : Prop := Claim7.holds Tryz.pinned (.plain (OpenSpec.ofChange cmdAddrsSpec)) cmdAddrsCard

/-- THE SECOND FORM's CARD OF 'glosslaw8.CmdRuns'. -/
def cmdRunsUptoCard : Claim7 := { stood := { row := cmdRunsUptoRow, standIns := [], harness := (true, "83058e917f773d7ae6798968f2d05561e50962e1245fc37b3c6339206dbeca4b"), looks := false }, kinds := [], alts := [], laidByText := true, laidKinds := [.data, .data, .data], laidTests := true, laidLooks := .later }
def CmdRunsUptoCardSaid : Prop := Claim7.holds Tryz.pinned (.plain (OpenSpec.upto cmdRunsSpec)) cmdRunsUptoCard

/-- THE SECOND FORM's CARD OF 'glosslaw8.CmdTells'. -/
def cmdTellsUptoCard : Claim7 := { stood := { row := cmdTellsUptoRow, standIns := [], harness := (true, "83058e917f773d7ae6798968f2d05561e50962e1245fc37b3c6339206dbeca4b"), looks := false }, kinds := [], alts := [], laidByText := true, laidKinds := [.data, .data, .data], laidTests := true, laidLooks := .later }
def CmdTellsUptoCardSaid : Prop := Claim7.holds Tryz.pinned (.plain (OpenSpec.upto cmdTellsSpec)) cmdTellsUptoCard

/-- THE SECOND FORM's CARD OF 'glosslaw8.CmdTurned'. -/
def cmdTurnedUptoCard : Claim7 := { stood := { row := cmdTurnedUptoRow, standIns := [], harness := (true, "83058e917f773d7ae6798968f2d05561e50962e1245fc37b3c6339206dbeca4b"), looks := false }, kinds := [], alts := [], laidByText := true, laidKinds := [.data, .data, .data], laidTests := true, laidLooks := .later }
def CmdTurnedUptoCardSaid : Prop := Claim7.holds Tryz.pinned (.plain (OpenSpec.upto cmdTurnedSpec)) cmdTurnedUptoCard

/-- THE SECOND FORM's CARD OF 'glosslaw8.CmdOne'. -/
def cmdOneUptoCard : Claim7 := { stood := { row := cmdOneUptoRow, standIns := [], harness := (true, "83058e917f773d7ae6798968f2d05561e50962e1245fc37b3c6339206dbeca4b"), looks := false }, kinds := [], alts := [], laidByText := true, laidKinds := [.data, .data, .data], laidTests := true, laidLooks := .later }
def CmdOneUptoCardSaid : Prop := Claim7.holds Tryz.pinned (.plain (OpenSpec.upto cmdOneSpec)) cmdOneUptoCard

/-- THE SECOND FORM's CARD OF 'glosslaw8.CmdLabels'. -/
def cmdLabelsUptoCard : Claim7 := { stood := { row := cmdLabelsUptoRow, standIns := [], harness := (true, "83058e917f773d7ae6798968f2d05561e50962e1245fc37b3c6339206dbeca4b"), looks := false }, kinds := [], alts := [], laidByText := true, laidKinds := [.data, .data, .data], laidTests := true, laidLooks := .later }
def CmdLabelsUptoCardSaid : Prop := Claim7.holds Tryz.pinned (.plain (OpenSpec.upto cmdLabelsSpec)) cmdLabelsUptoCard

/-- THE SECOND FORM's CARD OF 'glosslaw8.CmdAddrs'. -/
def cmdAddrsUptoCard : Claim7 := { stood := { row := cmdAddrsUptoRow, standIns := [], harness := (true, "83058e917f773d7ae6798968f2d05561e50962e1245fc37b3c6339206dbeca4b"), looks := false }, kinds := [], alts := [], laidByText := true, laidKinds := [.data, .data, .data], laidTests := true, laidLooks := .later }
def CmdAddrsUptoCardSaid : Prop := Claim7.holds Tryz.pinned (.plain (OpenSpec.upto cmdAddrsSpec)) cmdAddrsUptoCard
end Rows
end Go.Proofs.YtommgdgilcemdaaGreatDoor
