/-
  DERIVED. GIVEN WITH THE SEED: THE CARDS: each row of YtigdmebijbaofaaGreatDoorRows.lean that lists a variable, with what it lists TIED to the program's text (the seventh form; the later family's looks); each row that meets fmt, with fmt's text TOLD by the authors' own Lean function (tested against real Go, not proved from fmt's source: count such statements apart). THE CARD IS WHAT COUNTS. Prove the row's statement (the work); the ties are given (YtigdmebijbaofaaGreatDoorTie.lean); close each card by the builder's one call (the guide's Derived/Test/ToyasCard.lean, 'card_holds'). Laid BY PROGRAM, IN A SANDBOX (cutbox-door.mjs). By AI agents, Wed Nov 11 2026. No macro, syntax, notation, axiom, sorry.
-/
import Derived.Test.YtigdmebijbaofaaGreatDoorRows
import GoSem.ClaimSeven
namespace Go.Proofs.YtigdmebijbaofaaGreatDoor
namespace Rows

/-- THE TIED CARD OF 'glosslaw8.CmdRuns'. -/
def cmdRunsCard : Claim7 := { stood := { row := cmdRunsRow, standIns := [], harness := (true, "cd13b6ab80215b93a2e6e72a5f7bda48a934154112d7bb3ee3652eca18f06d00"), looks := false }, kinds := [], alts := [], laidByText := true, laidKinds := [.data, .data, .data], laidTests := true, laidLooks := .later }
def CmdRunsCardSaid : Prop := Claim7.holds Tryz.pinned (.plain (OpenSpec.ofChange cmdRunsSpec)) cmdRunsCard

/-- THE TIED CARD OF 'glosslaw8.CmdTells'. -/
def cmdTellsCard : Claim7 := { stood := { row := cmdTellsRow, standIns := [], harness := (true, "cd13b6ab80215b93a2e6e72a5f7bda48a934154112d7bb3ee3652eca18f06d00"), looks := false }, kinds := [], alts := [], laidByText := true, laidKinds := [.data, .data, .data], laidTests := true, laidLooks := .later }
def CmdTellsCardSaid : Prop := Claim7.holds Tryz.pinned (.plain (OpenSpec.ofChange cmdTellsSpec)) cmdTellsCard

/-- THE TIED CARD OF 'glosslaw8.CmdTurned'. -/
def cmdTurnedCard : Claim7 := { stood := { row := cmdTurnedRow, standIns := [], harness := (true, "cd13b6ab80215b93a2e6e72a5f7bda48a934154112d7bb3ee3652eca18f06d00"), looks := false }, kinds := [], alts := [], laidByText := true, laidKinds := [.data, .data, .data], laidTests := true, laidLooks := .later }
def CmdTurnedCardSaid : Prop := Claim7.holds Tryz.pinned (.plain (OpenSpec.ofChange cmdTurnedSpec)) cmdTurnedCard

/-- THE TIED CARD OF 'glosslaw8.CmdOne'. -/
def cmdOneCard : Claim7 := { stood := { row := cmdOneRow, standIns := [], harness := (true, "cd13b6ab80215b93a2e6e72a5f7bda48a934154112d7bb3ee3652eca18f06d00"), looks := false }, kinds := [], alts := [], laidByText := true, laidKinds := [.data, .data, .data], laidTests := true, laidLooks := .later }
def CmdOneCardSaid : Prop := Claim7.holds Tryz.pinned (.plain (OpenSpec.ofChange cmdOneSpec)) cmdOneCard

/-- THE TIED CARD OF 'glosslaw8.CmdLabels'. -/
def cmdLabelsCard : Claim7 := { stood := { row := cmdLabelsRow, standIns := [], harness := (true, "cd13b6ab80215b93a2e6e72a5f7bda48a934154112d7bb3ee3652eca18f06d00"), looks := false }, kinds := [], alts := [], laidByText := true, laidKinds := [.data, .data, .data], laidTests := true, laidLooks := .later }
def CmdLabelsCardSaid : Prop := Claim7.holds Tryz.pinned (.plain (OpenSpec.ofChange cmdLabelsSpec)) cmdLabelsCard

/-- THE TIED CARD OF 'glosslaw8.CmdAddrs'. -/
def cmdAddrsCard : Claim7 := { stood := { row := cmdAddrsRow, standIns := [], harness := (true, "cd13b6ab80215b93a2e6e72a5f7bda48a934154112d7bb3ee3652eca18f06d00"), looks := false }, kinds := [], alts := [], laidByText := true, laidKinds := [.data, .data, .data], laidTests := true, laidLooks := .later }
def CmdAddrsCardSaid : Prop := Claim7.holds Tryz.pinned (.plain (OpenSpec.ofChange cmdAddrsSpec)) cmdAddrsCard

/-- THE TIED CARD OF 'glosslaw9.ReadRuns'. -/
def readRunsCard : Claim7 := { stood := { row := readRunsRow, standIns := [], harness := (true, "cd13b6ab80215b93a2e6e72a5f7bda48a934154112d7bb3ee3652eca18f06d00"), looks := false }, kinds := [], alts := [], laidByText := true, laidKinds := [.data, .data, .data], laidTests := true, laidLooks := .later }
def ReadRunsCardSaid : Prop := Claim7.holds Tryz.pinned (.plain (OpenSpec.ofChange readRunsSpec)) readRunsCard

/-- THE TIED CARD OF 'glosslaw9.ReadBack'. -/
def readBackCard : Claim7 := { stood := { row := readBackRow, standIns := [], harness := (true, "cd13b6ab80215b93a2e6e72a5f7bda48a934154112d7bb3ee3652eca18f06d00"), looks := false }, kinds := [], alts := [], laidByText := true, laidKinds := [.data, .data, .data], laidTests := true, laidLooks := .later }
def ReadBackCardSaid : Prop := Claim7.holds Tryz.pinned (.plain (OpenSpec.ofChange readBackSpec)) readBackCard

/-- THE TIED CARD OF 'glosslaw9.ReadLoose'. -/
def readLooseCard : Claim7 := { stood := { row := readLooseRow, standIns := [], harness := (true, "cd13b6ab80215b93a2e6e72a5f7bda48a934154112d7bb3ee3652eca18f06d00"), looks := false }, kinds := [], alts := [], laidByText := true, laidKinds := [.data, .data, .data], laidTests := true, laidLooks := .later }
def ReadLooseCardSaid : Prop := Claim7.holds Tryz.pinned (.plain (OpenSpec.ofChange readLooseSpec)) readLooseCard

/-- THE TIED CARD OF 'glosslaw9.ReadOnly'. -/
def readOnlyCard : Claim7 := { stood := { row := readOnlyRow, standIns := [], harness := (true, "cd13b6ab80215b93a2e6e72a5f7bda48a934154112d7bb3ee3652eca18f06d00"), looks := false }, kinds := [], alts := [], laidByText := true, laidKinds := [.data, .data, .data], laidTests := true, laidLooks := .later }
def ReadOnlyCardSaid : Prop := Claim7.holds Tryz.pinned (.plain (OpenSpec.ofChange readOnlySpec)) readOnlyCard

/-- THE TIED CARD OF 'glosslaw9.ReadDeep'. -/
def readDeepCard : Claim7 := { stood := { row := readDeepRow, standIns := [], harness := (true, "cd13b6ab80215b93a2e6e72a5f7bda48a934154112d7bb3ee3652eca18f06d00"), looks := false }, kinds := [], alts := [], laidByText := true, laidKinds := [.data, .data, .data], laidTests := true, laidLooks := .later }
def ReadDeepCardSaid : Prop := Claim7.holds Tryz.pinned (.plain (OpenSpec.ofChange readDeepSpec)) readDeepCard

/-- THE TIED CARD OF 'glosslaw9.ReadTexts'. -/
def readTextsCard : Claim7 := { stood := { row := readTextsRow, standIns := [], harness := (true, "cd13b6ab80215b93a2e6e72a5f7bda48a934154112d7bb3ee3652eca18f06d00"), looks := false }, kinds := [], alts := [], laidByText := true, laidKinds := [.data, .data, .data], laidTests := true, laidLooks := .later }
def ReadTextsCardSaid : Prop := Claim7.holds Tryz.pinned (.plain (OpenSpec.ofChange readTextsSpec)) readTextsCard

/-- THE TIED CARD OF 'glosslaw9.ReadNumbers'. -/
def readNumbersCard : Claim7 := { stood := { row := readNumbersRow, standIns := [], harness := (true, "cd13b6ab80215b93a2e6e72a5f7bda48a934154112d7bb3ee3652eca18f06d00"), looks := false }, kinds := [], alts := [], laidByText := true, laidKinds := [.data, .data, .data], laidTests := true, laidLooks := .later }
def ReadNumbersCardSaid : Prop := Claim7.holds Tryz.pinned (.plain (OpenSpec.ofChange readNumbersSpec)) readNumbersCard

/-- THE TIED CARD OF 'glosslaw10.ProgRuns'. -/
def progRunsCard : Claim7 := { stood := { row := progRunsRow, standIns := [], harness := (true, "cd13b6ab80215b93a2e6e72a5f7bda48a934154112d7bb3ee3652eca18f06d00"), looks := false }, kinds := [], alts := [], laidByText := true, laidKinds := [.data, .data, .data], laidTests := true, laidLooks := .later }
def ProgRunsCardSaid : Prop := Claim7.holds Tryz.pinned (.plain (OpenSpec.ofChange progRunsSpec)) progRunsCard

/-- THE TIED CARD OF 'glosslaw10.ProgTells'. -/
def progTellsCard : Claim7 := { stood := { row := progTellsRow, standIns := [], harness := (true, "cd13b6ab80215b93a2e6e72a5f7bda48a934154112d7bb3ee3652eca18f06d00"), looks := false }, kinds := [], alts := [], laidByText := true, laidKinds := [.data, .data, .data], laidTests := true, laidLooks := .later }
def ProgTellsCardSaid : Prop := Claim7.holds Tryz.pinned (.plain (OpenSpec.ofChange progTellsSpec)) progTellsCard

/-- THE TIED CARD OF 'glosslaw10.ProgRefuses'. -/
def progRefusesCard : Claim7 := { stood := { row := progRefusesRow, standIns := [], harness := (true, "cd13b6ab80215b93a2e6e72a5f7bda48a934154112d7bb3ee3652eca18f06d00"), looks := false }, kinds := [], alts := [], laidByText := true, laidKinds := [.data, .data, .data], laidTests := true, laidLooks := .later }
def ProgRefusesCardSaid : Prop := Claim7.holds Tryz.pinned (.plain (OpenSpec.ofChange progRefusesSpec)) progRefusesCard

/-- THE TIED CARD OF 'glosslaw10.ProgJumps'. -/
def progJumpsCard : Claim7 := { stood := { row := progJumpsRow, standIns := [], harness := (true, "cd13b6ab80215b93a2e6e72a5f7bda48a934154112d7bb3ee3652eca18f06d00"), looks := false }, kinds := [], alts := [], laidByText := true, laidKinds := [.data, .data, .data], laidTests := true, laidLooks := .later }
def ProgJumpsCardSaid : Prop := Claim7.holds Tryz.pinned (.plain (OpenSpec.ofChange progJumpsSpec)) progJumpsCard

/-- THE TIED CARD OF 'glosslaw10.ProgCopies'. -/
def progCopiesCard : Claim7 := { stood := { row := progCopiesRow, standIns := [], harness := (true, "cd13b6ab80215b93a2e6e72a5f7bda48a934154112d7bb3ee3652eca18f06d00"), looks := false }, kinds := [], alts := [], laidByText := true, laidKinds := [.data, .data, .data], laidTests := true, laidLooks := .later }
def ProgCopiesCardSaid : Prop := Claim7.holds Tryz.pinned (.plain (OpenSpec.ofChange progCopiesSpec)) progCopiesCard

/-- THE SECOND FORM's CARD OF 'glosslaw8.CmdRuns'. -/
def cmdRunsUptoCard : Claim7 := { stood := { row := cmdRunsUptoRow, standIns := [], harness := (true, "cd13b6ab80215b93a2e6e72a5f7bda48a934154112d7bb3ee3652eca18f06d00"), looks := false }, kinds := [], alts := [], laidByText := true, laidKinds := [.data, .data, .data], laidTests := true, laidLooks := .later }
def CmdRunsUptoCardSaid : Prop := Claim7.holds Tryz.pinned (.plain (OpenSpec.upto cmdRunsSpec)) cmdRunsUptoCard

/-- THE SECOND FORM's CARD OF 'glosslaw8.CmdTells'. -/
def cmdTellsUptoCard : Claim7 := { stood := { row := cmdTellsUptoRow, standIns := [], harness := (true, "cd13b6ab80215b93a2e6e72a5f7bda48a934154112d7bb3ee3652eca18f06d00"), looks := false }, kinds := [], alts := [], laidByText := true, laidKinds := [.data, .data, .data], laidTests := true, laidLooks := .later }
def CmdTellsUptoCardSaid : Prop := Claim7.holds Tryz.pinned (.plain (OpenSpec.upto cmdTellsSpec)) cmdTellsUptoCard

/-- THE SECOND FORM's CARD OF 'glosslaw8.CmdTurned'. -/
def cmdTurnedUptoCard : Claim7 := { stood := { row := cmdTurnedUptoRow, standIns := [], harness := (true, "cd13b6ab80215b93a2e6e72a5f7bda48a934154112d7bb3ee3652eca18f06d00"), looks := false }, kinds := [], alts := [], laidByText := true, laidKinds := [.data, .data, .data], laidTests := true, laidLooks := .later }
def CmdTurnedUptoCardSaid : Prop := Claim7.holds Tryz.pinned (.plain (OpenSpec.upto cmdTurnedSpec)) cmdTurnedUptoCard

/-- THE SECOND FORM's CARD OF 'glosslaw8.CmdOne'. -/
def cmdOneUptoCard : Claim7 := { stood := { row := cmdOneUptoRow, standIns := [], harness := (true, "cd13b6ab80215b93a2e6e72a5f7bda48a934154112d7bb3ee3652eca18f06d00"), looks := false }, kinds := [], alts := [], laidByText := true, laidKinds := [.data, .data, .data], laidTests := true, laidLooks := .later }
def CmdOneUptoCardSaid : Prop := Claim7.holds Tryz.pinned (.plain (OpenSpec.upto cmdOneSpec)) cmdOneUptoCard

/-- THE SECOND FORM's CARD OF 'glosslaw8.CmdLabels'. -/
def cmdLabelsUptoCard : Claim7 := { stood := { row := cmdLabelsUptoRow, standIns := [], harness := (true, "cd13b6ab80215b93a2e6e72a5f7bda48a934154112d7bb3ee3652eca18f06d00"), looks := false }, kinds := [], alts := [], laidByText := true, laidKinds := [.data, .data, .data], laidTests := true, laidLooks := .later }
def CmdLabelsUptoCardSaid : Prop := Claim7.holds Tryz.pinned (.plain (OpenSpec.upto cmdLabelsSpec)) cmdLabelsUptoCard

/-- THE SECOND FORM's CARD OF 'glosslaw8.CmdAddrs'. -/
def cmdAddrsUptoCard : Claim7 := { stood := { row := cmdAddrsUptoRow, standIns := [], harness := (true, "cd13b6ab80215b93a2e6e72a5f7bda48a934154112d7bb3ee3652eca18f06d00"), looks := false }, kinds := [], alts := [], laidByText := true, laidKinds := [.data, .data, .data], laidTests := true, laidLooks := .later }
def CmdAddrsUptoCardSaid : Prop := Claim7.holds Tryz.pinned (.plain (OpenSpec.upto cmdAddrsSpec)) cmdAddrsUptoCard

/-- THE SECOND FORM's CARD OF 'glosslaw9.ReadRuns'. -/
def readRunsUptoCard : Claim7 := { stood := { row := readRunsUptoRow, standIns := [], harness := (true, "cd13b6ab80215b93a2e6e72a5f7bda48a934154112d7bb3ee3652eca18f06d00"), looks := false }, kinds := [], alts := [], laidByText := true, laidKinds := [.data, .data, .data], laidTests := true, laidLooks := .later }
def ReadRunsUptoCardSaid : Prop := Claim7.holds Tryz.pinned (.plain (OpenSpec.upto readRunsSpec)) readRunsUptoCard

/-- THE SECOND FORM's CARD OF 'glosslaw9.ReadBack'. -/
def readBackUptoCard : Claim7 := { stood := { row := readBackUptoRow, standIns := [], harness := (true, "cd13b6ab80215b93a2e6e72a5f7bda48a934154112d7bb3ee3652eca18f06d00"), looks := false }, kinds := [], alts := [], laidByText := true, laidKinds := [.data, .data, .data], laidTests := true, laidLooks := .later }
def ReadBackUptoCardSaid : Prop := Claim7.holds Tryz.pinned (.plain (OpenSpec.upto readBackSpec)) readBackUptoCard

/-- THE SECOND FORM's CARD OF 'glosslaw9.ReadLoose'. -/
def readLooseUptoCard : Claim7 := { stood := { row := readLooseUptoRow, standIns := [], harness := (true, "cd13b6ab80215b93a2e6e72a5f7bda48a934154112d7bb3ee3652eca18f06d00"), looks := false }, kinds := [], alts := [], laidByText := true, laidKinds := [.data, .data, .data], laidTests := true, laidLooks := .later }
def ReadLooseUptoCardSaid : Prop := Claim7.holds Tryz.pinned (.plain (OpenSpec.upto readLooseSpec)) readLooseUptoCard

/-- THE SECOND FORM's CARD OF 'glosslaw9.ReadOnly'. -/
def readOnlyUptoCard : Claim7 := { stood := { row := readOnlyUptoRow, standIns := [], harness := (true, "cd13b6ab80215b93a2e6e72a5f7bda48a934154112d7bb3ee3652eca18f06d00"), looks := false }, kinds := [], alts := [], laidByText := true, laidKinds := [.data, .data, .data], laidTests := true, laidLooks := .later }
def ReadOnlyUptoCardSaid : Prop := Claim7.holds Tryz.pinned (.plain (OpenSpec.upto readOnlySpec)) readOnlyUptoCard

/-- THE SECOND FORM's CARD OF 'glosslaw9.ReadDeep'. -/
def readDeepUptoCard : Claim7 := { stood := { row := readDeepUptoRow, standIns := [], harness := (true, "cd13b6ab80215b93a2e6e72a5f7bda48a934154112d7bb3ee3652eca18f06d00"), looks := false }, kinds := [], alts := [], laidByText := true, laidKinds := [.data, .data, .data], laidTests := true, laidLooks := .later }
def ReadDeepUptoCardSaid : Prop := Claim7.holds Tryz.pinned (.plain (OpenSpec.upto readDeepSpec)) readDeepUptoCard

/-- THE SECOND FORM's CARD OF 'glosslaw9.ReadTexts'. -/
def readTextsUptoCard : Claim7 := { stood := { row := readTextsUptoRow, standIns := [], harness := (true, "cd13b6ab80215b93a2e6e72a5f7bda48a934154112d7bb3ee3652eca18f06d00"), looks := false }, kinds := [], alts := [], laidByText := true, laidKinds := [.data, .data, .data], laidTests := true, laidLooks := .later }
def ReadTextsUptoCardSaid : Prop := Claim7.holds Tryz.pinned (.plain (OpenSpec.upto readTextsSpec)) readTextsUptoCard

/-- THE SECOND FORM's CARD OF 'glosslaw9.ReadNumbers'. -/
def readNumbersUptoCard : Claim7 := { stood := { row := readNumbersUptoRow, standIns := [], harness := (true, "cd13b6ab80215b93a2e6e72a5f7bda48a934154112d7bb3ee3652eca18f06d00"), looks := false }, kinds := [], alts := [], laidByText := true, laidKinds := [.data, .data, .data], laidTests := true, laidLooks := .later }
def ReadNumbersUptoCardSaid : Prop := Claim7.holds Tryz.pinned (.plain (OpenSpec.upto readNumbersSpec)) readNumbersUptoCard

/-- THE SECOND FORM's CARD OF 'glosslaw10.ProgRuns'. -/
def progRunsUptoCard : Claim7 := { stood := { row := progRunsUptoRow, standIns := [], harness := (true, "cd13b6ab80215b93a2e6e72a5f7bda48a934154112d7bb3ee3652eca18f06d00"), looks := false }, kinds := [], alts := [], laidByText := true, laidKinds := [.data, .data, .data], laidTests := true, laidLooks := .later }
def ProgRunsUptoCardSaid : Prop := Claim7.holds Tryz.pinned (.plain (OpenSpec.upto progRunsSpec)) progRunsUptoCard

/-- THE SECOND FORM's CARD OF 'glosslaw10.ProgTells'. -/
def progTellsUptoCard : Claim7 := { stood := { row := progTellsUptoRow, standIns := [], harness := (true, "cd13b6ab80215b93a2e6e72a5f7bda48a934154112d7bb3ee3652eca18f06d00"), looks := false }, kinds := [], alts := [], laidByText := true, laidKinds := [.data, .data, .data], laidTests := true, laidLooks := .later }
def ProgTellsUptoCardSaid : Prop := Claim7.holds Tryz.pinned (.plain (OpenSpec.upto progTellsSpec)) progTellsUptoCard

/-- THE SECOND FORM's CARD OF 'glosslaw10.ProgRefuses'. -/
def progRefusesUptoCard : Claim7 := { stood := { row := progRefusesUptoRow, standIns := [], harness := (true, "cd13b6ab80215b93a2e6e72a5f7bda48a934154112d7bb3ee3652eca18f06d00"), looks := false }, kinds := [], alts := [], laidByText := true, laidKinds := [.data, .data, .data], laidTests := true, laidLooks := .later }
def ProgRefusesUptoCardSaid : Prop := Claim7.holds Tryz.pinned (.plain (OpenSpec.upto progRefusesSpec)) progRefusesUptoCard

/-- THE SECOND FORM's CARD OF 'glosslaw10.ProgJumps'. -/
def progJumpsUptoCard : Claim7 := { stood := { row := progJumpsUptoRow, standIns := [], harness := (true, "cd13b6ab80215b93a2e6e72a5f7bda48a934154112d7bb3ee3652eca18f06d00"), looks := false }, kinds := [], alts := [], laidByText := true, laidKinds := [.data, .data, .data], laidTests := true, laidLooks := .later }
def ProgJumpsUptoCardSaid : Prop := Claim7.holds Tryz.pinned (.plain (OpenSpec.upto progJumpsSpec)) progJumpsUptoCard

/-- THE SECOND FORM's CARD OF 'glosslaw10.ProgCopies'. -/
def progCopiesUptoCard : Claim7 := { stood := { row := progCopiesUptoRow, standIns := [], harness := (true, "cd13b6ab80215b93a2e6e72a5f7bda48a934154112d7bb3ee3652eca18f06d00"), looks := false }, kinds := [], alts := [], laidByText := true, laidKinds := [.data, .data, .data], laidTests := true, laidLooks := .later }
def ProgCopiesUptoCardSaid : Prop := Claim7.holds Tryz.pinned (.plain (OpenSpec.upto progCopiesSpec)) progCopiesUptoCard
end Rows
end Go.Proofs.YtigdmebijbaofaaGreatDoor
