/-
  DERIVED. GIVEN WITH THE SEED: THE CARDS: each row of YtikmgckefbjbkaaGreatDoorRows.lean that lists a variable, with what it lists TIED to the program's text (the seventh form; the later family's looks); each row that meets fmt, with fmt's text TOLD by the authors' own Lean function (tested against real Go, not proved from fmt's source: count such statements apart). THE CARD IS WHAT COUNTS. Prove the row's statement (the work); the ties are given (YtikmgckefbjbkaaGreatDoorTie.lean); close each card by the builder's one call (the guide's Derived/Test/ToyasCard.lean, 'card_holds'). Laid BY PROGRAM, IN A SANDBOX (cutbox-door.mjs). By AI agents, Wed Nov 11 2026. No macro, syntax, notation, axiom, sorry.
-/
import Derived.Test.YtikmgckefbjbkaaGreatDoorRows
import GoSem.ClaimSeven
namespace Go.Proofs.YtikmgckefbjbkaaGreatDoor
namespace Rows

/-- THE TIED CARD OF 'glosslaw4.RxRuns'. -/
def rxRunsCard : Claim7 := { stood := { row := rxRunsRow, standIns := [], harness := (true, "b0fe336dcdce6718dfc6eec349fd5cdbe898f712e022f33c787b29cefe3acb2a"), looks := false }, kinds := [], alts := [], laidByText := true, laidKinds := [.data, .data, .data], laidTests := true, laidLooks := .later }
def RxRunsCardSaid : Prop := Claim7.holds Tryz.pinned (.plain (OpenSpec.ofChange rxRunsSpec)) rxRunsCard

/-- THE TIED CARD OF 'glosslaw4.RxTells'. -/
def rxTellsCard : Claim7 := { stood := { row := rxTellsRow, standIns := [], harness := (true, "b0fe336dcdce6718dfc6eec349fd5cdbe898f712e022f33c787b29cefe3acb2a"), looks := false }, kinds := [], alts := [], laidByText := true, laidKinds := [.data, .data, .data], laidTests := true, laidLooks := .later }
def RxTellsCardSaid : Prop := Claim7.holds Tryz.pinned (.plain (OpenSpec.ofChange rxTellsSpec)) rxTellsCard

/-- THE TIED CARD OF 'glosslaw4.RxBack'. -/
def rxBackCard : Claim7 := { stood := { row := rxBackRow, standIns := [], harness := (true, "b0fe336dcdce6718dfc6eec349fd5cdbe898f712e022f33c787b29cefe3acb2a"), looks := false }, kinds := [], alts := [], laidByText := true, laidKinds := [.data, .data, .data], laidTests := true, laidLooks := .later }
def RxBackCardSaid : Prop := Claim7.holds Tryz.pinned (.plain (OpenSpec.ofChange rxBackSpec)) rxBackCard

/-- THE TIED CARD OF 'glosslaw4.RxOnly'. -/
def rxOnlyCard : Claim7 := { stood := { row := rxOnlyRow, standIns := [], harness := (true, "b0fe336dcdce6718dfc6eec349fd5cdbe898f712e022f33c787b29cefe3acb2a"), looks := false }, kinds := [], alts := [], laidByText := true, laidKinds := [.data, .data, .data], laidTests := true, laidLooks := .later }
def RxOnlyCardSaid : Prop := Claim7.holds Tryz.pinned (.plain (OpenSpec.ofChange rxOnlySpec)) rxOnlyCard

/-- THE TIED CARD OF 'glosslaw4.RxSets'. -/
def rxSetsCard : Claim7 := { stood := { row := rxSetsRow, standIns := [], harness := (true, "b0fe336dcdce6718dfc6eec349fd5cdbe898f712e022f33c787b29cefe3acb2a"), looks := false }, kinds := [], alts := [], laidByText := true, laidKinds := [.data, .data, .data], laidTests := true, laidLooks := .later }
def RxSetsCardSaid : Prop := Claim7.holds Tryz.pinned (.plain (OpenSpec.ofChange rxSetsSpec)) rxSetsCard

/-- THE TIED CARD OF 'glosslaw4.RxPlain'. -/
def rxPlainCard : Claim7 := { stood := { row := rxPlainRow, standIns := [], harness := (true, "b0fe336dcdce6718dfc6eec349fd5cdbe898f712e022f33c787b29cefe3acb2a"), looks := false }, kinds := [], alts := [], laidByText := true, laidKinds := [.data, .data, .data], laidTests := true, laidLooks := .later }
def RxPlainCardSaid : Prop := Claim7.holds Tryz.pinned (.plain (OpenSpec.ofChange rxPlainSpec)) rxPlainCard

/-- THE SECOND FORM's CARD OF 'glosslaw4.RxRuns'. -/
def rxRunsUptoCard : Claim7 := { stood := { row := rxRunsUptoRow, standIns := [], harness := (true, "b0fe336dcdce6718dfc6eec349fd5cdbe898f712e022f33c787b29cefe3acb2a"), looks := false }, kinds := [], alts := [], laidByText := true, laidKinds := [.data, .data, .data], laidTests := true, laidLooks := .later }
def RxRunsUptoCardSaid : Prop := Claim7.holds Tryz.pinned (.plain (OpenSpec.upto rxRunsSpec)) rxRunsUptoCard

/-- THE SECOND FORM's CARD OF 'glosslaw4.RxTells'. -/
def rxTellsUptoCard : Claim7 := { stood := { row := rxTellsUptoRow, standIns := [], harness := (true, "b0fe336dcdce6718dfc6eec349fd5cdbe898f712e022f33c787b29cefe3acb2a"), looks := false }, kinds := [], alts := [], laidByText := true, laidKinds := [.data, .data, .data], laidTests := true, laidLooks := .later }
def RxTellsUptoCardSaid : Prop := Claim7.holds Tryz.pinned (.plain (OpenSpec.upto rxTellsSpec)) rxTellsUptoCard

/-- THE SECOND FORM's CARD OF 'glosslaw4.RxBack'. -/
def rxBackUptoCard : Claim7 := { stood := { row := rxBackUptoRow, standIns := [], harness := (true, "b0fe336dcdce6718dfc6eec349fd5cdbe898f712e022f33c787b29cefe3acb2a"), looks := false }, kinds := [], alts := [], laidByText := true, laidKinds := [.data, .data, .data], laidTests := true, laidLooks := .later }
def RxBackUptoCardSaid : Prop := Claim7.holds Tryz.pinned (.plain (OpenSpec.upto rxBackSpec)) rxBackUptoCard

/-- THE SECOND FORM's CARD OF 'glosslaw4.RxOnly'. -/
def rxOnlyUptoCard : Claim7 := { stood := { row := rxOnlyUptoRow, standIns := [], harness := (true, "b0fe336dcdce6718dfc6eec349fd5cdbe898f712e022f33c787b29cefe3acb2a"), looks := false }, kinds := [], alts := [], laidByText := true, laidKinds := [.data, .data, .data], laidTests := true, laidLooks := .later }
def RxOnlyUptoCardSaid : Prop := Claim7.holds Tryz.pinned (.plain (OpenSpec.upto rxOnlySpec)) rxOnlyUptoCard

/-- THE SECOND FORM's CARD OF 'glosslaw4.RxSets'. -/
def rxSetsUptoCard : Claim7 := { stood := { row := rxSetsUptoRow, standIns := [], harness := (true, "b0fe336dcdce6718dfc6eec349fd5cdbe898f712e022f33c787b29cefe3acb2a"), looks := false }, kinds := [], alts := [], laidByText := true, laidKinds := [.data, .data, .data], laidTests := true, laidLooks := .later }
def RxSetsUptoCardSaid : Prop := Claim7.holds Tryz.pinned (.plain (OpenSpec.upto rxSetsSpec)) rxSetsUptoCard

/-- THE SECOND FORM's CARD OF 'glosslaw4.RxPlain'. -/
def rxPlainUptoCard : Claim7 := { stood := { row := rxPlainUptoRow, standIns := [], harness := (true, "b0fe336dcdce6718dfc6eec349fd5cdbe898f712e022f33c787b29cefe3acb2a"), looks := false }, kinds := [], alts := [], laidByText := true, laidKinds := [.data, .data, .data], laidTests := true, laidLooks := .later }
def RxPlainUptoCardSaid : Prop := Claim7.holds Tryz.pinned (.plain (OpenSpec.upto rxPlainSpec)) rxPlainUptoCard
end Rows
end Go.Proofs.YtikmgckefbjbkaaGreatDoor
