/-
  DERIVED. GIVEN WITH THE SEED: THE CARDS: each row of YtikmgckefbjbkabGreatDoorRows.lean that lists a variable, with what it lists TIED to the program's text (the seventh form; the later family's looks); each row that meets fmt, with fmt's text TOLD by the authors' own Lean function (tested against real Go, not proved from fmt's source: count such statements apart). THE CARD IS WHAT COUNTS. Prove the row's statement (the work); the ties are given (YtikmgckefbjbkabGreatDoorTie.lean); close each card by the builder's one call (the guide's Derived/Test/ToyasCard.lean, 'card_holds'). Laid BY PROGRAM, IN A SANDBOX (cutbox-door.mjs). By AI agents, Wed Nov 11 2026. No macro, syntax, notation, axiom, sorry.
-/
import Derived.Test.YtikmgckefbjbkabGreatDoorRows
import GoSem.ClaimSeven
namespace Go.Proofs.YtikmgckefbjbkabGreatDoor
namespace Rows

/-- THE TIED CARD OF 'glosslaw4.RxReps'. -/
def rxRepsCard : Claim7 := { stood := { row := rxRepsRow, standIns := [], harness := (true, "d7f39d193829e72837050156560bcd563f74548b4f356ef346653581ae90b154"), looks := false }, kinds := [], alts := [], laidByText := true, laidKinds := [.data, .data, .data], laidTests := true, laidLooks := .later }
def RxRepsCardSaid : Prop := Claim7.holds Tryz.pinned (.plain (OpenSpec.ofChange rxRepsSpec)) rxRepsCard

/-- THE TIED CARD OF 'glosslaw4.RxGroups'. -/
def rxGroupsCard : Claim7 := { stood := { row := rxGroupsRow, standIns := [], harness := (true, "d7f39d193829e72837050156560bcd563f74548b4f356ef346653581ae90b154"), looks := false }, kinds := [], alts := [], laidByText := true, laidKinds := [.data, .data, .data], laidTests := true, laidLooks := .later }
def RxGroupsCardSaid : Prop := Claim7.holds Tryz.pinned (.plain (OpenSpec.ofChange rxGroupsSpec)) rxGroupsCard

/-- THE TIED CARD OF 'glosslaw4.RxBoth'. -/
def rxBothCard : Claim7 := { stood := { row := rxBothRow, standIns := [], harness := (true, "d7f39d193829e72837050156560bcd563f74548b4f356ef346653581ae90b154"), looks := false }, kinds := [], alts := [], laidByText := true, laidKinds := [.data, .data, .data], laidTests := true, laidLooks := .later }
def RxBothCardSaid : Prop := Claim7.holds Tryz.pinned (.plain (OpenSpec.ofChange rxBothSpec)) rxBothCard

/-- THE SECOND FORM's CARD OF 'glosslaw4.RxReps'. -/
def rxRepsUptoCard : Claim7 := { stood := { row := rxRepsUptoRow, standIns := [], harness := (true, "d7f39d193829e72837050156560bcd563f74548b4f356ef346653581ae90b154"), looks := false }, kinds := [], alts := [], laidByText := true, laidKinds := [.data, .data, .data], laidTests := true, laidLooks := .later }
def RxRepsUptoCardSaid : Prop := Claim7.holds Tryz.pinned (.plain (OpenSpec.upto rxRepsSpec)) rxRepsUptoCard

/-- THE SECOND FORM's CARD OF 'glosslaw4.RxGroups'. -/
def rxGroupsUptoCard : Claim7 := { stood := { row := rxGroupsUptoRow, standIns := [], harness := (true, "d7f39d193829e72837050156560bcd563f74548b4f356ef346653581ae90b154"), looks := false }, kinds := [], alts := [], laidByText := true, laidKinds := [.data, .data, .data], laidTests := true, laidLooks := .later }
def RxGroupsUptoCardSaid : Prop := Claim7.holds Tryz.pinned (.plain (OpenSpec.upto rxGroupsSpec)) rxGroupsUptoCard

/-- THE SECOND FORM's CARD OF 'glosslaw4.RxBoth'. -/
def rxBothUptoCard : Claim7 := { stood := { row := rxBothUptoRow, standIns := [], harness := (true, "d7f39d193829e72837050156560bcd563f74548b4f356ef346653581ae90b154"), looks := false }, kinds := [], alts := [], laidByText := true, laidKinds := [.data, .data, .data], laidTests := true, laidLooks := .later }
def RxBothUptoCardSaid : Prop := Claim7.holds Tryz.pinned (.plain (OpenSpec.upto rxBothSpec)) rxBothUptoCard
end Rows
end Go.Proofs.YtikmgckefbjbkabGreatDoor
