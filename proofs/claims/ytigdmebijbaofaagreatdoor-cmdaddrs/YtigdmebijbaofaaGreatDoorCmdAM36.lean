/-
  Texts of this claim: CmdAddrsPB.
-/
import Derived.Test.YtigdmebijbaofaaGreatDoorRows
import Derived.Test.YtigdmebijbaofaaGreatDoorTie
import Derived.Test.YtigdmebijbaofaaGreatDoorCards
import Derived.Test.YtigdmebijbaofaaGreatDoorCmdAM30
import Derived.Test.YtigdmebijbaofaaGreatDoorCmdAM32
import Derived.Test.YtigdmebijbaofaaGreatDoorCmdAM33
import Derived.Test.YtigdmebijbaofaaGreatDoorCmdAM34
import Derived.Test.YtigdmebijbaofaaGreatDoorCmdAM35
import Derived.Below
import Derived.WalkKit
import Derived.ProofKit
import Derived.OpenShut
import Derived.ShutString
import Derived.ChangeOld
import Derived.SevenTiedAt

/-! ### CmdAddrsPB -/

namespace Go.Proofs.YtigdmebijbaofaaGreatDoor.cmdAddrs
open Go.ChangeShapes Go.WideShapes Go.ChangeAt Go.RowKit
open Go.ChangeMaps (open_string shut_string)
set_option linter.unusedVariables false
theorem over : Rows.cmdAddrsRow.holds Tryz.pinned (OpenSpec.ofChange Rows.cmdAddrsSpec) :=
 OpenClaim.holds_of_wide 8 Tryz.f8 rfl rfl rfl rfl rfl rfl rfl ⟨rfl, rfl, rfl, rfl, rfl⟩ rfl rfl rfl rfl rfl (by kernel_rfl) Tryz.func8 closed
  (of_decide_eq_true (by kernel_rfl)) (by unfold Func.isWrapper; first | (rw [if_pos (by decide +kernel)]; kernel_rfl) | (rw [if_neg (by decide +kernel)]; exact ⟨rfl, rfl⟩))
  (fun os started H enc _ => lifted os started H enc)
end Go.Proofs.YtigdmebijbaofaaGreatDoor.cmdAddrs
