/-
  Texts of this claim: ReadRunsPB.
-/
import Derived.Test.YtigdmebijbaofaaGreatDoorRows
import Derived.Test.YtigdmebijbaofaaGreatDoorTie
import Derived.Test.YtigdmebijbaofaaGreatDoorCards
import Derived.Test.YtigdmebijbaofaaGreatDoorReadM35
import Derived.Test.YtigdmebijbaofaaGreatDoorReadM36
import Derived.Test.YtigdmebijbaofaaGreatDoorReadM37
import Derived.Below
import Derived.WalkKit
import Derived.ProofKit
import Derived.OpenShut
import Derived.ShutString
import Derived.ChangeOld
import Derived.SevenTiedAt

/-! ### ReadRunsPB -/

namespace Go.Proofs.YtigdmebijbaofaaGreatDoor.readRuns
open Go.ChangeShapes Go.WideShapes Go.ChangeAt Go.RowKit
open Go.ChangeMaps (open_string shut_string)
set_option linter.unusedVariables false
theorem over : Rows.readRunsRow.holds Tryz.pinned (OpenSpec.ofChange Rows.readRunsSpec) :=
 OpenClaim.holds_of_wide 9 Tryz.f9 rfl rfl rfl rfl rfl rfl rfl ⟨rfl, rfl, rfl, rfl, rfl⟩ rfl rfl rfl rfl rfl (by kernel_rfl) Tryz.func9 closed
  (of_decide_eq_true (by kernel_rfl)) (by unfold Func.isWrapper; first | (rw [if_pos (by decide +kernel)]; kernel_rfl) | (rw [if_neg (by decide +kernel)]; exact ⟨rfl, rfl⟩))
  (fun os started H enc _ => lifted os started H enc)
end Go.Proofs.YtigdmebijbaofaaGreatDoor.readRuns
