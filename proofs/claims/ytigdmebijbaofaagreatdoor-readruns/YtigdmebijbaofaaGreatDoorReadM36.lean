/-
  Texts of this claim: ReadRunsOv.
-/
import Derived.Test.YtigdmebijbaofaaGreatDoorRows
import Derived.JoinedOf
import Derived.ProofKit

/-! ### ReadRunsOv -/

namespace Go.Proofs.YtigdmebijbaofaaGreatDoor.readRuns
set_option maxRecDepth 100000
set_option maxHeartbeats 4000000
theorem closed : joinedFacts Tryz.pinned.checked.prog 9 Tryz.f9 Rows.readRunsSpec Rows.readRunsRow = true := by
 unfold joinedFacts
 simp only [Bool.and_eq_true]
 repeat' apply And.intro
 all_goals (as_aux_lemma => kernel_rfl)
end Go.Proofs.YtigdmebijbaofaaGreatDoor.readRuns
