/-
  Texts of this claim: ReadDeepOv.
-/
import Derived.Test.YtigdmebijbaofaaGreatDoorRows
import Derived.JoinedOf
import Derived.ProofKit
/-! ### ReadDeepOv -/
namespace Go.Proofs.YtigdmebijbaofaaGreatDoor.readDeep
set_option maxRecDepth 100000
set_option maxHeartbeats 4000000
theorem closed : joinedFacts Tryz.pinned.checked.prog 13 Tryz.f13 Rows.readDeepSpec Rows.readDeepRow = true := by
 unfold joinedFacts
 simp only [Bool.and_eq_true]
 repeat' apply And.intro
 all_goals (as_aux_lemma => kernel_rfl)
end Go.Proofs.YtigdmebijbaofaaGreatDoor.readDeep
