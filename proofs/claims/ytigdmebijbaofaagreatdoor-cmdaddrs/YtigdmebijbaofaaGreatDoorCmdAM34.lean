/-
  Texts of this claim: CmdAddrsOv.
-/
import Derived.Test.YtigdmebijbaofaaGreatDoorRows
import Derived.JoinedOf
import Derived.ProofKit

/-! ### CmdAddrsOv -/

namespace Go.Proofs.YtigdmebijbaofaaGreatDoor.cmdAddrs
set_option maxRecDepth 100000
set_option maxHeartbeats 4000000
theorem closed : joinedFacts Tryz.pinned.checked.prog 8 Tryz.f8 Rows.cmdAddrsSpec Rows.cmdAddrsRow = true := by
 unfold joinedFacts
 simp only [Bool.and_eq_true]
 repeat' apply And.intro
 all_goals (as_aux_lemma => kernel_rfl)
end Go.Proofs.YtigdmebijbaofaaGreatDoor.cmdAddrs
