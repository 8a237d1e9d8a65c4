/-
 Proved: the law ReadRuns of glosslaw9 returns true (chapter 9's runs). The tied card, no condition.
-/
import Derived.Test.YtigdmebijbaofaaGreatDoorRows
import Derived.Test.YtigdmebijbaofaaGreatDoorTie
import Derived.Test.YtigdmebijbaofaaGreatDoorCards
import Derived.Test.YtigdmebijbaofaaGreatDoorReadM35
import Derived.Test.YtigdmebijbaofaaGreatDoorReadM38
import Derived.Below
import Derived.WalkKit
import Derived.ProofKit
import Derived.OpenShut
import Derived.ShutString
import Derived.ChangeOld
import Derived.SevenTiedAt

/-! ### ReadRunsProof -/

namespace Go.Proofs.YtigdmebijbaofaaGreatDoor.readRuns
open Go.ChangeShapes Go.WideShapes Go.ChangeAt Go.RowKit
open Go.ChangeMaps (open_string shut_string)
set_option linter.unusedVariables false
set_option maxHeartbeats 4000000 in
set_option maxRecDepth 100000 in
theorem carded : Rows.ReadRunsCardSaid :=
 Claim7.holds_tied_plain_at .later [] [.data, .data, .data] true (true, "cd13b6ab80215b93a2e6e72a5f7bda48a934154112d7bb3ee3652eca18f06d00") false
  over (fun _ h => by cases h) (by as_aux_lemma => kernel_rfl) (fun _ h => by cases h) readRuns_row_tie rfl ⟨rfl, rfl⟩ (by as_aux_lemma => kernel_rfl) rfl
  (fun f fn hf hfn => by
   obtain rfl : f = 9 := Option.some.inj ((show Tryz.prog.funcNamed "gloss/glosslaw9.ReadRuns" = some 9 by as_aux_lemma => kernel_rfl).symm.trans hf) |>.symm
   obtain rfl : fn = Tryz.f9 := (Option.some.inj (Tryz.func9.symm.trans hfn)).symm
   exact ⟨by as_aux_lemma => kernel_rfl, fun j t ht => by
    rw [Tryz.params9] at ht
    simp at ht⟩)
  (by as_aux_lemma => kernel_rfl)

end Go.Proofs.YtigdmebijbaofaaGreatDoor.readRuns
namespace Go.Proofs.YtigdmebijbaofaaGreatDoor

theorem readRuns_holds : Rows.ReadRunsCardSaid := readRuns.carded

end Go.Proofs.YtigdmebijbaofaaGreatDoor
