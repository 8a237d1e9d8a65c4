/-
 Proved: the law ReadDeep of glosslaw9 returns true for every two numbers (P9.1, P9.3). The tied card, no condition.
-/
import Derived.Test.YtigdmebijbaofaaGreatDoorRows
import Derived.Test.YtigdmebijbaofaaGreatDoorTie
import Derived.Test.YtigdmebijbaofaaGreatDoorCards
import Derived.Test.YtigdmebijbaofaaGreatDoorReadDM35
import Derived.Test.YtigdmebijbaofaaGreatDoorReadDM38
import Derived.Below
import Derived.WalkKit
import Derived.ProofKit
import Derived.OpenShut
import Derived.ShutString
import Derived.ChangeOld
import Derived.SevenTiedAt
/-! ### ReadDeepProof -/
namespace Go.Proofs.YtigdmebijbaofaaGreatDoor.readDeep
open Go.ChangeShapes Go.WideShapes Go.ChangeAt Go.RowKit
open Go.ChangeMaps (open_string shut_string)
set_option linter.unusedVariables false
set_option maxHeartbeats 4000000 in
set_option maxRecDepth 100000 in
theorem carded : Rows.ReadDeepCardSaid :=
 Claim7.holds_tied_plain_at .later [] [.data, .data, .data] true (true, "cd13b6ab80215b93a2e6e72a5f7bda48a934154112d7bb3ee3652eca18f06d00") false
  over (fun _ h => by cases h) (by as_aux_lemma => kernel_rfl) (fun _ h => by cases h) readDeep_row_tie rfl ⟨rfl, rfl⟩ (by as_aux_lemma => kernel_rfl) rfl
  (fun f fn hf hfn => by
   obtain rfl : f = 13 := Option.some.inj ((show Tryz.prog.funcNamed "gloss/glosslaw9.ReadDeep" = some 13 by as_aux_lemma => kernel_rfl).symm.trans hf) |>.symm
   obtain rfl : fn = Tryz.f13 := (Option.some.inj (Tryz.func13.symm.trans hfn)).symm
   exact ⟨by as_aux_lemma => kernel_rfl, fun j t ht => by
    rw [Tryz.params13] at ht
    have hm : t ∈ [3, 3] := by simpa using Array.mem_of_getElem? ht
    have hall : ([3, 3].all fun u => !Tryz.prog.wantsStandIn u) = true := by as_aux_lemma => kernel_rfl
    exact (show Tryz.prog.wantsStandIn t = false by simpa using List.all_eq_true.1 hall t hm)⟩)
  (by as_aux_lemma => kernel_rfl)
end Go.Proofs.YtigdmebijbaofaaGreatDoor.readDeep
namespace Go.Proofs.YtigdmebijbaofaaGreatDoor
theorem readDeep_holds : Rows.ReadDeepCardSaid := readDeep.carded
end Go.Proofs.YtigdmebijbaofaaGreatDoor
