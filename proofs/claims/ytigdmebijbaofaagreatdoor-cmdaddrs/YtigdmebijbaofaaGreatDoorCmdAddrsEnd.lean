/-
 Proved: the law CmdAddrs of glosslaw8 returns true for every number, every two rows of numbers, either way (P8.1 to P8.3). The tied card, no condition.
-/
import Derived.Test.YtigdmebijbaofaaGreatDoorRows
import Derived.Test.YtigdmebijbaofaaGreatDoorTie
import Derived.Test.YtigdmebijbaofaaGreatDoorCards
import Derived.Test.YtigdmebijbaofaaGreatDoorCmdAM30
import Derived.Test.YtigdmebijbaofaaGreatDoorCmdAM32
import Derived.Test.YtigdmebijbaofaaGreatDoorCmdAM33
import Derived.Test.YtigdmebijbaofaaGreatDoorCmdAM36
import Derived.Below
import Derived.WalkKit
import Derived.ProofKit
import Derived.OpenShut
import Derived.ShutString
import Derived.ChangeOld
import Derived.SevenTiedAt

/-! ### CmdAddrsProof -/

namespace Go.Proofs.YtigdmebijbaofaaGreatDoor.cmdAddrs
open Go.ChangeShapes Go.WideShapes Go.ChangeAt Go.RowKit
open Go.ChangeMaps (open_string shut_string)
set_option linter.unusedVariables false
set_option maxHeartbeats 4000000 in
set_option maxRecDepth 100000 in
theorem carded : Rows.CmdAddrsCardSaid :=
 Claim7.holds_tied_plain_at .later [] [.data, .data, .data] true (true, "cd13b6ab80215b93a2e6e72a5f7bda48a934154112d7bb3ee3652eca18f06d00") false
  over (fun _ h => by cases h) (by as_aux_lemma => kernel_rfl) (fun _ h => by cases h) cmdAddrs_row_tie rfl ⟨rfl, rfl⟩ (by as_aux_lemma => kernel_rfl) rfl
  (fun f fn hf hfn => by
   obtain rfl : f = 8 := Option.some.inj ((show Tryz.prog.funcNamed "gloss/glosslaw8.CmdAddrs" = some 8 by as_aux_lemma => kernel_rfl).symm.trans hf) |>.symm
   obtain rfl : fn = Tryz.f8 := (Option.some.inj (Tryz.func8.symm.trans hfn)).symm
   exact ⟨by as_aux_lemma => kernel_rfl, fun j t ht => by
    rw [Tryz.params8] at ht
    have hm : t ∈ [3, 44, 3, 4] := by simpa using Array.mem_of_getElem? ht
    have hall : ([3, 44, 3, 4].all fun u => !Tryz.prog.wantsStandIn u) = true := by as_aux_lemma => kernel_rfl
    exact (show Tryz.prog.wantsStandIn t = false by simpa using List.all_eq_true.1 hall t hm)⟩)
  (by as_aux_lemma => kernel_rfl)

end Go.Proofs.YtigdmebijbaofaaGreatDoor.cmdAddrs
namespace Go.Proofs.YtigdmebijbaofaaGreatDoor

theorem cmdAddrs_holds : Rows.CmdAddrsCardSaid := cmdAddrs.carded

end Go.Proofs.YtigdmebijbaofaaGreatDoor
