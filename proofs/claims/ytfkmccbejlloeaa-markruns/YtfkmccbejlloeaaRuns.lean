/-
  The closed law MarkRuns.
-/
import Derived.Test.YtfkmccbejlloeaaWalks
namespace Go.Proofs.Ytfkmccbejlloeaa
open Go.RowKit

set_option maxHeartbeats 1000000 in
theorem runs_core (w : World) : Calls Try.prog 3 #[] w fun e w' => e = .returned (.bool true) ∧ ∃ c, w' = w.alloc (.cells c 22) := by
  have q1 := run_ceql (P := Try.prog) 22 0 0 0 0 (by decide) (by decide) (by decide) (by decide)
  rw [F_zero] at q1
  have q2 := run_ceql (P := Try.prog) 22 1 3 1 3 (by decide) (by decide) (by decide) (by decide)
  go_enter Try.func3, Try.ntmps3
  go_wp2_with (go_at_call 9; refine (of_any _ _ _).mono ?_; rintro e w' ⟨rfl, rfl⟩)
  refine (sum_two 1 5 2 7 _ _ rfl (by omega) (by omega) (by omega) (by omega) (by omega) (by omega)).mono ?_
  rintro e w' ⟨rfl, rfl⟩
  go_wp2_with fail
  refine (text_any ⟨#[97, 10, 98]⟩ _ (by decide)).mono ?_
  rintro e w' ⟨rfl, rfl⟩
  rw [show textLines ⟨#[97, 10, 98]⟩ = 2 by decide]
  go_wp2_with (first | (go_at_call 11; refine (lines_any _ _ _ (by decide)).mono ?_; rintro e w' ⟨rfl, rfl⟩) | (go_at_call 12; refine (bytes_any _ _ _ (by decide)).mono ?_; rintro e w' ⟨rfl, rfl⟩))
  refine (sum_nil _).mono ?_
  rintro e w' ⟨rfl, rfl⟩
  rw [F_zero]
  go_wp2_with (first | (go_at_call 9; refine (of_any _ _ _).mono ?_; rintro e w' ⟨rfl, rfl⟩) | (go_at_call 13; refine (line_any ⟨#[97, 98]⟩ _ (by decide)).mono ?_; rintro e w' ⟨rfl, rfl⟩))
  go_ret
  exact ⟨rfl, _, rfl⟩

theorem runs_any (w : World) : Calls Try.prog 3 #[] w fun e w' => e = .returned (.bool true) ∧ Grown w w' := by
  refine (runs_core w).mono ?_
  rintro e w' ⟨he, c, hw⟩
  rw [hw]
  exact ⟨he, (Grown.refl _).alloc _ _⟩

theorem runs_below (w : World) : Calls Try.prog 3 #[] w fun e w' => e = .returned (.bool true) ∧ Below w.heap.size w w' := by
  refine (runs_core w).mono ?_
  rintro e w' ⟨he, c, hw⟩
  rw [hw]
  exact ⟨he, (Below.refl _ _).alloc (Nat.le_refl _) _⟩
end Go.Proofs.Ytfkmccbejlloeaa
