/-
  The closed law BsetRuns.
-/
import Derived.Test.YtfijmepkbflahaaNames
namespace Go.Proofs.Ytfijmepkbflahaa
open Go.RowKit

theorem not_zero (w : World) : Calls Try.prog 13 #[vv 0 0 0 0] w fun e w' => e = .returned (sv (notB (fun _ => false))) ∧ Kp w w' := by
  rw [← sv_none]; exact not_any _ w

theorem cnt_four : cnt (orB (rng 97 99) (addB (fun _ => false) 122)) 256 = 4 := by decide +kernel
theorem cnt_xdigit : cnt cXdigit 256 = 22 := by decide +kernel
theorem cnt_all : cnt (notB (fun _ => false)) 256 = 256 := by decide +kernel

set_option maxRecDepth 100000 in
set_option maxHeartbeats 1000000 in
theorem runs_any (w : World) : Calls Try.prog 3 #[] w fun e w' => e = .returned (.bool true) ∧ Kp w w' := by
  go_enter Try.func3, Try.ntmps3
  go_wp2_with fail
  refine (class_xdigit _).mono ?_
  rintro e w1 ⟨rfl, k1⟩
  have K1 : Hid (Kp w w1) := k1
  clear k1
  go_wp2_with fail
  refine (range_any 97 99 _ (by omega) (by omega)).mono ?_
  rintro e w2 ⟨rfl, k2⟩
  have K2 : Hid (Kp (w1.alloc (blk cXdigit)) w2) := k2
  clear k2
  go_wp2_with fail
  refine (of_one 122 _ _ (by simp) (by omega)).mono ?_
  rintro e w3 ⟨rfl, k3⟩
  have K3 : Hid (Kp (w1.alloc (blk cXdigit)) w3) := K2.out.trans k3
  clear k3
  go_wp2_with fail
  refine (join2 (rng 97 99) (addB (fun _ => false) 122) _ _ (by simp) (last_of _ _)).mono ?_
  rintro e w4 ⟨rfl, k4⟩
  have K4 : Hid (Kp (w1.alloc (blk cXdigit)) w4) := (K3.out.alloc _).trans k4
  clear k4
  go_wp2_with fail
  refine (count_any _ _).mono ?_
  rintro e w5 ⟨rfl, k5⟩
  rw [cnt_four]
  have K5 : Hid (Kp (w1.alloc (blk cXdigit)) w5) := K4.out.trans k5
  clear k5
  obtain ⟨d0, d1, d2, d3⟩ := (K5.out.at (At.new w1 cXdigit)).cells
  go_wp2_with fail
  refine (count_any cXdigit _).mono ?_
  rintro e w6 ⟨rfl, k6⟩
  rw [cnt_xdigit]
  have K6 : Hid (Kp (w1.alloc (blk cXdigit)) w6) := K5.out.trans k6
  clear k6
  go_wp2_with fail
  refine (not_zero _).mono ?_
  rintro e w7 ⟨rfl, k7⟩
  have K7 : Hid (Kp (w1.alloc (blk cXdigit)) w7) := K6.out.trans k7
  clear k7
  go_wp2_with fail
  refine (count_any _ _).mono ?_
  rintro e w8 ⟨rfl, k8⟩
  rw [cnt_all]
  have K8 : Hid (Kp (w1.alloc (blk cXdigit)) w8) := K7.out.trans k8
  clear k8
  go_wp2_with fail
  go_ret
  exact ⟨rfl, (K1.out.alloc _).trans K8.out⟩
end Go.Proofs.Ytfijmepkbflahaa
