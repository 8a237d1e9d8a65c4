/-
  What bset.without does.
-/
import Derived.Test.YtikmgckefbjbkaaGreatDoorClass
namespace Go.Proofs.YtikmgckefbjbkaaGreatDoor
open Go.RowKit

theorem At.new' (w : World) (q : Nat → Bool) (B : Nat) (hB : B = w.heap.size) : At (w.alloc (blk q)) B q := by subst hB; exact At.new w q
theorem At.zero' (w : World) (B : Nat) (hB : B = w.heap.size) : At (w.alloc zero4) B (fun _ => false) := by subst hB; exact At.zero w

set_option maxRecDepth 100000 in
set_option maxHeartbeats 2000000 in
theorem without_any (s t : Nat → Bool) (w : World) : Calls Tryz.prog 120 #[sv s, sv t] w fun e w' => e = .returned (sv (less s t)) ∧ Kp w w' := by
  have A1 : Hid (At (((w.alloc (blk s)).alloc (blk t)).alloc zero4) (w.heap.size + 1) t) := (At.new' _ _ _ (by simp)).alloc _
  have A2 : Hid (At (((w.alloc (blk s)).alloc (blk t)).alloc zero4) (w.heap.size + 1 + 1) (fun _ => false)) := At.zero' _ _ (by simp)
  have S0 : Hid (Kp (((w.alloc (blk s)).alloc (blk t)).alloc zero4) (((w.alloc (blk s)).alloc (blk t)).alloc zero4)) := Kp.refl _
  go_enter Tryz.func120, Tryz.ntmps120
  go_wp2
  go_region_with (first
    | (go_at_call 55; have T := S0.out; clear T; refine (not_any s _).mono ?_; rintro e w1 ⟨rfl, k⟩; have S1 : Hid (Kp (((w.alloc (blk s)).alloc (blk t)).alloc zero4) w1) := (by refine Kp.trans ?_ k; first | exact S0.out | exact S0.out.drew | exact S0.out.drewN _); clear S0 k; obtain ⟨d0, d1, d2, d3⟩ := (S1.out.at A1.out).cells)
    | (go_at_call 23; refine (join2 (notB s) t _ _ ?hs ?hX).mono ?_; (case hs => simp); (case hX => exact last_of _ _); rintro e w2 ⟨rfl, k⟩; have S2 : Hid (Kp (((w.alloc (blk s)).alloc (blk t)).alloc zero4) w2) := (by refine Kp.trans ?_ k; first | exact S1.out.alloc _ | exact (S1.out.alloc _).drew | exact (S1.out.alloc _).drewN _); clear k)
    | (go_at_call 55; have T := S2.out; clear T; refine (not_any (orB (notB s) t) _).mono ?_; rintro e w3 ⟨rfl, k⟩; have S3 : Hid (Kp (((w.alloc (blk s)).alloc (blk t)).alloc zero4) w3) := (by refine Kp.trans ?_ k; first | exact S2.out | exact S2.out.drew | exact S2.out.drewN _); clear k; obtain ⟨e0, e1, e2, e3⟩ := (S3.out.at A2.out).cells; have f0 := (S3.out.at A2.out).frozen 0; have f1 := (S3.out.at A2.out).frozen 1; have f2 := (S3.out.at A2.out).frozen 2; have f3 := (S3.out.at A2.out).frozen 3))
  all_goals
    go_wp2
    refine bodyPost_ret (v := sv (less s t)) (ret_at Tryz.results120 _ _ (w.heap.size + 1 + 1) _ rfl ((S3.out.at A2.out).set4 (less s t))) rfl ⟨rfl, ?_⟩
    exact set4_kp (by omega) (((((Kp.refl _).alloc _).alloc _).alloc _).trans S3.out) _ _ _ _
end Go.Proofs.YtikmgckefbjbkaaGreatDoor
