/-
  The law MarkTells, walked: the parts come back; sums and differences go part by part; which fits into which.
-/
import Derived.Test.YtfkmccbejlloeaaRuns
namespace Go.Proofs.Ytfkmccbejlloeaa
open Go.RowKit

theorem ceql_true {P : Program} (t : TypeId) (a b c d : Int) (ha : a.natAbs < 2 ^ 53) (hb : b.natAbs < 2 ^ 53) (h1 : a = c) (h2 : b = d) (w : World) :
    (binOp .eql t (.complex .f64 (F a) (F b)) (.complex .f64 (F c) (F d))).run P w = .ok (.bool true) w := by
  subst h1; subst h2
  rw [run_ceql t a b a b ha hb ha hb]; simp

set_option maxHeartbeats 4000000 in
theorem tells_any (a b c d : Int) (w : World) : Calls Try.prog 4 #[.int .i64 a, .int .i64 b, .int .i64 c, .int .i64 d] w fun e w' => e = .returned (.bool true) ∧ Grown w w' := by
  go_enter Try.func4, Try.ntmps4
  go_wp2_with fail
  refine (within_any a 1099511627776 _ (by omega) (by omega)).mono ?_
  rintro e w' ⟨p, rfl, p0, p1, rfl⟩
  go_wp2_with fail
  refine (within_any b 1099511627776 _ (by omega) (by omega)).mono ?_
  rintro e w' ⟨q, rfl, q0, q1, rfl⟩
  go_wp2_with fail
  refine (within_any c 1099511627776 _ (by omega) (by omega)).mono ?_
  rintro e w' ⟨r, rfl, r0, r1, rfl⟩
  go_wp2_with fail
  refine (within_any d 1099511627776 _ (by omega) (by omega)).mono ?_
  rintro e w' ⟨s, rfl, s0, s1, rfl⟩
  have sp := small p0 (by omega); have sq := small q0 (by omega); have sr := small r0 (by omega); have ss := small s0 (by omega)
  have spr : (p + r).natAbs < 2 ^ 53 := small (by omega) (by omega)
  have sqs : (q + s).natAbs < 2 ^ 53 := small (by omega) (by omega)
  have e1 := ceql_true (P := Try.prog) 22 p q p q sp sq rfl rfl
  have e2 := ceql_true (P := Try.prog) 22 (r + p) (s + q) (p + r) (q + s) (small (by omega) (by omega)) (small (by omega) (by omega)) (by omega) (by omega)
  have e3 := run_ceql (P := Try.prog) 22 p q r s sp sq sr ss
  go_wp2_with (go_at_call 9; refine (of_any _ _ _).mono ?_; rintro e w' ⟨rfl, rfl⟩)
  refine (sum_two p q r s _ _ rfl p0 q0 r0 s0 (by omega) (by omega)).mono ?_
  rintro e w' ⟨rfl, rfl⟩
  clear sp sq sr ss spr sqs
  go_wp2_with fail
  refine (lines_any p q _ (small (by omega) (by omega))).mono ?_
  rintro e w' ⟨rfl, rfl⟩
  go_wp2_with fail
  refine (bytes_any p q _ (small (by omega) (by omega))).mono ?_
  rintro e w' ⟨rfl, rfl⟩
  go_wp2_with fail
  refine (lines_any (p + r) (q + s) _ (small (by omega) (by omega))).mono ?_
  rintro e w' ⟨rfl, rfl⟩
  go_wp2_with fail
  refine (bytes_any (p + r) (q + s) _ (small (by omega) (by omega))).mono ?_
  rintro e w' ⟨rfl, rfl⟩
  go_wp2_with fail
  refine (less_any (p + r) (q + s) r s _ (small (by omega) (by omega)) (small (by omega) (by omega)) (small (by omega) (by omega)) (small (by omega) (by omega)) (small (by omega) (by omega)) (small (by omega) (by omega))).mono ?_
  rintro e w' ⟨rfl, rfl⟩
  rw [Int.add_sub_cancel, Int.add_sub_cancel]
  go_wp2_with fail
  refine (sum_two r s p q _ _ (by simp) r0 s0 p0 q0 (by omega) (by omega)).mono ?_
  rintro e w' ⟨rfl, rfl⟩
  go_wp2_with fail
  refine (fits_any p q r s _ (small (by omega) (by omega)) (small (by omega) (by omega)) (small (by omega) (by omega)) (small (by omega) (by omega))).mono ?_
  rintro e w' ⟨rfl, rfl⟩
  have LAST := fun w => fits_any p q (p + r) (q + s) w (small (by omega) (by omega)) (small (by omega) (by omega)) (small (by omega) (by omega)) (small (by omega) (by omega))
  have t1 : decide (p ≤ p + r) = true := by simp; omega
  have t2 : decide (q ≤ q + s) = true := by simp; omega
  rw [t1, t2] at LAST
  have LAST' : Hid _ := LAST
  clear LAST e1 e2
  by_cases h1 : p ≤ r
  all_goals
    go_wp2_with fail
    refine (LAST'.out _).mono ?_
    rintro e w' ⟨rfl, rfl⟩
    clear LAST'
    cases h3 : (p == r)
    all_goals
      rw [show decide (p = r) = _ from h3, show decide (q = s) = (q == s) from rfl] at e3
      go_wp2_with fail
      refine (runs_any _).mono ?_
      rintro e w' ⟨rfl, hg⟩
      have HG : Hid (Grown _ w') := hg
      clear hg
      go_wp2
      go_ret
      exact ⟨rfl, grown_trans (((Grown.refl _).alloc _ _).alloc _ _) HG.out⟩
end Go.Proofs.Ytfkmccbejlloeaa
