/-
  The law MarkFits, walked: what fits into another one fits into more; both ways just if they are the same; a line fits into a longer one.
-/
import Derived.Test.YtfkmccbejlloeaaRuns
import Derived.Deep.DeepCutAuto
namespace Go.Proofs.Ytfkmccbejlloeaa
open Go.RowKit

def fitB (a b c d : Int) : Bool := decide (a ≤ c) && decide (b ≤ d)

theorem fits_is (a b c d : Int) (v : Bool) (w : World) (h : 0 ≤ a ∧ a ≤ 2000 ∧ 0 ≤ b ∧ b ≤ 2000 ∧ 0 ≤ c ∧ c ≤ 2000 ∧ 0 ≤ d ∧ d ≤ 2000) (hv : fitB a b c d = v) :
    Calls Try.prog 16 #[.complex .f64 (F a) (F b), .complex .f64 (F c) (F d)] w fun e w' => e = .returned (.bool v) ∧ w' = w := by
  subst hv
  exact fits_any a b c d w (small (by omega) (by omega)) (small (by omega) (by omega)) (small (by omega) (by omega)) (small (by omega) (by omega))

theorem eql_is (a b c d : Int) (v : Bool) (h : 0 ≤ a ∧ a ≤ 2000 ∧ 0 ≤ b ∧ b ≤ 2000 ∧ 0 ≤ c ∧ c ≤ 2000 ∧ 0 ≤ d ∧ d ≤ 2000) (hv : (decide (a = c) && decide (b = d)) = v) (w : World) :
    (binOp .eql 22 (.complex .f64 (F a) (F b)) (.complex .f64 (F c) (F d))).run Try.prog w = .ok (.bool v) w := by
  subst hv
  exact run_ceql 22 a b c d (small (by omega) (by omega)) (small (by omega) (by omega)) (small (by omega) (by omega)) (small (by omega) (by omega)) w

theorem ceql_same (a b : Int) (h : 0 ≤ a ∧ a ≤ 2000 ∧ 0 ≤ b ∧ b ≤ 2000) (w : World) :
    (binOp .eql 22 (.complex .f64 (F a) (F b)) (.complex .f64 (F a) (F b))).run Try.prog w = .ok (.bool true) w :=
  eql_is a b a b true (by omega) (by simp) w

theorem line_x (t : ByteArray) (w : World) (ht : t.size ≤ 20) :
    Calls Try.prog 13 #[.string (t ++ ⟨#[120]⟩)] w fun e w' => e = .returned (.complex .f64 (F 1) (F (t.size + 2))) ∧ w' = w := by
  have hz : (t ++ (⟨#[120]⟩ : ByteArray)).size = t.size + 1 := by rw [ByteArray.size_append]; rfl
  have hl := line_any (t ++ ⟨#[120]⟩) w (by rw [hz]; omega)
  rw [hz, show ((t.size + 1 : Nat) : Int) + 1 = t.size + 2 by omega] at hl
  exact hl

theorem fit_same (a b c d : Int) (v : Bool) (h1 : fitB a b c d = true) (h2 : fitB c d a b = v) : (decide (a = c) && decide (b = d)) = v := by
  subst h2
  unfold fitB at *
  rw [Bool.eq_iff_iff]
  simp at *
  omega

theorem fit_trans (a b c d e f : Int) (h1 : fitB a b c d = true) (h2 : fitB c d e f = true) : fitB a b e f = true := by
  unfold fitB at *
  simp at *
  omega

theorem fit_self (a b : Int) : fitB a b a b = true := by simp [fitB]

set_option maxRecDepth 100000 in
set_option maxHeartbeats 2000000 in
theorem fits_walk (a b c d g h : Int) (s : ByteArray) (w : World) (hs : s.size ≤ maxLen) :
    Calls Try.prog 7 #[.int .i64 a, .int .i64 b, .int .i64 c, .int .i64 d, .int .i64 g, .int .i64 h, .string s] w fun e w' => e = .returned (.bool true) ∧ Grown w w' := by
  unfold maxLen at hs
  go_enter Try.func7, Try.ntmps7
  go_wp2_with fail
  refine (within_any a 50 _ (by omega) (by omega)).mono ?_
  rintro e w' ⟨x1, rfl, x10, x11, rfl⟩
  go_wp2_with fail
  refine (within_any b 50 _ (by omega) (by omega)).mono ?_
  rintro e w' ⟨x2, rfl, x20, x21, rfl⟩
  go_wp2_with fail
  refine (of_any _ _ _).mono ?_
  rintro e w' ⟨rfl, rfl⟩
  go_wp2_with fail
  refine (within_any c 50 _ (by omega) (by omega)).mono ?_
  rintro e w' ⟨y1, rfl, y10, y11, rfl⟩
  go_wp2_with fail
  refine (within_any d 50 _ (by omega) (by omega)).mono ?_
  rintro e w' ⟨y2, rfl, y20, y21, rfl⟩
  go_wp2_with fail
  refine (of_any _ _ _).mono ?_
  rintro e w' ⟨rfl, rfl⟩
  go_wp2_with fail
  refine (within_any g 50 _ (by omega) (by omega)).mono ?_
  rintro e w' ⟨z1, rfl, z10, z11, rfl⟩
  go_wp2_with fail
  refine (within_any h 50 _ (by omega) (by omega)).mono ?_
  rintro e w' ⟨z2, rfl, z20, z21, rfl⟩
  go_wp2_with fail
  refine (of_any _ _ _).mono ?_
  rintro e w' ⟨rfl, rfl⟩
  go_upto_region 4 with fail
  go_cut [6] (fun t wc => ∃ r : ByteArray, r.size ≤ 20 ∧ t = .string r ∧ wc = w')
  case first =>
    by_cases hl : s.size ≤ 20
    · go_wp2_with fail
      go_meet
      case rel => exact ⟨s, hl, rfl, rfl⟩
    · go_wp2_with fail
      go_meet
      case rel => exact ⟨s.extract 0 20, by simp; omega, rfl, rfl⟩
  case rest =>
    obtain ⟨t, ht, rfl, rfl⟩ := hcut
    go_upto_region 5 with fail
    go_cut [71] (fun b w => b = .bool false ∧ w = wc)
    case first =>
      have HX : Hid (0 ≤ x1 ∧ x1 ≤ 2000 ∧ 0 ≤ x2 ∧ x2 ≤ 2000 ∧ 0 ≤ y1 ∧ y1 ≤ 2000 ∧ 0 ≤ y2 ∧ y2 ≤ 2000 ∧ 0 ≤ z1 ∧ z1 ≤ 2000 ∧ 0 ≤ z2 ∧ z2 ≤ 2000) := by
        refine ⟨?_, ?_, ?_, ?_, ?_, ?_, ?_, ?_, ?_, ?_, ?_, ?_⟩ <;> omega
      clear x10 x11 x20 x21 y10 y11 y20 y21 z10 z11 z20 z21
      cases hb1 : fitB x1 x2 y1 y2
      · have B1 : Hid (fitB x1 x2 y1 y2 = false) := hb1
        clear hb1
        go_wp2_with fail
        refine (fits_is x1 x2 y1 y2 _ _ (by have := HX.out; omega) B1.out).mono ?_
        rintro e w' ⟨rfl, rfl⟩
        go_wp2_with fail
        refine (fits_is x1 x2 y1 y2 _ _ (by have := HX.out; omega) B1.out).mono ?_
        rintro e w' ⟨rfl, rfl⟩
        go_wp2_with fail
        refine (fits_is x1 x2 x1 x2 _ _ (by have := HX.out; omega) (fit_self _ _)).mono ?_
        rintro e w' ⟨rfl, rfl⟩
        go_wp2_with fail
        go_meet
        case rel => exact ⟨rfl, rfl⟩
      · have B1 : Hid (fitB x1 x2 y1 y2 = true) := hb1
        clear hb1
        obtain ⟨v4, b4⟩ : ∃ v, fitB y1 y2 x1 x2 = v := ⟨_, rfl⟩
        have B4 : Hid (fitB y1 y2 x1 x2 = v4) := b4
        clear b4
        have e4 := eql_is x1 x2 y1 y2 v4 (by have := HX.out; omega) (fit_same _ _ _ _ _ B1.out B4.out)
        cases hb2 : fitB y1 y2 z1 z2
        · have B2 : Hid (fitB y1 y2 z1 z2 = false) := hb2
          clear hb2
          go_wp2_with fail
          refine (fits_is x1 x2 y1 y2 _ _ (by have := HX.out; omega) B1.out).mono ?_
          rintro e w' ⟨rfl, rfl⟩
          go_wp2_with fail
          refine (fits_is y1 y2 z1 z2 _ _ (by have := HX.out; omega) B2.out).mono ?_
          rintro e w' ⟨rfl, rfl⟩
          go_wp2_with fail
          refine (fits_is x1 x2 y1 y2 _ _ (by have := HX.out; omega) B1.out).mono ?_
          rintro e w' ⟨rfl, rfl⟩
          go_wp2_with fail
          refine (fits_is y1 y2 x1 x2 _ _ (by have := HX.out; omega) B4.out).mono ?_
          rintro e w' ⟨rfl, rfl⟩
          go_wp2_with fail
          refine (fits_is x1 x2 x1 x2 _ _ (by have := HX.out; omega) (fit_self _ _)).mono ?_
          rintro e w' ⟨rfl, rfl⟩
          go_wp2_with fail
          go_meet
          case rel => exact ⟨rfl, rfl⟩
        · have B2 : Hid (fitB y1 y2 z1 z2 = true) := hb2
          clear hb2
          go_wp2_with fail
          refine (fits_is x1 x2 y1 y2 _ _ (by have := HX.out; omega) B1.out).mono ?_
          rintro e w' ⟨rfl, rfl⟩
          go_wp2_with fail
          refine (fits_is y1 y2 z1 z2 _ _ (by have := HX.out; omega) B2.out).mono ?_
          rintro e w' ⟨rfl, rfl⟩
          go_wp2_with fail
          refine (fits_is x1 x2 z1 z2 _ _ (by have := HX.out; omega) (fit_trans _ _ _ _ _ _ B1.out B2.out)).mono ?_
          rintro e w' ⟨rfl, rfl⟩
          go_wp2_with fail
          refine (fits_is x1 x2 y1 y2 _ _ (by have := HX.out; omega) B1.out).mono ?_
          rintro e w' ⟨rfl, rfl⟩
          go_wp2_with fail
          refine (fits_is y1 y2 x1 x2 _ _ (by have := HX.out; omega) B4.out).mono ?_
          rintro e w' ⟨rfl, rfl⟩
          go_wp2_with fail
          refine (fits_is x1 x2 x1 x2 _ _ (by have := HX.out; omega) (fit_self _ _)).mono ?_
          rintro e w' ⟨rfl, rfl⟩
          go_wp2_with fail
          go_meet
          case rel => exact ⟨rfl, rfl⟩
    case rest =>
      obtain ⟨rfl, rfl⟩ := hcut
      have e1 := ceql_same x1 x2 (by omega)
      go_wp2_with fail
      refine (line_any t _ (by omega)).mono ?_
      rintro e w' ⟨rfl, rfl⟩
      go_wp2_with fail
      refine (line_x t _ ht).mono ?_
      rintro e w' ⟨rfl, rfl⟩
      go_wp2_with fail
      refine (fits_is 1 (t.size + 1) 1 (t.size + 2) true _ (by omega) (by simp [fitB])).mono ?_
      rintro e w' ⟨rfl, rfl⟩
      go_wp2_with fail
      refine (line_x t _ ht).mono ?_
      rintro e w' ⟨rfl, rfl⟩
      go_wp2_with fail
      refine (line_any t _ (by omega)).mono ?_
      rintro e w' ⟨rfl, rfl⟩
      go_wp2_with fail
      refine (fits_is 1 (t.size + 2) 1 (t.size + 1) false _ (by omega) (by simp [fitB])).mono ?_
      rintro e w' ⟨rfl, rfl⟩
      go_wp2_with fail
      refine (line_any t _ (by omega)).mono ?_
      rintro e w' ⟨rfl, rfl⟩
      go_wp2_with fail
      refine (bytes_any 1 (t.size + 1) _ (small (by omega) (by omega))).mono ?_
      rintro e w' ⟨rfl, rfl⟩
      go_wp2_with fail
      refine (line_any t _ (by omega)).mono ?_
      rintro e w' ⟨rfl, rfl⟩
      go_wp2_with fail
      refine (lines_any 1 (t.size + 1) _ (by decide)).mono ?_
      rintro e w' ⟨rfl, rfl⟩
      go_wp2_with fail
      refine (sum_three x1 x2 y1 y2 z1 z2 _ _ rfl x10 x20 y10 y20 z10 z20 (by omega) (by omega)).mono ?_
      rintro e w' ⟨rfl, rfl⟩
      go_wp2_with fail
      refine (sum_two y1 y2 z1 z2 _ _ (by simp) y10 y20 z10 z20 (by omega) (by omega)).mono ?_
      rintro e w' ⟨rfl, rfl⟩
      go_wp2_with fail
      refine (less_any (x1 + y1 + z1) (x2 + y2 + z2) (y1 + z1) (y2 + z2) _ (small (by omega) (by omega)) (small (by omega) (by omega)) (small (by omega) (by omega)) (small (by omega) (by omega)) (small (by omega) (by omega)) (small (by omega) (by omega))).mono ?_
      rintro e w' ⟨rfl, rfl⟩
      rw [show x1 + y1 + z1 - (y1 + z1) = x1 by omega, show x2 + y2 + z2 - (y2 + z2) = x2 by omega]
      go_wp2_with fail
      refine (runs_any _).mono ?_
      rintro e w' ⟨rfl, hg⟩
      have HG : Hid (Grown _ w') := hg
      clear hg
      go_wp2
      go_ret
      exact ⟨rfl, grown_trans (((Grown.refl _).alloc _ _).alloc _ _) HG.out⟩
end Go.Proofs.Ytfkmccbejlloeaa
