/-
  What bset.Class answers, name by name.
-/
import Derived.Test.YtikmgckefbjbkaaGreatDoorWithout
namespace Go.Proofs.YtikmgckefbjbkaaGreatDoor
open Go.RowKit

set_option maxRecDepth 100000 in
theorem class_alpha (w : World) : Calls Tryz.prog 115 #[.string ⟨#[97, 108, 112, 104, 97]⟩] w fun e w' => e = .returned (.tuple #[sv cAlpha, .bool true]) ∧ Kp w w' := by
  go_enter Tryz.func115, Tryz.ntmps115
  go_wp2_with fail
  refine (alpha_any _).mono ?_
  rintro e w1 ⟨rfl, k⟩
  have K1 : Hid (Kp (w.alloc zero4) w1) := (((Kp.refl _))).trans k
  clear k
  have z := K1.out.at (At.zero w)
  obtain ⟨d0, d1, d2, d3⟩ := z.cells
  have f0 := z.frozen 0; have f1 := z.frozen 1; have f2 := z.frozen 2; have f3 := z.frozen 3
  have Z : Hid (At w1 w.heap.size (fun _ => false)) := z
  clear z
  go_wp2
  refine bodyPost_ret (v := .tuple #[sv cAlpha, .bool true]) (ret2_at Tryz.results115 _ _ w.heap.size _ rfl (Z.out.set4 cAlpha)) rfl ⟨rfl, ?_⟩
  exact set4_kp (Nat.le_refl _) (((Kp.refl _).alloc _).trans K1.out) _ _ _ _

set_option maxRecDepth 100000 in
theorem class_digit (w : World) : Calls Tryz.prog 115 #[.string ⟨#[100, 105, 103, 105, 116]⟩] w fun e w' => e = .returned (.tuple #[sv cDigit, .bool true]) ∧ Kp w w' := by
  go_enter Tryz.func115, Tryz.ntmps115
  go_wp2_with fail
  refine (digit_any _).mono ?_
  rintro e w1 ⟨rfl, k⟩
  have K1 : Hid (Kp (w.alloc zero4) w1) := (((Kp.refl _))).trans k
  clear k
  have z := K1.out.at (At.zero w)
  obtain ⟨d0, d1, d2, d3⟩ := z.cells
  have f0 := z.frozen 0; have f1 := z.frozen 1; have f2 := z.frozen 2; have f3 := z.frozen 3
  have Z : Hid (At w1 w.heap.size (fun _ => false)) := z
  clear z
  go_wp2
  refine bodyPost_ret (v := .tuple #[sv cDigit, .bool true]) (ret2_at Tryz.results115 _ _ w.heap.size _ rfl (Z.out.set4 cDigit)) rfl ⟨rfl, ?_⟩
  exact set4_kp (Nat.le_refl _) (((Kp.refl _).alloc _).trans K1.out) _ _ _ _

set_option maxRecDepth 100000 in
theorem class_alnum (w : World) : Calls Tryz.prog 115 #[.string ⟨#[97, 108, 110, 117, 109]⟩] w fun e w' => e = .returned (.tuple #[sv cAlnum, .bool true]) ∧ Kp w w' := by
  go_enter Tryz.func115, Tryz.ntmps115
  go_wp2_with fail
  refine (alnum_any _).mono ?_
  rintro e w1 ⟨rfl, k⟩
  have K1 : Hid (Kp (w.alloc zero4) w1) := (((Kp.refl _))).trans k
  clear k
  have z := K1.out.at (At.zero w)
  obtain ⟨d0, d1, d2, d3⟩ := z.cells
  have f0 := z.frozen 0; have f1 := z.frozen 1; have f2 := z.frozen 2; have f3 := z.frozen 3
  have Z : Hid (At w1 w.heap.size (fun _ => false)) := z
  clear z
  go_wp2
  refine bodyPost_ret (v := .tuple #[sv cAlnum, .bool true]) (ret2_at Tryz.results115 _ _ w.heap.size _ rfl (Z.out.set4 cAlnum)) rfl ⟨rfl, ?_⟩
  exact set4_kp (Nat.le_refl _) (((Kp.refl _).alloc _).trans K1.out) _ _ _ _

set_option maxRecDepth 100000 in
theorem class_upper (w : World) : Calls Tryz.prog 115 #[.string ⟨#[117, 112, 112, 101, 114]⟩] w fun e w' => e = .returned (.tuple #[sv cUpper, .bool true]) ∧ Kp w w' := by
  go_enter Tryz.func115, Tryz.ntmps115
  go_wp2_with fail
  refine (range_any 65 90 _ (by omega) (by omega)).mono ?_
  rintro e w1 ⟨rfl, k⟩
  have K1 : Hid (Kp (w.alloc zero4) w1) := (((Kp.refl _))).trans k
  clear k
  have z := K1.out.at (At.zero w)
  obtain ⟨d0, d1, d2, d3⟩ := z.cells
  have f0 := z.frozen 0; have f1 := z.frozen 1; have f2 := z.frozen 2; have f3 := z.frozen 3
  have Z : Hid (At w1 w.heap.size (fun _ => false)) := z
  clear z
  go_wp2
  refine bodyPost_ret (v := .tuple #[sv cUpper, .bool true]) (ret2_at Tryz.results115 _ _ w.heap.size _ rfl (Z.out.set4 cUpper)) rfl ⟨rfl, ?_⟩
  exact set4_kp (Nat.le_refl _) (((Kp.refl _).alloc _).trans K1.out) _ _ _ _

set_option maxRecDepth 100000 in
theorem class_lower (w : World) : Calls Tryz.prog 115 #[.string ⟨#[108, 111, 119, 101, 114]⟩] w fun e w' => e = .returned (.tuple #[sv cLower, .bool true]) ∧ Kp w w' := by
  go_enter Tryz.func115, Tryz.ntmps115
  go_wp2_with fail
  refine (range_any 97 122 _ (by omega) (by omega)).mono ?_
  rintro e w1 ⟨rfl, k⟩
  have K1 : Hid (Kp (w.alloc zero4) w1) := (((Kp.refl _))).trans k
  clear k
  have z := K1.out.at (At.zero w)
  obtain ⟨d0, d1, d2, d3⟩ := z.cells
  have f0 := z.frozen 0; have f1 := z.frozen 1; have f2 := z.frozen 2; have f3 := z.frozen 3
  have Z : Hid (At w1 w.heap.size (fun _ => false)) := z
  clear z
  go_wp2
  refine bodyPost_ret (v := .tuple #[sv cLower, .bool true]) (ret2_at Tryz.results115 _ _ w.heap.size _ rfl (Z.out.set4 cLower)) rfl ⟨rfl, ?_⟩
  exact set4_kp (Nat.le_refl _) (((Kp.refl _).alloc _).trans K1.out) _ _ _ _

set_option maxRecDepth 100000 in
theorem class_space (w : World) : Calls Tryz.prog 115 #[.string ⟨#[115, 112, 97, 99, 101]⟩] w fun e w' => e = .returned (.tuple #[sv cSpace, .bool true]) ∧ Kp w w' := by
  go_enter Tryz.func115, Tryz.ntmps115
  go_wp2_with fail
  refine (of_one 32 _ _ (by simp) (by omega)).mono ?_
  rintro e w1 ⟨rfl, k⟩
  have K1 : Hid (Kp (w.alloc zero4) w1) := (((Kp.refl _))).trans k
  clear k
  go_wp2_with fail
  refine (range_any 9 13 _ (by omega) (by omega)).mono ?_
  rintro e w2 ⟨rfl, k⟩
  have K2 : Hid (Kp (w.alloc zero4) w2) := ((K1.out)).trans k
  clear k
  go_wp2_with fail
  refine (join2 (addB (fun _ => false) 32) (rng 9 13) _ _ (by simp) (last_of _ _)).mono ?_
  rintro e w3 ⟨rfl, k⟩
  have K3 : Hid (Kp (w.alloc zero4) w3) := ((K2.out).alloc _).trans k
  clear k
  have z := K3.out.at (At.zero w)
  obtain ⟨d0, d1, d2, d3⟩ := z.cells
  have f0 := z.frozen 0; have f1 := z.frozen 1; have f2 := z.frozen 2; have f3 := z.frozen 3
  have Z : Hid (At w3 w.heap.size (fun _ => false)) := z
  clear z
  go_wp2
  refine bodyPost_ret (v := .tuple #[sv cSpace, .bool true]) (ret2_at Tryz.results115 _ _ w.heap.size _ rfl (Z.out.set4 cSpace)) rfl ⟨rfl, ?_⟩
  exact set4_kp (Nat.le_refl _) (((Kp.refl _).alloc _).trans K3.out) _ _ _ _

set_option maxRecDepth 100000 in
theorem class_blank (w : World) : Calls Tryz.prog 115 #[.string ⟨#[98, 108, 97, 110, 107]⟩] w fun e w' => e = .returned (.tuple #[sv cBlank, .bool true]) ∧ Kp w w' := by
  go_enter Tryz.func115, Tryz.ntmps115
  go_wp2_with fail
  refine (of_two 32 9 _ _ (by simp) (by omega) (by omega)).mono ?_
  rintro e w1 ⟨rfl, k⟩
  have K1 : Hid (Kp (w.alloc zero4) w1) := (((Kp.refl _))).trans k
  clear k
  have z := K1.out.at (At.zero w)
  obtain ⟨d0, d1, d2, d3⟩ := z.cells
  have f0 := z.frozen 0; have f1 := z.frozen 1; have f2 := z.frozen 2; have f3 := z.frozen 3
  have Z : Hid (At w1 w.heap.size (fun _ => false)) := z
  clear z
  go_wp2
  refine bodyPost_ret (v := .tuple #[sv cBlank, .bool true]) (ret2_at Tryz.results115 _ _ w.heap.size _ rfl (Z.out.set4 cBlank)) rfl ⟨rfl, ?_⟩
  exact set4_kp (Nat.le_refl _) (((Kp.refl _).alloc _).trans K1.out) _ _ _ _

set_option maxRecDepth 100000 in
theorem class_punct (w : World) : Calls Tryz.prog 115 #[.string ⟨#[112, 117, 110, 99, 116]⟩] w fun e w' => e = .returned (.tuple #[sv cPunct, .bool true]) ∧ Kp w w' := by
  go_enter Tryz.func115, Tryz.ntmps115
  go_wp2_with fail
  refine (graph_any _).mono ?_
  rintro e w1 ⟨rfl, k⟩
  have K1 : Hid (Kp (w.alloc zero4) w1) := (((Kp.refl _))).trans k
  clear k
  go_wp2_with fail
  refine (alnum_any _).mono ?_
  rintro e w2 ⟨rfl, k⟩
  have K2 : Hid (Kp (w.alloc zero4) w2) := ((K1.out)).trans k
  clear k
  go_wp2_with fail
  refine (without_any _ _ _).mono ?_
  rintro e w3 ⟨rfl, k⟩
  have K3 : Hid (Kp (w.alloc zero4) w3) := ((K2.out)).trans k
  clear k
  have z := K3.out.at (At.zero w)
  obtain ⟨d0, d1, d2, d3⟩ := z.cells
  have f0 := z.frozen 0; have f1 := z.frozen 1; have f2 := z.frozen 2; have f3 := z.frozen 3
  have Z : Hid (At w3 w.heap.size (fun _ => false)) := z
  clear z
  go_wp2
  refine bodyPost_ret (v := .tuple #[sv cPunct, .bool true]) (ret2_at Tryz.results115 _ _ w.heap.size _ rfl (Z.out.set4 cPunct)) rfl ⟨rfl, ?_⟩
  exact set4_kp (Nat.le_refl _) (((Kp.refl _).alloc _).trans K3.out) _ _ _ _

set_option maxRecDepth 100000 in
theorem class_print (w : World) : Calls Tryz.prog 115 #[.string ⟨#[112, 114, 105, 110, 116]⟩] w fun e w' => e = .returned (.tuple #[sv cPrint, .bool true]) ∧ Kp w w' := by
  go_enter Tryz.func115, Tryz.ntmps115
  go_wp2_with fail
  refine (of_one 32 _ _ (by simp) (by omega)).mono ?_
  rintro e w1 ⟨rfl, k⟩
  have K1 : Hid (Kp (w.alloc zero4) w1) := (((Kp.refl _))).trans k
  clear k
  go_wp2_with fail
  refine (graph_any _).mono ?_
  rintro e w2 ⟨rfl, k⟩
  have K2 : Hid (Kp (w.alloc zero4) w2) := ((K1.out)).trans k
  clear k
  go_wp2_with fail
  refine (join2 (addB (fun _ => false) 32) cGraph _ _ (by simp) (last_of _ _)).mono ?_
  rintro e w3 ⟨rfl, k⟩
  have K3 : Hid (Kp (w.alloc zero4) w3) := ((K2.out).alloc _).trans k
  clear k
  have z := K3.out.at (At.zero w)
  obtain ⟨d0, d1, d2, d3⟩ := z.cells
  have f0 := z.frozen 0; have f1 := z.frozen 1; have f2 := z.frozen 2; have f3 := z.frozen 3
  have Z : Hid (At w3 w.heap.size (fun _ => false)) := z
  clear z
  go_wp2
  refine bodyPost_ret (v := .tuple #[sv cPrint, .bool true]) (ret2_at Tryz.results115 _ _ w.heap.size _ rfl (Z.out.set4 cPrint)) rfl ⟨rfl, ?_⟩
  exact set4_kp (Nat.le_refl _) (((Kp.refl _).alloc _).trans K3.out) _ _ _ _

set_option maxRecDepth 100000 in
theorem class_graph (w : World) : Calls Tryz.prog 115 #[.string ⟨#[103, 114, 97, 112, 104]⟩] w fun e w' => e = .returned (.tuple #[sv cGraph, .bool true]) ∧ Kp w w' := by
  go_enter Tryz.func115, Tryz.ntmps115
  go_wp2_with fail
  refine (graph_any _).mono ?_
  rintro e w1 ⟨rfl, k⟩
  have K1 : Hid (Kp (w.alloc zero4) w1) := (((Kp.refl _))).trans k
  clear k
  have z := K1.out.at (At.zero w)
  obtain ⟨d0, d1, d2, d3⟩ := z.cells
  have f0 := z.frozen 0; have f1 := z.frozen 1; have f2 := z.frozen 2; have f3 := z.frozen 3
  have Z : Hid (At w1 w.heap.size (fun _ => false)) := z
  clear z
  go_wp2
  refine bodyPost_ret (v := .tuple #[sv cGraph, .bool true]) (ret2_at Tryz.results115 _ _ w.heap.size _ rfl (Z.out.set4 cGraph)) rfl ⟨rfl, ?_⟩
  exact set4_kp (Nat.le_refl _) (((Kp.refl _).alloc _).trans K1.out) _ _ _ _

set_option maxRecDepth 100000 in
theorem class_cntrl (w : World) : Calls Tryz.prog 115 #[.string ⟨#[99, 110, 116, 114, 108]⟩] w fun e w' => e = .returned (.tuple #[sv cCntrl, .bool true]) ∧ Kp w w' := by
  go_enter Tryz.func115, Tryz.ntmps115
  go_wp2_with fail
  refine (range_any 0 31 _ (by omega) (by omega)).mono ?_
  rintro e w1 ⟨rfl, k⟩
  have K1 : Hid (Kp (w.alloc zero4) w1) := (((Kp.refl _))).trans k
  clear k
  go_wp2_with fail
  refine (of_one 127 _ _ (by simp) (by omega)).mono ?_
  rintro e w2 ⟨rfl, k⟩
  have K2 : Hid (Kp (w.alloc zero4) w2) := ((K1.out)).trans k
  clear k
  go_wp2_with fail
  refine (join2 (rng 0 31) (addB (fun _ => false) 127) _ _ (by simp) (last_of _ _)).mono ?_
  rintro e w3 ⟨rfl, k⟩
  have K3 : Hid (Kp (w.alloc zero4) w3) := ((K2.out).alloc _).trans k
  clear k
  have z := K3.out.at (At.zero w)
  obtain ⟨d0, d1, d2, d3⟩ := z.cells
  have f0 := z.frozen 0; have f1 := z.frozen 1; have f2 := z.frozen 2; have f3 := z.frozen 3
  have Z : Hid (At w3 w.heap.size (fun _ => false)) := z
  clear z
  go_wp2
  refine bodyPost_ret (v := .tuple #[sv cCntrl, .bool true]) (ret2_at Tryz.results115 _ _ w.heap.size _ rfl (Z.out.set4 cCntrl)) rfl ⟨rfl, ?_⟩
  exact set4_kp (Nat.le_refl _) (((Kp.refl _).alloc _).trans K3.out) _ _ _ _

set_option maxRecDepth 100000 in
theorem class_xdigit (w : World) : Calls Tryz.prog 115 #[.string ⟨#[120, 100, 105, 103, 105, 116]⟩] w fun e w' => e = .returned (.tuple #[sv cXdigit, .bool true]) ∧ Kp w w' := by
  go_enter Tryz.func115, Tryz.ntmps115
  go_wp2_with fail
  refine (digit_any _).mono ?_
  rintro e w1 ⟨rfl, k⟩
  have K1 : Hid (Kp (w.alloc zero4) w1) := (((Kp.refl _))).trans k
  clear k
  go_wp2_with fail
  refine (range_any 65 70 _ (by omega) (by omega)).mono ?_
  rintro e w2 ⟨rfl, k⟩
  have K2 : Hid (Kp (w.alloc zero4) w2) := ((K1.out)).trans k
  clear k
  go_wp2_with fail
  refine (range_any 97 102 _ (by omega) (by omega)).mono ?_
  rintro e w3 ⟨rfl, k⟩
  have K3 : Hid (Kp (w.alloc zero4) w3) := ((K2.out)).trans k
  clear k
  go_wp2_with fail
  refine (join3 cDigit (rng 65 70) (rng 97 102) _ _ (by simp) (last_of _ _)).mono ?_
  rintro e w4 ⟨rfl, k⟩
  have K4 : Hid (Kp (w.alloc zero4) w4) := ((K3.out).alloc _).trans k
  clear k
  have z := K4.out.at (At.zero w)
  obtain ⟨d0, d1, d2, d3⟩ := z.cells
  have f0 := z.frozen 0; have f1 := z.frozen 1; have f2 := z.frozen 2; have f3 := z.frozen 3
  have Z : Hid (At w4 w.heap.size (fun _ => false)) := z
  clear z
  go_wp2
  refine bodyPost_ret (v := .tuple #[sv cXdigit, .bool true]) (ret2_at Tryz.results115 _ _ w.heap.size _ rfl (Z.out.set4 cXdigit)) rfl ⟨rfl, ?_⟩
  exact set4_kp (Nat.le_refl _) (((Kp.refl _).alloc _).trans K4.out) _ _ _ _

/-- The twelve names. -/
def named (s : ByteArray) : Prop := s.toList = [97, 108, 112, 104, 97] ∨ s.toList = [100, 105, 103, 105, 116] ∨ s.toList = [97, 108, 110, 117, 109] ∨ s.toList = [117, 112, 112, 101, 114] ∨ s.toList = [108, 111, 119, 101, 114] ∨ s.toList = [115, 112, 97, 99, 101] ∨ s.toList = [98, 108, 97, 110, 107] ∨ s.toList = [112, 117, 110, 99, 116] ∨ s.toList = [112, 114, 105, 110, 116] ∨ s.toList = [103, 114, 97, 112, 104] ∨ s.toList = [99, 110, 116, 114, 108] ∨ s.toList = [120, 100, 105, 103, 105, 116]

set_option maxRecDepth 100000 in
theorem class_other (s : ByteArray) (h : ¬ named s) (w : World) : Calls Tryz.prog 115 #[.string s] w fun e w' => e = .returned (.tuple #[sv (fun _ => false), .bool false]) ∧ Kp w w' := by
  unfold named at h
  simp only [not_or] at h
  obtain ⟨h0, h1, h2, h3, h4, h5, h6, h7, h8, h9, h10, h11⟩ := h
  have q0 : (s.toList == [97, 108, 112, 104, 97]) = false := by simpa using h0
  have q1 : (s.toList == [100, 105, 103, 105, 116]) = false := by simpa using h1
  have q2 : (s.toList == [97, 108, 110, 117, 109]) = false := by simpa using h2
  have q3 : (s.toList == [117, 112, 112, 101, 114]) = false := by simpa using h3
  have q4 : (s.toList == [108, 111, 119, 101, 114]) = false := by simpa using h4
  have q5 : (s.toList == [115, 112, 97, 99, 101]) = false := by simpa using h5
  have q6 : (s.toList == [98, 108, 97, 110, 107]) = false := by simpa using h6
  have q7 : (s.toList == [112, 117, 110, 99, 116]) = false := by simpa using h7
  have q8 : (s.toList == [112, 114, 105, 110, 116]) = false := by simpa using h8
  have q9 : (s.toList == [103, 114, 97, 112, 104]) = false := by simpa using h9
  have q10 : (s.toList == [99, 110, 116, 114, 108]) = false := by simpa using h10
  have q11 : (s.toList == [120, 100, 105, 103, 105, 116]) = false := by simpa using h11
  clear h0 h1 h2 h3 h4 h5 h6 h7 h8 h9 h10 h11
  go_enter Tryz.func115, Tryz.ntmps115
  go_wp2
  exact bodyPost_ret (v := .tuple #[sv (fun _ => false), .bool false]) (ret2_at Tryz.results115 _ _ w.heap.size _ rfl (At.zero w)) rfl ⟨rfl, (Kp.refl _).alloc _⟩

end Go.Proofs.YtikmgckefbjbkaaGreatDoor
