/-
  Texts of this claim: Names, Pf, Ret, Keep, Text1, CmA.
-/
import Derived.Test.YtigdmebijbaofaaGreatDoorReadDM5
import Derived.Test.YtigdmebijbaofaaGreatDoorReadDM4
import Derived.OwnWalk
import Derived.Test.YtigdmebijbaofaaGreatDoorReadDM1
import Derived.Laws.IdiomStrings
/-! ### Names -/
namespace Go.Proofs.YtigdmebijbaofaaGreatDoor
open Go.RowKit
set_option maxRecDepth 100000 in
theorem class_alpha (w : World) : Calls Tryz.prog 265 #[.string ⟨#[97, 108, 112, 104, 97]⟩] w fun e w' => e = .returned (.tuple #[sv cAlpha, .bool true]) ∧ Kp w w' := by
 go_enter Tryz.func265, Tryz.ntmps265
 go_wp2_with fail
 refine (alpha_any _).mono ?_
 rintro e w1 ⟨rfl, k⟩
 have K1 : Hid (Kp (w.alloc zero4) w1) := (((Kp.refl _))).trans k
 clear k
 have z := K1.out.at (At.zero w)
 obtain ⟨d0, d1, d2, d3⟩ := z.cells
 have f0 := z.frozen 0; have f1 := z.frozen 1; have f2 := z.frozen 2; have f3 := z.frozen 3
 have Z : Hid (At w1 w.heap.size (fun _ => false)) := z
 clear z
 go_wp2
 refine bodyPost_ret (v := .tuple #[sv cAlpha, .bool true]) (ret2_at Tryz.results265 _ _ w.heap.size _ rfl (Z.out.set4 cAlpha)) rfl ⟨rfl, ?_⟩
 exact set4_kp (Nat.le_refl _) (((Kp.refl _).alloc _).trans K1.out) _ _ _ _
set_option maxRecDepth 100000 in
theorem class_digit (w : World) : Calls Tryz.prog 265 #[.string ⟨#[100, 105, 103, 105, 116]⟩] w fun e w' => e = .returned (.tuple #[sv cDigit, .bool true]) ∧ Kp w w' := by
 go_enter Tryz.func265, Tryz.ntmps265
 go_wp2_with fail
 refine (digit_any _).mono ?_
 rintro e w1 ⟨rfl, k⟩
 have K1 : Hid (Kp (w.alloc zero4) w1) := (((Kp.refl _))).trans k
 clear k
 have z := K1.out.at (At.zero w)
 obtain ⟨d0, d1, d2, d3⟩ := z.cells
 have f0 := z.frozen 0; have f1 := z.frozen 1; have f2 := z.frozen 2; have f3 := z.frozen 3
 have Z : Hid (At w1 w.heap.size (fun _ => false)) := z
 clear z
 go_wp2
 refine bodyPost_ret (v := .tuple #[sv cDigit, .bool true]) (ret2_at Tryz.results265 _ _ w.heap.size _ rfl (Z.out.set4 cDigit)) rfl ⟨rfl, ?_⟩
 exact set4_kp (Nat.le_refl _) (((Kp.refl _).alloc _).trans K1.out) _ _ _ _
set_option maxRecDepth 100000 in
theorem class_alnum (w : World) : Calls Tryz.prog 265 #[.string ⟨#[97, 108, 110, 117, 109]⟩] w fun e w' => e = .returned (.tuple #[sv cAlnum, .bool true]) ∧ Kp w w' := by
 go_enter Tryz.func265, Tryz.ntmps265
 go_wp2_with fail
 refine (alnum_any _).mono ?_
 rintro e w1 ⟨rfl, k⟩
 have K1 : Hid (Kp (w.alloc zero4) w1) := (((Kp.refl _))).trans k
 clear k
 have z := K1.out.at (At.zero w)
 obtain ⟨d0, d1, d2, d3⟩ := z.cells
 have f0 := z.frozen 0; have f1 := z.frozen 1; have f2 := z.frozen 2; have f3 := z.frozen 3
 have Z : Hid (At w1 w.heap.size (fun _ => false)) := z
 clear z
 go_wp2
 refine bodyPost_ret (v := .tuple #[sv cAlnum, .bool true]) (ret2_at Tryz.results265 _ _ w.heap.size _ rfl (Z.out.set4 cAlnum)) rfl ⟨rfl, ?_⟩
 exact set4_kp (Nat.le_refl _) (((Kp.refl _).alloc _).trans K1.out) _ _ _ _
set_option maxRecDepth 100000 in
theorem class_upper (w : World) : Calls Tryz.prog 265 #[.string ⟨#[117, 112, 112, 101, 114]⟩] w fun e w' => e = .returned (.tuple #[sv cUpper, .bool true]) ∧ Kp w w' := by
 go_enter Tryz.func265, Tryz.ntmps265
 go_wp2_with fail
 refine (range_any 65 90 _ (by omega) (by omega)).mono ?_
 rintro e w1 ⟨rfl, k⟩
 have K1 : Hid (Kp (w.alloc zero4) w1) := (((Kp.refl _))).trans k
 clear k
 have z := K1.out.at (At.zero w)
 obtain ⟨d0, d1, d2, d3⟩ := z.cells
 have f0 := z.frozen 0; have f1 := z.frozen 1; have f2 := z.frozen 2; have f3 := z.frozen 3
 have Z : Hid (At w1 w.heap.size (fun _ => false)) := z
 clear z
 go_wp2
 refine bodyPost_ret (v := .tuple #[sv cUpper, .bool true]) (ret2_at Tryz.results265 _ _ w.heap.size _ rfl (Z.out.set4 cUpper)) rfl ⟨rfl, ?_⟩
 exact set4_kp (Nat.le_refl _) (((Kp.refl _).alloc _).trans K1.out) _ _ _ _
set_option maxRecDepth 100000 in
theorem class_lower (w : World) : Calls Tryz.prog 265 #[.string ⟨#[108, 111, 119, 101, 114]⟩] w fun e w' => e = .returned (.tuple #[sv cLower, .bool true]) ∧ Kp w w' := by
 go_enter Tryz.func265, Tryz.ntmps265
 go_wp2_with fail
 refine (range_any 97 122 _ (by omega) (by omega)).mono ?_
 rintro e w1 ⟨rfl, k⟩
 have K1 : Hid (Kp (w.alloc zero4) w1) := (((Kp.refl _))).trans k
 clear k
 have z := K1.out.at (At.zero w)
 obtain ⟨d0, d1, d2, d3⟩ := z.cells
 have f0 := z.frozen 0; have f1 := z.frozen 1; have f2 := z.frozen 2; have f3 := z.frozen 3
 have Z : Hid (At w1 w.heap.size (fun _ => false)) := z
 clear z
 go_wp2
 refine bodyPost_ret (v := .tuple #[sv cLower, .bool true]) (ret2_at Tryz.results265 _ _ w.heap.size _ rfl (Z.out.set4 cLower)) rfl ⟨rfl, ?_⟩
 exact set4_kp (Nat.le_refl _) (((Kp.refl _).alloc _).trans K1.out) _ _ _ _
set_option maxRecDepth 100000 in
theorem class_space (w : World) : Calls Tryz.prog 265 #[.string ⟨#[115, 112, 97, 99, 101]⟩] w fun e w' => e = .returned (.tuple #[sv cSpace, .bool true]) ∧ Kp w w' := by
 go_enter Tryz.func265, Tryz.ntmps265
 go_wp2_with fail
 refine (of_one 32 _ _ (by simp) (by omega)).mono ?_
 rintro e w1 ⟨rfl, k⟩
 have K1 : Hid (Kp (w.alloc zero4) w1) := (((Kp.refl _))).trans k
 clear k
 go_wp2_with fail
 refine (range_any 9 13 _ (by omega) (by omega)).mono ?_
 rintro e w2 ⟨rfl, k⟩
 have K2 : Hid (Kp (w.alloc zero4) w2) := ((K1.out)).trans k
 clear k
 go_wp2_with fail
 refine (join2 (addB (fun _ => false) 32) (rng 9 13) _ _ (by simp) (last_of _ _)).mono ?_
 rintro e w3 ⟨rfl, k⟩
 have K3 : Hid (Kp (w.alloc zero4) w3) := ((K2.out).alloc _).trans k
 clear k
 have z := K3.out.at (At.zero w)
 obtain ⟨d0, d1, d2, d3⟩ := z.cells
 have f0 := z.frozen 0; have f1 := z.frozen 1; have f2 := z.frozen 2; have f3 := z.frozen 3
 have Z : Hid (At w3 w.heap.size (fun _ => false)) := z
 clear z
 go_wp2
 refine bodyPost_ret (v := .tuple #[sv cSpace, .bool true]) (ret2_at Tryz.results265 _ _ w.heap.size _ rfl (Z.out.set4 cSpace)) rfl ⟨rfl, ?_⟩
 exact set4_kp (Nat.le_refl _) (((Kp.refl _).alloc _).trans K3.out) _ _ _ _
set_option maxRecDepth 100000 in
theorem class_blank (w : World) : Calls Tryz.prog 265 #[.string ⟨#[98, 108, 97, 110, 107]⟩] w fun e w' => e = .returned (.tuple #[sv cBlank, .bool true]) ∧ Kp w w' := by
 go_enter Tryz.func265, Tryz.ntmps265
 go_wp2_with fail
 refine (of_two 32 9 _ _ (by simp) (by omega) (by omega)).mono ?_
 rintro e w1 ⟨rfl, k⟩
 have K1 : Hid (Kp (w.alloc zero4) w1) := (((Kp.refl _))).trans k
 clear k
 have z := K1.out.at (At.zero w)
 obtain ⟨d0, d1, d2, d3⟩ := z.cells
 have f0 := z.frozen 0; have f1 := z.frozen 1; have f2 := z.frozen 2; have f3 := z.frozen 3
 have Z : Hid (At w1 w.heap.size (fun _ => false)) := z
 clear z
 go_wp2
 refine bodyPost_ret (v := .tuple #[sv cBlank, .bool true]) (ret2_at Tryz.results265 _ _ w.heap.size _ rfl (Z.out.set4 cBlank)) rfl ⟨rfl, ?_⟩
 exact set4_kp (Nat.le_refl _) (((Kp.refl _).alloc _).trans K1.out) _ _ _ _
set_option maxRecDepth 100000 in
theorem class_punct (w : World) : Calls Tryz.prog 265 #[.string ⟨#[112, 117, 110, 99, 116]⟩] w fun e w' => e = .returned (.tuple #[sv cPunct, .bool true]) ∧ Kp w w' := by
 go_enter Tryz.func265, Tryz.ntmps265
 go_wp2_with fail
 refine (graph_any _).mono ?_
 rintro e w1 ⟨rfl, k⟩
 have K1 : Hid (Kp (w.alloc zero4) w1) := (((Kp.refl _))).trans k
 clear k
 go_wp2_with fail
 refine (alnum_any _).mono ?_
 rintro e w2 ⟨rfl, k⟩
 have K2 : Hid (Kp (w.alloc zero4) w2) := ((K1.out)).trans k
 clear k
 go_wp2_with fail
 refine (without_any _ _ _).mono ?_
 rintro e w3 ⟨rfl, k⟩
 have K3 : Hid (Kp (w.alloc zero4) w3) := ((K2.out)).trans k
 clear k
 have z := K3.out.at (At.zero w)
 obtain ⟨d0, d1, d2, d3⟩ := z.cells
 have f0 := z.frozen 0; have f1 := z.frozen 1; have f2 := z.frozen 2; have f3 := z.frozen 3
 have Z : Hid (At w3 w.heap.size (fun _ => false)) := z
 clear z
 go_wp2
 refine bodyPost_ret (v := .tuple #[sv cPunct, .bool true]) (ret2_at Tryz.results265 _ _ w.heap.size _ rfl (Z.out.set4 cPunct)) rfl ⟨rfl, ?_⟩
 exact set4_kp (Nat.le_refl _) (((Kp.refl _).alloc _).trans K3.out) _ _ _ _
set_option maxRecDepth 100000 in
theorem class_print (w : World) : Calls Tryz.prog 265 #[.string ⟨#[112, 114, 105, 110, 116]⟩] w fun e w' => e = .returned (.tuple #[sv cPrint, .bool true]) ∧ Kp w w' := by
 go_enter Tryz.func265, Tryz.ntmps265
 go_wp2_with fail
 refine (of_one 32 _ _ (by simp) (by omega)).mono ?_
 rintro e w1 ⟨rfl, k⟩
 have K1 : Hid (Kp (w.alloc zero4) w1) := (((Kp.refl _))).trans k
 clear k
 go_wp2_with fail
 refine (graph_any _).mono ?_
 rintro e w2 ⟨rfl, k⟩
 have K2 : Hid (Kp (w.alloc zero4) w2) := ((K1.out)).trans k
 clear k
 go_wp2_with fail
 refine (join2 (addB (fun _ => false) 32) cGraph _ _ (by simp) (last_of _ _)).mono ?_
 rintro e w3 ⟨rfl, k⟩
 have K3 : Hid (Kp (w.alloc zero4) w3) := ((K2.out).alloc _).trans k
 clear k
 have z := K3.out.at (At.zero w)
 obtain ⟨d0, d1, d2, d3⟩ := z.cells
 have f0 := z.frozen 0; have f1 := z.frozen 1; have f2 := z.frozen 2; have f3 := z.frozen 3
 have Z : Hid (At w3 w.heap.size (fun _ => false)) := z
 clear z
 go_wp2
 refine bodyPost_ret (v := .tuple #[sv cPrint, .bool true]) (ret2_at Tryz.results265 _ _ w.heap.size _ rfl (Z.out.set4 cPrint)) rfl ⟨rfl, ?_⟩
 exact set4_kp (Nat.le_refl _) (((Kp.refl _).alloc _).trans K3.out) _ _ _ _
set_option maxRecDepth 100000 in
theorem class_graph (w : World) : Calls Tryz.prog 265 #[.string ⟨#[103, 114, 97, 112, 104]⟩] w fun e w' => e = .returned (.tuple #[sv cGraph, .bool true]) ∧ Kp w w' := by
 go_enter Tryz.func265, Tryz.ntmps265
 go_wp2_with fail
 refine (graph_any _).mono ?_
 rintro e w1 ⟨rfl, k⟩
 have K1 : Hid (Kp (w.alloc zero4) w1) := (((Kp.refl _))).trans k
 clear k
 have z := K1.out.at (At.zero w)
 obtain ⟨d0, d1, d2, d3⟩ := z.cells
 have f0 := z.frozen 0; have f1 := z.frozen 1; have f2 := z.frozen 2; have f3 := z.frozen 3
 have Z : Hid (At w1 w.heap.size (fun _ => false)) := z
 clear z
 go_wp2
 refine bodyPost_ret (v := .tuple #[sv cGraph, .bool true]) (ret2_at Tryz.results265 _ _ w.heap.size _ rfl (Z.out.set4 cGraph)) rfl ⟨rfl, ?_⟩
 exact set4_kp (Nat.le_refl _) (((Kp.refl _).alloc _).trans K1.out) _ _ _ _
set_option maxRecDepth 100000 in
theorem class_cntrl (w : World) : Calls Tryz.prog 265 #[.string ⟨#[99, 110, 116, 114, 108]⟩] w fun e w' => e = .returned (.tuple #[sv cCntrl, .bool true]) ∧ Kp w w' := by
 go_enter Tryz.func265, Tryz.ntmps265
 go_wp2_with fail
 refine (range_any 0 31 _ (by omega) (by omega)).mono ?_
 rintro e w1 ⟨rfl, k⟩
 have K1 : Hid (Kp (w.alloc zero4) w1) := (((Kp.refl _))).trans k
 clear k
 go_wp2_with fail
 refine (of_one 127 _ _ (by simp) (by omega)).mono ?_
 rintro e w2 ⟨rfl, k⟩
 have K2 : Hid (Kp (w.alloc zero4) w2) := ((K1.out)).trans k
 clear k
 go_wp2_with fail
 refine (join2 (rng 0 31) (addB (fun _ => false) 127) _ _ (by simp) (last_of _ _)).mono ?_
 rintro e w3 ⟨rfl, k⟩
 have K3 : Hid (Kp (w.alloc zero4) w3) := ((K2.out).alloc _).trans k
 clear k
 have z := K3.out.at (At.zero w)
 obtain ⟨d0, d1, d2, d3⟩ := z.cells
 have f0 := z.frozen 0; have f1 := z.frozen 1; have f2 := z.frozen 2; have f3 := z.frozen 3
 have Z : Hid (At w3 w.heap.size (fun _ => false)) := z
 clear z
 go_wp2
 refine bodyPost_ret (v := .tuple #[sv cCntrl, .bool true]) (ret2_at Tryz.results265 _ _ w.heap.size _ rfl (Z.out.set4 cCntrl)) rfl ⟨rfl, ?_⟩
 exact set4_kp (Nat.le_refl _) (((Kp.refl _).alloc _).trans K3.out) _ _ _ _
set_option maxRecDepth 100000 in
theorem class_xdigit (w : World) : Calls Tryz.prog 265 #[.string ⟨#[120, 100, 105, 103, 105, 116]⟩] w fun e w' => e = .returned (.tuple #[sv cXdigit, .bool true]) ∧ Kp w w' := by
 go_enter Tryz.func265, Tryz.ntmps265
 go_wp2_with fail
 refine (digit_any _).mono ?_
 rintro e w1 ⟨rfl, k⟩
 have K1 : Hid (Kp (w.alloc zero4) w1) := (((Kp.refl _))).trans k
 clear k
 go_wp2_with fail
 refine (range_any 65 70 _ (by omega) (by omega)).mono ?_
 rintro e w2 ⟨rfl, k⟩
 have K2 : Hid (Kp (w.alloc zero4) w2) := ((K1.out)).trans k
 clear k
 go_wp2_with fail
 refine (range_any 97 102 _ (by omega) (by omega)).mono ?_
 rintro e w3 ⟨rfl, k⟩
 have K3 : Hid (Kp (w.alloc zero4) w3) := ((K2.out)).trans k
 clear k
 go_wp2_with fail
 refine (join3 cDigit (rng 65 70) (rng 97 102) _ _ (by simp) (last_of _ _)).mono ?_
 rintro e w4 ⟨rfl, k⟩
 have K4 : Hid (Kp (w.alloc zero4) w4) := ((K3.out).alloc _).trans k
 clear k
 have z := K4.out.at (At.zero w)
 obtain ⟨d0, d1, d2, d3⟩ := z.cells
 have f0 := z.frozen 0; have f1 := z.frozen 1; have f2 := z.frozen 2; have f3 := z.frozen 3
 have Z : Hid (At w4 w.heap.size (fun _ => false)) := z
 clear z
 go_wp2
 refine bodyPost_ret (v := .tuple #[sv cXdigit, .bool true]) (ret2_at Tryz.results265 _ _ w.heap.size _ rfl (Z.out.set4 cXdigit)) rfl ⟨rfl, ?_⟩
 exact set4_kp (Nat.le_refl _) (((Kp.refl _).alloc _).trans K4.out) _ _ _ _
def named (s : ByteArray) : Prop := s.toList = [97, 108, 112, 104, 97] ∨ s.toList = [100, 105, 103, 105, 116] ∨ s.toList = [97, 108, 110, 117, 109] ∨ s.toList = [117, 112, 112, 101, 114] ∨ s.toList = [108, 111, 119, 101, 114] ∨ s.toList = [115, 112, 97, 99, 101] ∨ s.toList = [98, 108, 97, 110, 107] ∨ s.toList = [112, 117, 110, 99, 116] ∨ s.toList = [112, 114, 105, 110, 116] ∨ s.toList = [103, 114, 97, 112, 104] ∨ s.toList = [99, 110, 116, 114, 108] ∨ s.toList = [120, 100, 105, 103, 105, 116]
set_option maxRecDepth 100000 in
theorem class_other (s : ByteArray) (h : ¬ named s) (w : World) : Calls Tryz.prog 265 #[.string s] w fun e w' => e = .returned (.tuple #[sv (fun _ => false), .bool false]) ∧ Kp w w' := by
 unfold named at h
 simp only [not_or] at h
 obtain ⟨h0, h1, h2, h3, h4, h5, h6, h7, h8, h9, h10, h11⟩ := h
 have q0 : (s.toList == [97, 108, 112, 104, 97]) = false := by simpa using h0
 have q1 : (s.toList == [100, 105, 103, 105, 116]) = false := by simpa using h1
 have q2 : (s.toList == [97, 108, 110, 117, 109]) = false := by simpa using h2
 have q3 : (s.toList == [117, 112, 112, 101, 114]) = false := by simpa using h3
 have q4 : (s.toList == [108, 111, 119, 101, 114]) = false := by simpa using h4
 have q5 : (s.toList == [115, 112, 97, 99, 101]) = false := by simpa using h5
 have q6 : (s.toList == [98, 108, 97, 110, 107]) = false := by simpa using h6
 have q7 : (s.toList == [112, 117, 110, 99, 116]) = false := by simpa using h7
 have q8 : (s.toList == [112, 114, 105, 110, 116]) = false := by simpa using h8
 have q9 : (s.toList == [103, 114, 97, 112, 104]) = false := by simpa using h9
 have q10 : (s.toList == [99, 110, 116, 114, 108]) = false := by simpa using h10
 have q11 : (s.toList == [120, 100, 105, 103, 105, 116]) = false := by simpa using h11
 clear h0 h1 h2 h3 h4 h5 h6 h7 h8 h9 h10 h11
 go_enter Tryz.func265, Tryz.ntmps265
 go_wp2
 exact bodyPost_ret (v := .tuple #[sv (fun _ => false), .bool false]) (ret2_at Tryz.results265 _ _ w.heap.size _ rfl (At.zero w)) rfl ⟨rfl, (Kp.refl _).alloc _⟩
structure St where
 i : Nat
 n : Nat
 g : Nat
 d : Nat
structure Out where
 r : Rx
 e : Nat
 st : St
def W4.z : W4 := ⟨0, 0, 0, 0⟩
def rx0 : Rx := .mk 0 0 0 0 W4.z []
def Rx.k : Rx → Int | .mk k _ _ _ _ _ => k
def rset (p : Nat → Bool) : Rx := .mk 1 0 0 0 (W4.of p) []
def pTake (sz : Nat) (r : Rx) (t : St) : Out := ⟨r, 0, ⟨t.i + sz, t.n + 1, t.g, t.d⟩⟩
def cls (l : List UInt8) : Option (Nat → Bool) :=
 if l = [97, 108, 112, 104, 97] then some cAlpha else if l = [100, 105, 103, 105, 116] then some cDigit else if l = [97, 108, 110, 117, 109] then some cAlnum
 else if l = [117, 112, 112, 101, 114] then some cUpper else if l = [108, 111, 119, 101, 114] then some cLower else if l = [115, 112, 97, 99, 101] then some cSpace
 else if l = [98, 108, 97, 110, 107] then some cBlank else if l = [112, 117, 110, 99, 116] then some cPunct else if l = [112, 114, 105, 110, 116] then some cPrint
 else if l = [103, 114, 97, 112, 104] then some cGraph else if l = [99, 110, 116, 114, 108] then some cCntrl else if l = [120, 100, 105, 103, 105, 116] then some cXdigit else none
def pClass (s : ByteArray) (i : Nat) : Option (Nat → Bool) × Nat :=
 let c := Lib.cut (s.data.toList.drop (i + 2)) [58, 93]
 if c.2.2 then match cls c.1 with
  | some q => (some q, s.size - c.2.1.length)
  | none => (none, i)
 else (none, i)
def pIn (s : ByteArray) (i : Nat) : Option (Nat → Bool) × Nat :=
 if i = s.size then (none, i)
 else if pfx s i [91, 58] then pClass s i
 else if dash s (i + 1) then
  if pfx s (i + 2) [91, 58] || decide (ch s (i + 2) < ch s i) then (none, i + 2) else (some (rng (ch s i) (ch s (i + 2))), i + 3)
 else (some (addB (fun _ => false) (ch s i)), i + 1)
def pBrL (s : ByteArray) : Nat → (Nat → Bool) → Nat → Option (Nat → Bool) × Nat
 | 0, _, i => (none, i)
 | f + 1, p, i => if pfx s i [93] then (some p, i + 1) else match pIn s i with
  | (none, j) => (none, j)
  | (some q, j) => pBrL s f (orB p q) j
def pBr (s : ByteArray) (i : Nat) : Option (Nat → Bool) × Nat := match pIn s i with
 | (none, j) => (none, j)
 | (some q, j) => pBrL s (s.size + 1) q j
def bTurn (s : ByteArray) (i : Nat) : Bool := pfx s (i + 1) [94]
def bFrom (s : ByteArray) (i : Nat) : Nat := if bTurn s i then i + 2 else i + 1
def pBracket (s : ByteArray) (t : St) : Out := match pBr s (bFrom s t.i) with
 | (none, j) => ⟨rx0, 1, ⟨j, t.n, t.g, t.d⟩⟩
 | (some p, j) =>
  let q := if bTurn s t.i then notB p else p
  if cnt q 256 = 0 then ⟨rx0, 1, t⟩ else ⟨rset q, 0, ⟨j, t.n + 1, t.g, t.d⟩⟩
def pNumL (s : ByteArray) : Nat → Nat → Bool → Nat → Nat × Bool × Nat
 | 0, n, ok, i => (n, ok, i)
 | f + 1, n, ok, i => if decide (i < s.size) && rng 48 57 (ch s i) then pNumL s f (min (10 * n + (ch s i - 48)) 21) true (i + 1) else (n, ok, i)
def pNum (s : ByteArray) (i : Nat) : Nat × Bool × Nat := pNumL s (s.size + 1) 0 false i
def timesFit (a b : Int) : Bool := if a < 0 ∨ a > 20 then false else b == -1 || (decide (max a 1 ≤ b) && decide (b ≤ 20))
def closeB (ere : Bool) : List UInt8 := if ere then [125] else [92, 125]
def pHigh (s : ByteArray) (lo i : Nat) : Int × Nat := if pfx s i [44] then (if (pNum s (i + 1)).2.1 then ((pNum s (i + 1)).1 : Int) else -1, (pNum s (i + 1)).2.2) else ((lo : Int), i)
def pInt (s : ByteArray) (ere : Bool) (i sz : Nat) : Option (Int × Int) × Nat :=
 let a := pNum s (i + sz)
 if a.2.1 then
  let h := pHigh s a.1 a.2.2
  if pfx s h.2 (closeB ere) then
   if timesFit a.1 h.1 then (some ((a.1 : Int), h.1), h.2 + (closeB ere).length) else (none, i)
  else (none, h.2)
 else (none, a.2.2)
def rrep (a b : Int) (r : Rx) : Rx := .mk 4 a b 0 W4.z [r]
def pRep (s : ByteArray) (ere : Bool) (r : Rx) (t : St) : Out :=
 let g := sgn s ere t.i
 if g.1 = 10 then pTake g.2.2 (rrep 0 (-1) r) t
 else if g.1 = 11 then pTake g.2.2 (rrep 1 (-1) r) t
 else if g.1 = 12 then pTake g.2.2 (rrep 0 1 r) t
 else if g.1 = 13 then match pInt s ere t.i g.2.2 with
  | (none, j) => ⟨rx0, 1, ⟨j, t.n, t.g, t.d⟩⟩
  | (some (a, b), j) => pTake 0 (rrep a b r) ⟨j, t.n, t.g, t.d⟩
 else ⟨r, 0, t⟩
def plainIn (s : ByteArray) (began i k : Nat) : Bool :=
 if k = 10 then decide (i = began) || (decide (i = began + 1) && ch s began == 94)
 else if k = 5 then !decide (i = began)
 else if k = 6 then (let x := (sgn s false (i + 1)).1; decide (x ≠ 1) && decide (x ≠ 8))
 else false
def sgnIn (s : ByteArray) (ere : Bool) (began i : Nat) : Nat × Nat × Nat :=
 let g := sgn s ere i
 if ere then g else if plainIn s began i g.1 then (2, g.2.1, g.2.2) else g
def pBack (b sz : Nat) (t : St) : Out := if b < 49 ∨ t.g + 48 < b then ⟨rx0, 1, t⟩ else pTake sz (.mk 6 0 0 ((b : Int) - 48) W4.z []) t
def pGroup (c : St → Out) (s : ByteArray) (ere : Bool) (sz : Nat) (t : St) : Out :=
 if t.d = 6 then ⟨rx0, 2, t⟩ else
 let o := c ⟨t.i + sz, t.n, t.g + 1, t.d + 1⟩
 if o.e ≠ 0 then ⟨rx0, o.e, o.st⟩ else
 let h := sgn s ere o.st.i
 if h.1 ≠ 8 then ⟨rx0, 1, o.st⟩ else pTake h.2.2 (.mk 5 0 0 ((t.g + 1 : Nat) : Int) W4.z [o.r]) ⟨o.st.i, o.st.n, o.st.g, o.st.d - 1⟩
def pOne (c : St → Out) (s : ByteArray) (ere : Bool) (k b sz : Nat) (t : St) : Out :=
 if k = 2 then pTake sz (rset (addB (fun _ => false) b)) t
 else if k = 3 then pTake sz (rset (notB (fun _ => false))) t
 else if k = 5 then pTake sz (.mk 7 0 0 0 W4.z []) t
 else if k = 6 then pTake sz (.mk 8 0 0 0 W4.z []) t
 else if k = 14 then pBack b sz t
 else if k = 4 then pBracket s t
 else if k = 7 then pGroup c s ere sz t
 else ⟨rx0, 1, t⟩
def mayRep (k : Int) : Bool := k == 1 || k == 5 || k == 6
def pPart (c : St → Out) (s : ByteArray) (ere : Bool) (began : Nat) (t : St) : Out :=
 let g := sgnIn s ere began t.i
 let o := pOne c s ere g.1 g.2.1 g.2.2 t
 if o.e ≠ 0 ∨ mayRep o.r.k = false then o else pRep s ere o.r o.st
def ends (k : Nat) : Bool := k == 1 || k == 9 || k == 8
def keepL (n : Nat) (ks : List Rx) (r : Rx) : List Rx := if n > 40 then ks else ks ++ [r]
def rowOut (ks : List Rx) (t : St) : Out := match ks with
 | [r] => ⟨r, 0, t⟩
 | _ => ⟨.mk 2 0 0 0 W4.z ks, 0, ⟨t.i, t.n + 1, t.g, t.d⟩⟩
def pRowL (c : St → Out) (s : ByteArray) (ere : Bool) (began : Nat) : Nat → List Rx → St → Out
 | 0, _, t => ⟨rx0, 1, t⟩
 | f + 1, ks, t => if ends (sgn s ere t.i).1 then rowOut ks t else
  let o := pPart c s ere began t
  if o.e ≠ 0 then ⟨rx0, o.e, o.st⟩ else pRowL c s ere began f (keepL o.st.n ks o.r) o.st
def pRow (c : St → Out) (s : ByteArray) (ere : Bool) (t : St) : Out := pRowL c s ere t.i (s.size + 1) [] t
def pChL (c : St → Out) (s : ByteArray) (ere : Bool) : Nat → List Rx → St → Out
 | 0, _, t => ⟨rx0, 1, t⟩
 | f + 1, ks, t => if (sgn s ere t.i).1 = 9 then
   let o := pRow c s ere ⟨t.i + 1, t.n, t.g, t.d⟩
   if o.e ≠ 0 then ⟨rx0, o.e, o.st⟩ else pChL c s ere f (keepL o.st.n ks o.r) o.st
  else ⟨.mk 3 0 0 0 W4.z ks, 0, ⟨t.i, t.n + 1, t.g, t.d⟩⟩
def pCh1 (c : St → Out) (s : ByteArray) (ere : Bool) (t : St) : Out :=
 let o := pRow c s ere t
 if o.e ≠ 0 ∨ (sgn s ere o.st.i).1 ≠ 9 then o else pChL c s ere (s.size + 1) [o.r] o.st
def pCh (s : ByteArray) (ere : Bool) : Nat → St → Out
 | 0, t => ⟨rx0, 1, t⟩
 | D + 1, t => pCh1 (pCh s ere D) s ere t
def pWhole (s : ByteArray) (ere : Bool) : Out :=
 let o := pCh s ere 7 ⟨0, 0, 0, 0⟩
 if o.e ≠ 0 then ⟨rx0, o.e, o.st⟩ else if o.st.i < s.size then ⟨rx0, 1, o.st⟩ else if o.st.n > 40 ∨ o.st.g > 3 then ⟨rx0, 4, o.st⟩ else o
def pParse (s : ByteArray) (ere : Bool) : Rx × Nat × Nat :=
 let o := pWhole s ere
 if o.e ≠ 0 then (rx0, o.st.i, o.e) else (o.r, 0, 0)
structure Ret (w0 : World) (P : Nat) (s : ByteArray) (ere : Bool) (o : Out) (v : Value) (w' : World) : Prop where
 is : Is w' (fun b => w0.heap.size ≤ b) o.r v
 rd : Rd w' P s ere o.st.i o.st.n o.st.g o.st.d
 ks : Ks P w0 w'
theorem Ret.up {w0 w1 w2 : World} {P : Nat} {s : ByteArray} {ere : Bool} {o : Out} {v : Value} (h : Ret w1 P s ere o v w2) (k : Ks P w0 w1) : Ret w0 P s ere o v w2 :=
 ⟨h.is.weak (fun _ hb _ => Nat.le_trans k.size hb), h.rd, k.trans h.ks⟩
theorem Ret.upset {w0 w1 w2 w3 : World} {P S : Nat} {s : ByteArray} {ere : Bool} {o : Out} {v : Value} (h : Ret w1 P s ere o v w2) (k : Ks P w0 w1) (k' : Ks S w2 w3) (hP : P < w0.heap.size) (hS : w0.heap.size ≤ S) (hS' : S < w1.heap.size) : Ret w0 P s ere o v w3 :=
 ⟨(h.is.ks k' (fun _ hb _ => by omega)).weak (fun _ hb _ => Nat.le_trans k.size hb), h.rd.ks k' (by omega) (by omega), (k.trans h.ks).off k' hS hP⟩
theorem Kp.grown {w w' : World} (k : Kp w w') (row : Option Nat) : w.grownBy w' row := ⟨k.os, k.tape, k.output, k.size, fun b hb _ => k.block b hb⟩
theorem is_zero (w : World) (ok : Nat → Prop) : Is w ok rx0 rz := Is.leaf w ok 0 0 0 0 W4.z
theorem hid {p : Prop} (h : p) : Hid p := h
theorem field91 (a b c : Value) (w : World) : (Instr.field 173 (.agg #[a, b, c]) 0).run Tryz.prog w = .ok a w := by kernel_rfl
theorem take_ret (x y z : Nat) (k mn mx m : Int) (t : W4) (ad : Option Addr) (l c : Nat) (s : ByteArray) (ere : Bool) (i n g d P : Nat) (r : Rx) (w0 w : World) (h : Rd w P s ere i n g d) (hi : i ≤ 1000000000) (hz : z ≤ 100) (hn : n ≤ 1000000000)
  (hI : Is w (fun b => w0.heap.size ≤ b) r (rxv k mn mx m t (.slice ad l c))) (hk : Ks P w0 w) (hP : P < w0.heap.size) :
  Calls Tryz.prog 229 #[.pointer (some ⟨P, 0, none⟩), .agg #[.int .i64 (x : Int), .int .u8 (y : Int), .int .i64 (z : Int)], rxv k mn mx m t (.slice ad l c)] w fun e w' => e = .returned (.tuple #[rxv k mn mx m t (.slice ad l c), .int .i64 0]) ∧ Ret w0 P s ere (pTake z r ⟨i, n, g, d⟩) (rxv k mn mx m t (.slice ad l c)) w' ∧ Ks P w w' := by
 refine (take_any x y z k mn mx m t ad l c s ere i n g d P w h hi hz hn).mono ?_
 rintro e w' ⟨rfl, r', k'⟩
 exact ⟨rfl, ⟨hI.ks k' (fun _ hb _ => by omega), r', hk.trans k'⟩, k'⟩
theorem take_ret0 (x y z : Nat) (k mn mx m : Int) (ad : Option Addr) (l c : Nat) (s : ByteArray) (ere : Bool) (i n g d P : Nat) (r : Rx) (w0 w : World) (h : Rd w P s ere i n g d) (hi : i ≤ 1000000000) (hz : z ≤ 100) (hn : n ≤ 1000000000)
  (hI : Is w (fun b => w0.heap.size ≤ b) r (rxv k mn mx m W4.z (.slice ad l c))) (hk : Ks P w0 w) (hP : P < w0.heap.size) :
  Calls Tryz.prog 229 #[.pointer (some ⟨P, 0, none⟩), .agg #[.int .i64 (x : Int), .int .u8 (y : Int), .int .i64 (z : Int)], .agg #[.int .i64 k, .int .i64 mn, .int .i64 mx, .int .i64 m, .int .u64 0, .int .u64 0, .int .u64 0, .int .u64 0, .slice ad l c]] w fun e w' => e = .returned (.tuple #[.agg #[.int .i64 k, .int .i64 mn, .int .i64 mx, .int .i64 m, .int .u64 0, .int .u64 0, .int .u64 0, .int .u64 0, .slice ad l c], .int .i64 0]) ∧ Ret w0 P s ere (pTake z r ⟨i, n, g, d⟩) (rxv k mn mx m W4.z (.slice ad l c)) w' ∧ Ks P w w' :=
 take_ret x y z k mn mx m W4.z ad l c s ere i n g d P r w0 w h hi hz hn hI hk hP
theorem Ret.fail {w0 w1 w2 : World} {P S : Nat} {s : ByteArray} {ere : Bool} {e i n g d : Nat} (R : Rd w1 P s ere i n g d) (k : Ks P w0 w1) (k' : Ks S w1 w2) (hP : P < w0.heap.size) (hS : w0.heap.size ≤ S) : Ret w0 P s ere ⟨rx0, e, ⟨i, n, g, d⟩⟩ rz w2 :=
 ⟨is_zero _ _, R.ks k' (by omega) (by omega), k.off k' hS hP⟩
set_option maxHeartbeats 2000000
set_option maxRecDepth 100000
attribute [local go_sem] field91
theorem rowEnds_any (s : ByteArray) (ere : Bool) (i n g d P : Nat) (w : World) (h : Rd w P s ere i n g d) (hi : i ≤ s.size) (hs : s.size ≤ 1000000) :
  Calls Tryz.prog 173 #[.pointer (some ⟨P, 0, none⟩)] w fun e w' => e = .returned (.bool (ends (sgn s ere i).1)) ∧ Kp w w' := by
 have R : Hid (Rd w P s ere i n g d) := h
 clear h
 obtain ⟨x, y, z, hg⟩ : ∃ x y z, sgn s ere i = (x, y, z) := ⟨_, _, _, rfl⟩
 have HG : Hid (sgn s ere i = (x, y, z)) := hg
 rw [hg]
 clear hg
 show Calls _ _ _ _ fun e w' => e = .returned (.bool (ends x)) ∧ _
 by_cases h1 : x = 1
 ·
  subst h1
  go_enter Tryz.func173, Tryz.ntmps173
  go_wp2_with fail
  refine (sign_any s ere i n g d P _ R.out hi hs).mono ?_
  rintro e w1 ⟨rfl, kq⟩
  rw [HG.out, sg3]
  have KQ : Hid (Kp w w1) := kq
  clear kq
  go_wp2_with fail
  go_ret
  exact ⟨rfl, KQ.out⟩
 by_cases h9 : x = 9
 ·
  subst h9
  go_enter Tryz.func173, Tryz.ntmps173
  go_wp2_with fail
  refine (sign_any s ere i n g d P _ R.out hi hs).mono ?_
  rintro e w1 ⟨rfl, kq⟩
  rw [HG.out, sg3]
  have KQ : Hid (Kp w w1) := kq
  clear kq
  go_wp2_with fail
  go_ret
  exact ⟨rfl, KQ.out⟩
 by_cases h8 : x = 8
 ·
  subst h8
  go_enter Tryz.func173, Tryz.ntmps173
  go_wp2_with fail
  refine (sign_any s ere i n g d P _ R.out hi hs).mono ?_
  rintro e w1 ⟨rfl, kq⟩
  rw [HG.out, sg3]
  have KQ : Hid (Kp w w1) := kq
  clear kq
  go_wp2_with fail
  go_ret
  exact ⟨rfl, KQ.out⟩
 have g1 : ((x : Int) == 1) = false := by simp; omega
 have g9 : ((x : Int) == 9) = false := by simp; omega
 have g8 : ((x : Int) == 8) = false := by simp; omega
 have E : Hid (ends x = false) := by show _ = _; unfold ends; simp [h1, h9, h8]
 go_enter Tryz.func173, Tryz.ntmps173
 go_wp2_with fail
 refine (sign_any s ere i n g d P _ R.out hi hs).mono ?_
 rintro e w1 ⟨rfl, kq⟩
 rw [HG.out, sg3]
 have KQ : Hid (Kp w w1) := kq
 clear kq
 go_wp2_with fail
 go_ret
 exact ⟨ret_bool E.out.symm, KQ.out⟩
theorem timesFit_any (a b : Int) (w : World) : Calls Tryz.prog 188 #[.int .i64 a, .int .i64 b] w fun e w' => e = .returned (.bool (timesFit a b)) ∧ w' = w := by
 by_cases h0 : a < 0
 ·
  have E : Hid (timesFit a b = false) := by show _ = _; unfold timesFit; rw [if_pos (Or.inl h0)]
  go_enter Tryz.func188, Tryz.ntmps188
  go_wp2
  go_ret
  exact ⟨ret_bool E.out.symm, rfl⟩
 by_cases h1 : a > 20
 ·
  have E : Hid (timesFit a b = false) := by show _ = _; unfold timesFit; rw [if_pos (Or.inr h1)]
  have h1' : (20 : Int) < a := h1
  go_enter Tryz.func188, Tryz.ntmps188
  go_wp2
  go_ret
  exact ⟨ret_bool E.out.symm, rfl⟩
 have h1' : ¬ (20 : Int) < a := h1
 by_cases h2 : b = -1
 ·
  subst h2
  have E : Hid (timesFit a (-1) = true) := by show _ = _; unfold timesFit; rw [if_neg (by omega)]; rfl
  go_enter Tryz.func188, Tryz.ntmps188
  go_wp2
  go_ret
  exact ⟨ret_bool E.out.symm, rfl⟩
 have g2 : (b == -1) = false := by simp [h2]
 by_cases h3 : max a 1 ≤ b
 ·
  by_cases h4 : b ≤ 20
  ·
   have E : Hid (timesFit a b = true) := by show _ = _; unfold timesFit; rw [if_neg (by omega), g2, decide_eq_true h3, decide_eq_true h4]; rfl
   go_enter Tryz.func188, Tryz.ntmps188
   go_wp2
   go_ret
   exact ⟨ret_bool E.out.symm, rfl⟩
  ·
   have E : Hid (timesFit a b = false) := by show _ = _; unfold timesFit; rw [if_neg (by omega), g2, decide_eq_true h3, decide_eq_false h4]; rfl
   go_enter Tryz.func188, Tryz.ntmps188
   go_wp2
   go_ret
   exact ⟨ret_bool E.out.symm, rfl⟩
 ·
  have E : Hid (timesFit a b = false) := by show _ = _; unfold timesFit; rw [if_neg (by omega), g2, decide_eq_false h3]; rfl
  go_enter Tryz.func188, Tryz.ntmps188
  go_wp2
  go_ret
  exact ⟨ret_bool E.out.symm, rfl⟩
def bs (l : List UInt8) : ByteArray := ⟨l.toArray⟩
theorem bs_app (a b : List UInt8) : bs a ++ bs b = bs (a ++ b) := by
 apply ByteArray.ext
 apply Array.toList_inj.1
 rw [ByteArray.data_append, Array.toList_append]
 simp [bs]
theorem bs_size (a : List UInt8) : (bs a).size = a.length := by
 show a.toArray.size = a.length
 simp
theorem bs_toList (a : List UInt8) : (bs a).toList = a := ByteArray.toList_mk a
def dec (n : Nat) : List UInt8 := Lib.decDigits n
theorem dec_len (n : Nat) (h : n < 100) : (dec n).length ≤ 2 := (by decide +kernel : ∀ n : Fin 100, (dec n.val).length ≤ 2) ⟨n, h⟩
theorem itoa_any (n : Nat) (h : n < 100) (w : World) : Calls Tryz.prog 76 #[.int .i64 (n : Int)] w fun e w' => e = .returned (.string (bs (dec n))) ∧ w' = w := Tryz.strconv_Itoa_small n h w
def framedT (a x b : List UInt8) (ere : Bool) : List UInt8 := if ere then a ++ x ++ b else [92] ++ a ++ x ++ [92] ++ b
theorem framed_any (a x b : List UInt8) (ere : Bool) (ha : a.length ≤ 100) (hx : x.length ≤ 10000000) (hb : b.length ≤ 100) (w : World) : Calls Tryz.prog 119 #[.string (bs a), .string (bs x), .string (bs b), .bool ere] w fun e w' => e = .returned (.string (bs (framedT a x b ere))) ∧ w' = w := by
 rw [← bs_size] at ha hx hb
 have E : Hid (bs (framedT a x b ere) = if ere then bs a ++ bs x ++ bs b else bs [92] ++ bs a ++ bs x ++ bs [92] ++ bs b) := by
  show _ = _
  unfold framedT
  cases ere <;> simp [bs_app]
 obtain ⟨A, hA⟩ : ∃ A, bs a = A := ⟨_, rfl⟩
 obtain ⟨X, hX⟩ : ∃ X, bs x = X := ⟨_, rfl⟩
 obtain ⟨B, hB⟩ : ∃ B, bs b = B := ⟨_, rfl⟩
 rw [hA, hX, hB] at E
 rw [hA] at ha ⊢
 rw [hX] at hx ⊢
 rw [hB] at hb ⊢
 clear hA hX hB
 cases ere with
 | true =>
  go_enter Tryz.func119, Tryz.ntmps119
  go_wp2
  go_ret
  exact ⟨by rw [E.out]; rfl, rfl⟩
 | false =>
  go_enter Tryz.func119, Tryz.ntmps119
  go_wp2
  go_ret
  exact ⟨by rw [E.out]; rfl, rfl⟩
def ivT (lo : Nat) (hi : Int) : List UInt8 := if hi = lo then dec lo else if hi = -1 then dec lo ++ [44] else dec lo ++ [44] ++ dec hi.toNat
theorem ivText_any (lo : Nat) (hi : Int) (hlo : lo ≤ 20) (h1 : -1 ≤ hi) (h2 : hi ≤ 20) (w : World) : Calls Tryz.prog 160 #[.int .i64 (lo : Int), .int .i64 hi] w fun e w' => e = .returned (.string (bs (ivT lo hi))) ∧ w' = w := by
 have hd : (bs (dec lo)).size ≤ 2 := by rw [bs_size]; exact dec_len lo (by omega)
 obtain ⟨A, hA⟩ : ∃ A, bs (dec lo) = A := ⟨_, rfl⟩
 have IT : Hid (∀ w, Calls Tryz.prog 76 #[.int .i64 (lo : Int)] w fun e w' => e = .returned (.string A) ∧ w' = w) := fun w => by rw [← hA]; exact itoa_any lo (by omega) w
 have HA := hid hA
 rw [hA] at hd
 clear hA
 by_cases e1 : hi = lo
 ·
  subst e1
  have E : Hid (bs (ivT lo (lo : Int)) = A) := by show _ = _; unfold ivT; rw [if_pos rfl, HA.out]
  go_enter Tryz.func160, Tryz.ntmps160
  go_wp2_with fail
  refine (IT.out _).mono ?_
  rintro e w1 ⟨rfl, rfl⟩
  go_wp2_with fail
  go_ret
  exact ⟨by rw [E.out]; rfl, rfl⟩
 have g1 : (hi == (lo : Int)) = false := by simp [e1]
 by_cases e2 : hi = -1
 ·
  subst e2
  have E : Hid (bs (ivT lo (-1)) = A ++ bs [44]) := by show _ = _; unfold ivT; rw [if_neg e1, if_pos rfl, ← HA.out, bs_app]
  go_enter Tryz.func160, Tryz.ntmps160
  go_wp2_with fail
  refine (IT.out _).mono ?_
  rintro e w1 ⟨rfl, rfl⟩
  go_wp2_with fail
  go_ret
  exact ⟨by rw [E.out]; rfl, rfl⟩
 have g2 : (hi == -1) = false := by simp [e2]
 obtain ⟨h, rfl⟩ : ∃ h : Nat, hi = h := ⟨hi.toNat, by omega⟩
 have hd2 : (bs (dec h)).size ≤ 2 := by rw [bs_size]; exact dec_len h (by omega)
 obtain ⟨B, hB⟩ : ∃ B, bs (dec h) = B := ⟨_, rfl⟩
 have IT2 : Hid (∀ w, Calls Tryz.prog 76 #[.int .i64 (h : Int)] w fun e w' => e = .returned (.string B) ∧ w' = w) := fun w => by rw [← hB]; exact itoa_any h (by omega) w
 have E : Hid (bs (ivT lo (h : Int)) = A ++ bs [44] ++ B) := by show _ = _; unfold ivT; rw [if_neg e1, if_neg e2, ← HA.out, ← hB, bs_app, bs_app]; simp
 rw [hB] at hd2
 clear hB
 go_enter Tryz.func160, Tryz.ntmps160
 go_wp2_with fail
 refine (IT.out _).mono ?_
 rintro e w1 ⟨rfl, rfl⟩
 go_wp2_with fail
 refine (IT2.out _).mono ?_
 rintro e w2 ⟨rfl, rfl⟩
 go_wp2_with fail
 go_ret
 exact ⟨by rw [E.out]; rfl, rfl⟩
def timesT (lo : Nat) (hi : Int) (ere : Bool) : List UInt8 :=
 if lo = 0 ∧ hi = -1 then [42] else if ere = true ∧ lo = 1 ∧ hi = -1 then [43] else if ere = true ∧ lo = 0 ∧ hi = 1 then [63] else framedT [123] (ivT lo hi) [125] ere
theorem ivT_len (lo : Nat) (hi : Int) (hlo : lo ≤ 20) (h1 : -1 ≤ hi) (h2 : hi ≤ 20) : (ivT lo hi).length ≤ 5 := by
 have a := dec_len lo (by omega)
 have b := dec_len hi.toNat (by omega)
 unfold ivT
 split
 ·
  omega
 ·
  split
  ·
   simp; omega
  ·
   simp; omega
theorem timesText_any (lo : Nat) (hi : Int) (ere : Bool) (hlo : lo ≤ 20) (h1 : -1 ≤ hi) (h2 : hi ≤ 20) (w : World) : Calls Tryz.prog 118 #[.int .i64 (lo : Int), .int .i64 hi, .bool ere] w fun e w' => e = .returned (.string (bs (timesT lo hi ere))) ∧ w' = w := by
 have FR := hid (framed_any [123] (ivT lo hi) [125] ere (by simp) (by have := ivT_len lo hi hlo h1 h2; omega) (by simp))
 have IV := hid (ivText_any lo hi hlo h1 h2)
 by_cases l0 : lo = 0
 ·
  subst l0
  by_cases m1 : hi = -1
  ·
   subst m1
   have E : Hid (timesT 0 (-1) ere = [42]) := by show _ = _; unfold timesT; rw [if_pos ⟨rfl, rfl⟩]
   go_enter Tryz.func118, Tryz.ntmps118
   go_wp2
   go_ret
   exact ⟨by rw [E.out]; rfl, rfl⟩
  have n1 : (hi == -1) = false := by simp [m1]
  cases ere with
  | false =>
   have E : Hid (timesT 0 hi false = framedT [123] (ivT 0 hi) [125] false) := by show _ = _; unfold timesT; simp [m1]
   go_enter Tryz.func118, Tryz.ntmps118
   go_wp2_with fail
   refine (IV.out _).mono ?_
   rintro e w1 ⟨rfl, rfl⟩
   go_wp2_with fail
   refine (FR.out _).mono ?_
   rintro e w2 ⟨rfl, rfl⟩
   go_wp2_with fail
   go_ret
   exact ⟨by rw [E.out]; rfl, rfl⟩
  | true =>
   by_cases p1 : hi = 1
   ·
    subst p1
    have E : Hid (timesT 0 1 true = [63]) := rfl
    go_enter Tryz.func118, Tryz.ntmps118
    go_wp2
    go_ret
    exact ⟨by rw [E.out]; rfl, rfl⟩
   have n2 : (hi == 1) = false := by simp [p1]
   have E : Hid (timesT 0 hi true = framedT [123] (ivT 0 hi) [125] true) := by show _ = _; unfold timesT; simp [m1, p1]
   go_enter Tryz.func118, Tryz.ntmps118
   go_wp2_with fail
   refine (IV.out _).mono ?_
   rintro e w1 ⟨rfl, rfl⟩
   go_wp2_with fail
   refine (FR.out _).mono ?_
   rintro e w2 ⟨rfl, rfl⟩
   go_wp2_with fail
   go_ret
   exact ⟨by rw [E.out]; rfl, rfl⟩
 have n0 : ((lo : Int) == 0) = false := by simp; omega
 cases ere with
 | false =>
  have E : Hid (timesT lo hi false = framedT [123] (ivT lo hi) [125] false) := by show _ = _; unfold timesT; simp [l0]
  go_enter Tryz.func118, Tryz.ntmps118
  go_wp2_with fail
  refine (IV.out _).mono ?_
  rintro e w1 ⟨rfl, rfl⟩
  go_wp2_with fail
  refine (FR.out _).mono ?_
  rintro e w2 ⟨rfl, rfl⟩
  go_wp2_with fail
  go_ret
  exact ⟨by rw [E.out]; rfl, rfl⟩
 | true =>
  by_cases l1 : lo = 1
  ·
   subst l1
   by_cases m1 : hi = -1
   ·
    subst m1
    have E : Hid (timesT 1 (-1) true = [43]) := rfl
    go_enter Tryz.func118, Tryz.ntmps118
    go_wp2
    go_ret
    exact ⟨by rw [E.out]; rfl, rfl⟩
   have n1 : (hi == -1) = false := by simp [m1]
   have E : Hid (timesT 1 hi true = framedT [123] (ivT 1 hi) [125] true) := by show _ = _; unfold timesT; simp [m1]
   go_enter Tryz.func118, Tryz.ntmps118
   go_wp2_with fail
   refine (IV.out _).mono ?_
   rintro e w1 ⟨rfl, rfl⟩
   go_wp2_with fail
   refine (FR.out _).mono ?_
   rintro e w2 ⟨rfl, rfl⟩
   go_wp2_with fail
   go_ret
   exact ⟨by rw [E.out]; rfl, rfl⟩
  have n3 : ((lo : Int) == 1) = false := by simp; omega
  have E : Hid (timesT lo hi true = framedT [123] (ivT lo hi) [125] true) := by show _ = _; unfold timesT; simp [l0, l1]
  go_enter Tryz.func118, Tryz.ntmps118
  go_wp2_with fail
  refine (IV.out _).mono ?_
  rintro e w1 ⟨rfl, rfl⟩
  go_wp2_with fail
  refine (FR.out _).mono ?_
  rintro e w2 ⟨rfl, rfl⟩
  go_wp2_with fail
  go_ret
  exact ⟨by rw [E.out]; rfl, rfl⟩
def byteT (b : Nat) (ere : Bool) : List UInt8 := if b = 10 then [92, 110] else if spec ere b then [92, UInt8.ofNat b] else [UInt8.ofNat b]
theorem conv_one (W : World) (b : Nat) (hb : b < 256) : (convert 59 9 (.slice (some ⟨W.heap.size, 0, none⟩) 1 1)).run Tryz.prog (W.alloc (.cells #[.int .u8 (b : Int)] 5)) = .ok (.string (bs [UInt8.ofNat b])) (W.alloc (.cells #[.int .u8 (b : Int)] 5)) := by
 refine run_convert_bytes_back (W.alloc (.cells #[.int .u8 (b : Int)] 5)) 59 9 5 ⟨W.heap.size, 0, none⟩ 1 [UInt8.ofNat b] Tryz.underlying59 Tryz.underlying5 Tryz.underlying9 ?_
 intro j hj
 have h0 : j = 0 := by simp at hj; exact hj
 subst h0
 refine bl_cell (last_of _ _) 0 _ ?_
 show some _ = some _
 simp
 omega
theorem byteText_any (b : Nat) (hb : b < 256) (ere : Bool) (w : World) : Calls Tryz.prog 156 #[.int .u8 (b : Int), .bool ere] w fun e w' => e = .returned (.string (bs (byteT b ere))) ∧ Kp w w' := by
 by_cases h10 : b = 10
 ·
  subst h10
  have E : Hid (byteT 10 ere = [92, 110]) := rfl
  go_enter Tryz.func156, Tryz.ntmps156
  go_wp2
  go_ret
  exact ⟨by rw [E.out]; rfl, Kp.refl _⟩
 have g : ((b : Int) == 10) = false := by simp; omega
 obtain ⟨sp, hsp⟩ : ∃ sp, spec ere b = sp := ⟨_, rfl⟩
 have HSP := hid hsp
 have E0 : Hid (byteT b ere = if sp then [92, UInt8.ofNat b] else [UInt8.ofNat b]) := by show _ = _; unfold byteT; rw [if_neg h10, hsp]
 clear hsp
 go_enter Tryz.func156, Tryz.ntmps156
 go_wp2_with fail
 refine (special_any ere _).mono ?_
 rintro e W1 ⟨rfl, k1⟩
 have K1 := hid k1
 clear k1
 go_wp2_with fail
 refine (has_any (spec ere) b _ hb).mono ?_
 rintro e W2 ⟨rfl, k2⟩
 rw [HSP.out]
 have K2 := hid (K1.out.trans k2)
 have cv := conv_one W2 b hb
 have hz : (bs [UInt8.ofNat b]).size ≤ 10 := by rw [bs_size]; simp
 obtain ⟨T, hT⟩ : ∃ T, bs [UInt8.ofNat b] = T := ⟨_, rfl⟩
 rw [hT] at cv hz
 have HT := hid hT
 clear k2 hT K1
 cases sp with
 | true =>
  have E : Hid (bs (byteT b ere) = bs [92] ++ T) := by show _ = _; rw [E0.out, ← HT.out, bs_app]; rfl
  go_wp2_with fail
  go_ret
  exact ⟨by rw [E.out]; rfl, K2.out.alloc _⟩
 | false =>
  have E : Hid (bs (byteT b ere) = T) := by show _ = _; rw [E0.out, ← HT.out]; rfl
  go_wp2_with fail
  go_ret
  exact ⟨by rw [E.out]; rfl, K2.out.alloc _⟩
structure Pc where
 g : Int
 s : ByteArray
structure PcAt (w : World) (P : List Pc) (ad : Option Addr) (l c : Nat) : Prop where
 ln : l = P.length
 cp : l ≤ c
 at' : P ≠ [] → ∃ b o, ad = some ⟨b, o, none⟩ ∧ b < w.heap.size ∧ ∀ (j : Nat) p, P[j]? = some p → w.cell? ⟨b, o + j * 2, none⟩ = some (.int .i64 p.g) ∧ w.cell? ⟨b, o + j * 2 + 1, none⟩ = some (.string p.s)
theorem PcAt.kp {w w' : World} {P : List Pc} {ad : Option Addr} {l c : Nat} (h : PcAt w P ad l c) (k : Kp w w') : PcAt w' P ad l c :=
 ⟨h.ln, h.cp, fun hne => by
  obtain ⟨b, o, h1, h2, h3⟩ := h.at' hne
  exact ⟨b, o, h1, Nat.lt_of_lt_of_le h2 k.size, fun j p hj => ⟨(k.cell h2).trans (h3 j p hj).1, (k.cell h2).trans (h3 j p hj).2⟩⟩⟩
theorem PcAt.nil (w : World) : PcAt w [] none 0 0 := ⟨rfl, Nat.le_refl _, fun h => absurd rfl h⟩
def lab1 (n : Nat) : Bool := (decide (97 ≤ n) && decide (n ≤ 122)) || (decide (65 ≤ n) && decide (n ≤ 90)) || (decide (48 ≤ n) && decide (n ≤ 57)) || n == 95
def labB (s : ByteArray) : Bool := decide (1 ≤ s.size) && decide (s.size ≤ 8) && s.data.toList.all (fun b => lab1 b.toNat)
def labO (s : ByteArray) : Bool := decide (s.size = 0) || labB s
def kindN (op : Nat) : Nat :=
 if op ∈ [123, 125, 61, 100, 68, 103, 71, 104, 72, 110, 78, 112, 80, 113, 120] then 1
 else if op ∈ [97, 105, 99] then 2
 else if op ∈ [98, 116] then 3
 else if op ∈ [58, 119] then 4
 else if op = 115 then 5
 else if op = 121 then 6
 else 0
def addrsN (op : Nat) : Nat := if op ∈ [125, 58] then 0 else if op ∈ [113, 97, 105, 61] then 1 else 2
def pcR (p : Pc) (G : Int) : Bool := if p.g = -1 then decide (1 ≤ p.s.size) && decide (p.s.size ≤ 400) else decide (0 ≤ p.g) && decide (p.g ≤ G) && decide (p.s.size = 0)
def tplL : Bool → List Pc → Int → Bool
 | _, [], _ => true
 | t, p :: ps, G => pcR p G && !(t && decide (p.g = -1)) && tplL (decide (p.g = -1)) ps G
def tplR (P : List Pc) (G : Int) : Bool := tplL false P G
def tabR (y z : ByteArray) : Bool := decide (y.size = z.size) && decide (y.size ≤ 400) && decide (y.data.toList.Nodup)
def quotT (s : List UInt8) : List UInt8 := s.flatMap fun b => if b = 10 then [92, 110] else if b = 38 ∨ b = 47 ∨ b = 92 then [92, b] else [b]
def linesT (s : List UInt8) : List UInt8 := s.flatMap fun b => if b = 92 ∨ b = 10 then [92, b] else [b]
def tableT (s : List UInt8) : List UInt8 := s.flatMap fun b => if b = 10 then [92, 110] else if b = 47 ∨ b = 92 then [92, b] else [b]
def pcT (p : Pc) : List UInt8 := if p.g = -1 then quotT p.s.data.toList else if p.g = 0 then [38] else if 0 < p.g ∧ p.g ≤ 9 then [92] ++ dec p.g.toNat else []
def tplT (P : List Pc) : List UInt8 := P.flatMap pcT
def nameT (s : List UInt8) : List UInt8 := if s = [] then [] else [32] ++ s
def pcEq (a b : Pc) : Bool := decide (a.g = b.g) && a.s.data.toList == b.s.data.toList
def pcsEq : List Pc → List Pc → Bool
 | [], [] => true
 | a :: x, b :: y => pcEq a b && pcsEq x y
 | _, _ => false
end Go.Proofs.YtigdmebijbaofaaGreatDoor
