/-
  Texts of this claim: Names, Pf, Ret, RetE.
-/
import Derived.Test.YtigdmebijbaofaaGreatDoorCmdAM5
import Derived.Test.YtigdmebijbaofaaGreatDoorCmdAM4

/-! ### Names -/

namespace Go.Proofs.YtigdmebijbaofaaGreatDoor
open Go.RowKit

set_option maxRecDepth 100000 in
theorem class_alpha (w : World) : Calls Tryz.prog 265 #[.string ⟨#[97, 108, 112, 104, 97]⟩] w fun e w' => e = .returned (.tuple #[sv cAlpha, .bool true]) ∧ Kp w w' := by
 go_enter Tryz.func265, Tryz.ntmps265
 go_wp2_with fail
 refine (alpha_any _).mono ?_
 rintro e w1 ⟨rfl, k⟩
 have K1 : Hid (Kp (w.alloc zero4) w1) := (((Kp.refl _))).trans k
 clear k
 have z := K1.out.at (At.zero w)
 obtain ⟨d0, d1, d2, d3⟩ := z.cells
 have f0 := z.frozen 0; have f1 := z.frozen 1; have f2 := z.frozen 2; have f3 := z.frozen 3
 have Z : Hid (At w1 w.heap.size (fun _ => false)) := z
 clear z
 go_wp2
 refine bodyPost_ret (v := .tuple #[sv cAlpha, .bool true]) (ret2_at Tryz.results265 _ _ w.heap.size _ rfl (Z.out.set4 cAlpha)) rfl ⟨rfl, ?_⟩
 exact set4_kp (Nat.le_refl _) (((Kp.refl _).alloc _).trans K1.out) _ _ _ _

set_option maxRecDepth 100000 in
theorem class_digit (w : World) : Calls Tryz.prog 265 #[.string ⟨#[100, 105, 103, 105, 116]⟩] w fun e w' => e = .returned (.tuple #[sv cDigit, .bool true]) ∧ Kp w w' := by
 go_enter Tryz.func265, Tryz.ntmps265
 go_wp2_with fail
 refine (digit_any _).mono ?_
 rintro e w1 ⟨rfl, k⟩
 have K1 : Hid (Kp (w.alloc zero4) w1) := (((Kp.refl _))).trans k
 clear k
 have z := K1.out.at (At.zero w)
 obtain ⟨d0, d1, d2, d3⟩ := z.cells
 have f0 := z.frozen 0; have f1 := z.frozen 1; have f2 := z.frozen 2; have f3 := z.frozen 3
 have Z : Hid (At w1 w.heap.size (fun _ => false)) := z
 clear z
 go_wp2
 refine bodyPost_ret (v := .tuple #[sv cDigit, .bool true]) (ret2_at Tryz.results265 _ _ w.heap.size _ rfl (Z.out.set4 cDigit)) rfl ⟨rfl, ?_⟩
 exact set4_kp (Nat.le_refl _) (((Kp.refl _).alloc _).trans K1.out) _ _ _ _

set_option maxRecDepth 100000 in
theorem class_alnum (w : World) : Calls Tryz.prog 265 #[.string ⟨#[97, 108, 110, 117, 109]⟩] w fun e w' => e = .returned (.tuple #[sv cAlnum, .bool true]) ∧ Kp w w' := by
 go_enter Tryz.func265, Tryz.ntmps265
 go_wp2_with fail
 refine (alnum_any _).mono ?_
 rintro e w1 ⟨rfl, k⟩
 have K1 : Hid (Kp (w.alloc zero4) w1) := (((Kp.refl _))).trans k
 clear k
 have z := K1.out.at (At.zero w)
 obtain ⟨d0, d1, d2, d3⟩ := z.cells
 have f0 := z.frozen 0; have f1 := z.frozen 1; have f2 := z.frozen 2; have f3 := z.frozen 3
 have Z : Hid (At w1 w.heap.size (fun _ => false)) := z
 clear z
 go_wp2
 refine bodyPost_ret (v := .tuple #[sv cAlnum, .bool true]) (ret2_at Tryz.results265 _ _ w.heap.size _ rfl (Z.out.set4 cAlnum)) rfl ⟨rfl, ?_⟩
 exact set4_kp (Nat.le_refl _) (((Kp.refl _).alloc _).trans K1.out) _ _ _ _

set_option maxRecDepth 100000 in
theorem class_upper (w : World) : Calls Tryz.prog 265 #[.string ⟨#[117, 112, 112, 101, 114]⟩] w fun e w' => e = .returned (.tuple #[sv cUpper, .bool true]) ∧ Kp w w' := by
 go_enter Tryz.func265, Tryz.ntmps265
 go_wp2_with fail
 refine (range_any 65 90 _ (by omega) (by omega)).mono ?_
 rintro e w1 ⟨rfl, k⟩
 have K1 : Hid (Kp (w.alloc zero4) w1) := (((Kp.refl _))).trans k
 clear k
 have z := K1.out.at (At.zero w)
 obtain ⟨d0, d1, d2, d3⟩ := z.cells
 have f0 := z.frozen 0; have f1 := z.frozen 1; have f2 := z.frozen 2; have f3 := z.frozen 3
 have Z : Hid (At w1 w.heap.size (fun _ => false)) := z
 clear z
 go_wp2
 refine bodyPost_ret (v := .tuple #[sv cUpper, .bool true]) (ret2_at Tryz.results265 _ _ w.heap.size _ rfl (Z.out.set4 cUpper)) rfl ⟨rfl, ?_⟩
 exact set4_kp (Nat.le_refl _) (((Kp.refl _).alloc _).trans K1.out) _ _ _ _

set_option maxRecDepth 100000 in
theorem class_lower (w : World) : Calls Tryz.prog 265 #[.string ⟨#[108, 111, 119, 101, 114]⟩] w fun e w' => e = .returned (.tuple #[sv cLower, .bool true]) ∧ Kp w w' := by
 go_enter Tryz.func265, Tryz.ntmps265
 go_wp2_with fail
 refine (range_any 97 122 _ (by omega) (by omega)).mono ?_
 rintro e w1 ⟨rfl, k⟩
 have K1 : Hid (Kp (w.alloc zero4) w1) := (((Kp.refl _))).trans k
 clear k
 have z := K1.out.at (At.zero w)
 obtain ⟨d0, d1, d2, d3⟩ := z.cells
 have f0 := z.frozen 0; have f1 := z.frozen 1; have f2 := z.frozen 2; have f3 := z.frozen 3
 have Z : Hid (At w1 w.heap.size (fun _ => false)) := z
 clear z
 go_wp2
 refine bodyPost_ret (v := .tuple #[sv cLower, .bool true]) (ret2_at Tryz.results265 _ _ w.heap.size _ rfl (Z.out.set4 cLower)) rfl ⟨rfl, ?_⟩
 exact set4_kp (Nat.le_refl _) (((Kp.refl _).alloc _).trans K1.out) _ _ _ _

set_option maxRecDepth 100000 in
theorem class_space (w : World) : Calls Tryz.prog 265 #[.string ⟨#[115, 112, 97, 99, 101]⟩] w fun e w' => e = .returned (.tuple #[sv cSpace, .bool true]) ∧ Kp w w' := by
 go_enter Tryz.func265, Tryz.ntmps265
 go_wp2_with fail
 refine (of_one 32 _ _ (by simp) (by omega)).mono ?_
 rintro e w1 ⟨rfl, k⟩
 have K1 : Hid (Kp (w.alloc zero4) w1) := (((Kp.refl _))).trans k
 clear k
 go_wp2_with fail
 refine (range_any 9 13 _ (by omega) (by omega)).mono ?_
 rintro e w2 ⟨rfl, k⟩
 have K2 : Hid (Kp (w.alloc zero4) w2) := ((K1.out)).trans k
 clear k
 go_wp2_with fail
 refine (join2 (addB (fun _ => false) 32) (rng 9 13) _ _ (by simp) (last_of _ _)).mono ?_
 rintro e w3 ⟨rfl, k⟩
 have K3 : Hid (Kp (w.alloc zero4) w3) := ((K2.out).alloc _).trans k
 clear k
 have z := K3.out.at (At.zero w)
 obtain ⟨d0, d1, d2, d3⟩ := z.cells
 have f0 := z.frozen 0; have f1 := z.frozen 1; have f2 := z.frozen 2; have f3 := z.frozen 3
 have Z : Hid (At w3 w.heap.size (fun _ => false)) := z
 clear z
 go_wp2
 refine bodyPost_ret (v := .tuple #[sv cSpace, .bool true]) (ret2_at Tryz.results265 _ _ w.heap.size _ rfl (Z.out.set4 cSpace)) rfl ⟨rfl, ?_⟩
 exact set4_kp (Nat.le_refl _) (((Kp.refl _).alloc _).trans K3.out) _ _ _ _

set_option maxRecDepth 100000 in
theorem class_blank (w : World) : Calls Tryz.prog 265 #[.string ⟨#[98, 108, 97, 110, 107]⟩] w fun e w' => e = .returned (.tuple #[sv cBlank, .bool true]) ∧ Kp w w' := by
 go_enter Tryz.func265, Tryz.ntmps265
 go_wp2_with fail
 refine (of_two 32 9 _ _ (by simp) (by omega) (by omega)).mono ?_
 rintro e w1 ⟨rfl, k⟩
 have K1 : Hid (Kp (w.alloc zero4) w1) := (((Kp.refl _))).trans k
 clear k
 have z := K1.out.at (At.zero w)
 obtain ⟨d0, d1, d2, d3⟩ := z.cells
 have f0 := z.frozen 0; have f1 := z.frozen 1; have f2 := z.frozen 2; have f3 := z.frozen 3
 have Z : Hid (At w1 w.heap.size (fun _ => false)) := z
 clear z
 go_wp2
 refine bodyPost_ret (v := .tuple #[sv cBlank, .bool true]) (ret2_at Tryz.results265 _ _ w.heap.size _ rfl (Z.out.set4 cBlank)) rfl ⟨rfl, ?_⟩
 exact set4_kp (Nat.le_refl _) (((Kp.refl _).alloc _).trans K1.out) _ _ _ _

set_option maxRecDepth 100000 in
theorem class_punct (w : World) : Calls Tryz.prog 265 #[.string ⟨#[112, 117, 110, 99, 116]⟩] w fun e w' => e = .returned (.tuple #[sv cPunct, .bool true]) ∧ Kp w w' := by
 go_enter Tryz.func265, Tryz.ntmps265
 go_wp2_with fail
 refine (graph_any _).mono ?_
 rintro e w1 ⟨rfl, k⟩
 have K1 : Hid (Kp (w.alloc zero4) w1) := (((Kp.refl _))).trans k
 clear k
 go_wp2_with fail
 refine (alnum_any _).mono ?_
 rintro e w2 ⟨rfl, k⟩
 have K2 : Hid (Kp (w.alloc zero4) w2) := ((K1.out)).trans k
 clear k
 go_wp2_with fail
 refine (without_any _ _ _).mono ?_
 rintro e w3 ⟨rfl, k⟩
 have K3 : Hid (Kp (w.alloc zero4) w3) := ((K2.out)).trans k
 clear k
 have z := K3.out.at (At.zero w)
 obtain ⟨d0, d1, d2, d3⟩ := z.cells
 have f0 := z.frozen 0; have f1 := z.frozen 1; have f2 := z.frozen 2; have f3 := z.frozen 3
 have Z : Hid (At w3 w.heap.size (fun _ => false)) := z
 clear z
 go_wp2
 refine bodyPost_ret (v := .tuple #[sv cPunct, .bool true]) (ret2_at Tryz.results265 _ _ w.heap.size _ rfl (Z.out.set4 cPunct)) rfl ⟨rfl, ?_⟩
 exact set4_kp (Nat.le_refl _) (((Kp.refl _).alloc _).trans K3.out) _ _ _ _

set_option maxRecDepth 100000 in
theorem class_print (w : World) : Calls Tryz.prog 265 #[.string ⟨#[112, 114, 105, 110, 116]⟩] w fun e w' => e = .returned (.tuple #[sv cPrint, .bool true]) ∧ Kp w w' := by
 go_enter Tryz.func265, Tryz.ntmps265
 go_wp2_with fail
 refine (of_one 32 _ _ (by simp) (by omega)).mono ?_
 rintro e w1 ⟨rfl, k⟩
 have K1 : Hid (Kp (w.alloc zero4) w1) := (((Kp.refl _))).trans k
 clear k
 go_wp2_with fail
 refine (graph_any _).mono ?_
 rintro e w2 ⟨rfl, k⟩
 have K2 : Hid (Kp (w.alloc zero4) w2) := ((K1.out)).trans k
 clear k
 go_wp2_with fail
 refine (join2 (addB (fun _ => false) 32) cGraph _ _ (by simp) (last_of _ _)).mono ?_
 rintro e w3 ⟨rfl, k⟩
 have K3 : Hid (Kp (w.alloc zero4) w3) := ((K2.out).alloc _).trans k
 clear k
 have z := K3.out.at (At.zero w)
 obtain ⟨d0, d1, d2, d3⟩ := z.cells
 have f0 := z.frozen 0; have f1 := z.frozen 1; have f2 := z.frozen 2; have f3 := z.frozen 3
 have Z : Hid (At w3 w.heap.size (fun _ => false)) := z
 clear z
 go_wp2
 refine bodyPost_ret (v := .tuple #[sv cPrint, .bool true]) (ret2_at Tryz.results265 _ _ w.heap.size _ rfl (Z.out.set4 cPrint)) rfl ⟨rfl, ?_⟩
 exact set4_kp (Nat.le_refl _) (((Kp.refl _).alloc _).trans K3.out) _ _ _ _

set_option maxRecDepth 100000 in
theorem class_graph (w : World) : Calls Tryz.prog 265 #[.string ⟨#[103, 114, 97, 112, 104]⟩] w fun e w' => e = .returned (.tuple #[sv cGraph, .bool true]) ∧ Kp w w' := by
 go_enter Tryz.func265, Tryz.ntmps265
 go_wp2_with fail
 refine (graph_any _).mono ?_
 rintro e w1 ⟨rfl, k⟩
 have K1 : Hid (Kp (w.alloc zero4) w1) := (((Kp.refl _))).trans k
 clear k
 have z := K1.out.at (At.zero w)
 obtain ⟨d0, d1, d2, d3⟩ := z.cells
 have f0 := z.frozen 0; have f1 := z.frozen 1; have f2 := z.frozen 2; have f3 := z.frozen 3
 have Z : Hid (At w1 w.heap.size (fun _ => false)) := z
 clear z
 go_wp2
 refine bodyPost_ret (v := .tuple #[sv cGraph, .bool true]) (ret2_at Tryz.results265 _ _ w.heap.size _ rfl (Z.out.set4 cGraph)) rfl ⟨rfl, ?_⟩
 exact set4_kp (Nat.le_refl _) (((Kp.refl _).alloc _).trans K1.out) _ _ _ _

set_option maxRecDepth 100000 in
theorem class_cntrl (w : World) : Calls Tryz.prog 265 #[.string ⟨#[99, 110, 116, 114, 108]⟩] w fun e w' => e = .returned (.tuple #[sv cCntrl, .bool true]) ∧ Kp w w' := by
 go_enter Tryz.func265, Tryz.ntmps265
 go_wp2_with fail
 refine (range_any 0 31 _ (by omega) (by omega)).mono ?_
 rintro e w1 ⟨rfl, k⟩
 have K1 : Hid (Kp (w.alloc zero4) w1) := (((Kp.refl _))).trans k
 clear k
 go_wp2_with fail
 refine (of_one 127 _ _ (by simp) (by omega)).mono ?_
 rintro e w2 ⟨rfl, k⟩
 have K2 : Hid (Kp (w.alloc zero4) w2) := ((K1.out)).trans k
 clear k
 go_wp2_with fail
 refine (join2 (rng 0 31) (addB (fun _ => false) 127) _ _ (by simp) (last_of _ _)).mono ?_
 rintro e w3 ⟨rfl, k⟩
 have K3 : Hid (Kp (w.alloc zero4) w3) := ((K2.out).alloc _).trans k
 clear k
 have z := K3.out.at (At.zero w)
 obtain ⟨d0, d1, d2, d3⟩ := z.cells
 have f0 := z.frozen 0; have f1 := z.frozen 1; have f2 := z.frozen 2; have f3 := z.frozen 3
 have Z : Hid (At w3 w.heap.size (fun _ => false)) := z
 clear z
 go_wp2
 refine bodyPost_ret (v := .tuple #[sv cCntrl, .bool true]) (ret2_at Tryz.results265 _ _ w.heap.size _ rfl (Z.out.set4 cCntrl)) rfl ⟨rfl, ?_⟩
 exact set4_kp (Nat.le_refl _) (((Kp.refl _).alloc _).trans K3.out) _ _ _ _

set_option maxRecDepth 100000 in
theorem class_xdigit (w : World) : Calls Tryz.prog 265 #[.string ⟨#[120, 100, 105, 103, 105, 116]⟩] w fun e w' => e = .returned (.tuple #[sv cXdigit, .bool true]) ∧ Kp w w' := by
 go_enter Tryz.func265, Tryz.ntmps265
 go_wp2_with fail
 refine (digit_any _).mono ?_
 rintro e w1 ⟨rfl, k⟩
 have K1 : Hid (Kp (w.alloc zero4) w1) := (((Kp.refl _))).trans k
 clear k
 go_wp2_with fail
 refine (range_any 65 70 _ (by omega) (by omega)).mono ?_
 rintro e w2 ⟨rfl, k⟩
 have K2 : Hid (Kp (w.alloc zero4) w2) := ((K1.out)).trans k
 clear k
 go_wp2_with fail
 refine (range_any 97 102 _ (by omega) (by omega)).mono ?_
 rintro e w3 ⟨rfl, k⟩
 have K3 : Hid (Kp (w.alloc zero4) w3) := ((K2.out)).trans k
 clear k
 go_wp2_with fail
 refine (join3 cDigit (rng 65 70) (rng 97 102) _ _ (by simp) (last_of _ _)).mono ?_
 rintro e w4 ⟨rfl, k⟩
 have K4 : Hid (Kp (w.alloc zero4) w4) := ((K3.out).alloc _).trans k
 clear k
 have z := K4.out.at (At.zero w)
 obtain ⟨d0, d1, d2, d3⟩ := z.cells
 have f0 := z.frozen 0; have f1 := z.frozen 1; have f2 := z.frozen 2; have f3 := z.frozen 3
 have Z : Hid (At w4 w.heap.size (fun _ => false)) := z
 clear z
 go_wp2
 refine bodyPost_ret (v := .tuple #[sv cXdigit, .bool true]) (ret2_at Tryz.results265 _ _ w.heap.size _ rfl (Z.out.set4 cXdigit)) rfl ⟨rfl, ?_⟩
 exact set4_kp (Nat.le_refl _) (((Kp.refl _).alloc _).trans K4.out) _ _ _ _

/-- The twelve names. -/
def named (s : ByteArray) : Prop := s.toList = [97, 108, 112, 104, 97] ∨ s.toList = [100, 105, 103, 105, 116] ∨ s.toList = [97, 108, 110, 117, 109] ∨ s.toList = [117, 112, 112, 101, 114] ∨ s.toList = [108, 111, 119, 101, 114] ∨ s.toList = [115, 112, 97, 99, 101] ∨ s.toList = [98, 108, 97, 110, 107] ∨ s.toList = [112, 117, 110, 99, 116] ∨ s.toList = [112, 114, 105, 110, 116] ∨ s.toList = [103, 114, 97, 112, 104] ∨ s.toList = [99, 110, 116, 114, 108] ∨ s.toList = [120, 100, 105, 103, 105, 116]

set_option maxRecDepth 100000 in
theorem class_other (s : ByteArray) (h : ¬ named s) (w : World) : Calls Tryz.prog 265 #[.string s] w fun e w' => e = .returned (.tuple #[sv (fun _ => false), .bool false]) ∧ Kp w w' := by
 unfold named at h
 simp only [not_or] at h
 obtain ⟨h0, h1, h2, h3, h4, h5, h6, h7, h8, h9, h10, h11⟩ := h
 have q0 : (s.toList == [97, 108, 112, 104, 97]) = false := by simpa using h0
 have q1 : (s.toList == [100, 105, 103, 105, 116]) = false := by simpa using h1
 have q2 : (s.toList == [97, 108, 110, 117, 109]) = false := by simpa using h2
 have q3 : (s.toList == [117, 112, 112, 101, 114]) = false := by simpa using h3
 have q4 : (s.toList == [108, 111, 119, 101, 114]) = false := by simpa using h4
 have q5 : (s.toList == [115, 112, 97, 99, 101]) = false := by simpa using h5
 have q6 : (s.toList == [98, 108, 97, 110, 107]) = false := by simpa using h6
 have q7 : (s.toList == [112, 117, 110, 99, 116]) = false := by simpa using h7
 have q8 : (s.toList == [112, 114, 105, 110, 116]) = false := by simpa using h8
 have q9 : (s.toList == [103, 114, 97, 112, 104]) = false := by simpa using h9
 have q10 : (s.toList == [99, 110, 116, 114, 108]) = false := by simpa using h10
 have q11 : (s.toList == [120, 100, 105, 103, 105, 116]) = false := by simpa using h11
 clear h0 h1 h2 h3 h4 h5 h6 h7 h8 h9 h10 h11
 go_enter Tryz.func265, Tryz.ntmps265
 go_wp2
 exact bodyPost_ret (v := .tuple #[sv (fun _ => false), .bool false]) (ret2_at Tryz.results265 _ _ w.heap.size _ rfl (At.zero w)) rfl ⟨rfl, (Kp.refl _).alloc _⟩

end Go.Proofs.YtigdmebijbaofaaGreatDoor

/-! ### Pf -/

namespace Go.Proofs.YtigdmebijbaofaaGreatDoor
open Go.RowKit

/-- Where the reader stands: the place, the nodes, the groups that have begun, those that are open. -/
structure St where
 i : Nat
 n : Nat
 g : Nat
 d : Nat
structure Out where
 r : Rx
 e : Nat
 st : St

def W4.z : W4 := ⟨0, 0, 0, 0⟩
def rx0 : Rx := .mk 0 0 0 0 W4.z []
def Rx.k : Rx → Int | .mk k _ _ _ _ _ => k
def rset (p : Nat → Bool) : Rx := .mk 1 0 0 0 (W4.of p) []

def pTake (sz : Nat) (r : Rx) (t : St) : Out := ⟨r, 0, ⟨t.i + sz, t.n + 1, t.g, t.d⟩⟩

/-- The named classes. -/
def cls (l : List UInt8) : Option (Nat → Bool) :=
 if l = [97, 108, 112, 104, 97] then some cAlpha else if l = [100, 105, 103, 105, 116] then some cDigit else if l = [97, 108, 110, 117, 109] then some cAlnum
 else if l = [117, 112, 112, 101, 114] then some cUpper else if l = [108, 111, 119, 101, 114] then some cLower else if l = [115, 112, 97, 99, 101] then some cSpace
 else if l = [98, 108, 97, 110, 107] then some cBlank else if l = [112, 117, 110, 99, 116] then some cPunct else if l = [112, 114, 105, 110, 116] then some cPrint
 else if l = [103, 114, 97, 112, 104] then some cGraph else if l = [99, 110, 116, 114, 108] then some cCntrl else if l = [120, 100, 105, 103, 105, 116] then some cXdigit else none

def pClass (s : ByteArray) (i : Nat) : Option (Nat → Bool) × Nat :=
 let c := Lib.cut (s.data.toList.drop (i + 2)) [58, 93]
 if c.2.2 then match cls c.1 with
  | some q => (some q, s.size - c.2.1.length)
  | none => (none, i)
 else (none, i)

def pIn (s : ByteArray) (i : Nat) : Option (Nat → Bool) × Nat :=
 if i = s.size then (none, i)
 else if pfx s i [91, 58] then pClass s i
 else if dash s (i + 1) then
  if pfx s (i + 2) [91, 58] || decide (ch s (i + 2) < ch s i) then (none, i + 2) else (some (rng (ch s i) (ch s (i + 2))), i + 3)
 else (some (addB (fun _ => false) (ch s i)), i + 1)

def pBrL (s : ByteArray) : Nat → (Nat → Bool) → Nat → Option (Nat → Bool) × Nat
 | 0, _, i => (none, i)
 | f + 1, p, i => if pfx s i [93] then (some p, i + 1) else match pIn s i with
  | (none, j) => (none, j)
  | (some q, j) => pBrL s f (orB p q) j

def pBr (s : ByteArray) (i : Nat) : Option (Nat → Bool) × Nat := match pIn s i with
 | (none, j) => (none, j)
 | (some q, j) => pBrL s (s.size + 1) q j

def bTurn (s : ByteArray) (i : Nat) : Bool := pfx s (i + 1) [94]
def bFrom (s : ByteArray) (i : Nat) : Nat := if bTurn s i then i + 2 else i + 1

def pBracket (s : ByteArray) (t : St) : Out := match pBr s (bFrom s t.i) with
 | (none, j) => ⟨rx0, 1, ⟨j, t.n, t.g, t.d⟩⟩
 | (some p, j) =>
  let q := if bTurn s t.i then notB p else p
  if cnt q 256 = 0 then ⟨rx0, 1, t⟩ else ⟨rset q, 0, ⟨j, t.n + 1, t.g, t.d⟩⟩

def pNumL (s : ByteArray) : Nat → Nat → Bool → Nat → Nat × Bool × Nat
 | 0, n, ok, i => (n, ok, i)
 | f + 1, n, ok, i => if decide (i < s.size) && rng 48 57 (ch s i) then pNumL s f (min (10 * n + (ch s i - 48)) 21) true (i + 1) else (n, ok, i)
def pNum (s : ByteArray) (i : Nat) : Nat × Bool × Nat := pNumL s (s.size + 1) 0 false i

def timesFit (a b : Int) : Bool := if a < 0 ∨ a > 20 then false else b == -1 || (decide (max a 1 ≤ b) && decide (b ≤ 20))

/-- What closes an interval. -/
def closeB (ere : Bool) : List UInt8 := if ere then [125] else [92, 125]
/-- The greatest of an interval, and where it ends. -/
def pHigh (s : ByteArray) (lo i : Nat) : Int × Nat := if pfx s i [44] then (if (pNum s (i + 1)).2.1 then ((pNum s (i + 1)).1 : Int) else -1, (pNum s (i + 1)).2.2) else ((lo : Int), i)
def pInt (s : ByteArray) (ere : Bool) (i sz : Nat) : Option (Int × Int) × Nat :=
 let a := pNum s (i + sz)
 if a.2.1 then
  let h := pHigh s a.1 a.2.2
  if pfx s h.2 (closeB ere) then
   if timesFit a.1 h.1 then (some ((a.1 : Int), h.1), h.2 + (closeB ere).length) else (none, i)
  else (none, h.2)
 else (none, a.2.2)

def rrep (a b : Int) (r : Rx) : Rx := .mk 4 a b 0 W4.z [r]
def pRep (s : ByteArray) (ere : Bool) (r : Rx) (t : St) : Out :=
 let g := sgn s ere t.i
 if g.1 = 10 then pTake g.2.2 (rrep 0 (-1) r) t
 else if g.1 = 11 then pTake g.2.2 (rrep 1 (-1) r) t
 else if g.1 = 12 then pTake g.2.2 (rrep 0 1 r) t
 else if g.1 = 13 then match pInt s ere t.i g.2.2 with
  | (none, j) => ⟨rx0, 1, ⟨j, t.n, t.g, t.d⟩⟩
  | (some (a, b), j) => pTake 0 (rrep a b r) ⟨j, t.n, t.g, t.d⟩
 else ⟨r, 0, t⟩

def plainIn (s : ByteArray) (began i k : Nat) : Bool :=
 if k = 10 then decide (i = began) || (decide (i = began + 1) && ch s began == 94)
 else if k = 5 then !decide (i = began)
 else if k = 6 then (let x := (sgn s false (i + 1)).1; decide (x ≠ 1) && decide (x ≠ 8))
 else false
def sgnIn (s : ByteArray) (ere : Bool) (began i : Nat) : Nat × Nat × Nat :=
 let g := sgn s ere i
 if ere then g else if plainIn s began i g.1 then (2, g.2.1, g.2.2) else g

def pBack (b sz : Nat) (t : St) : Out := if b < 49 ∨ t.g + 48 < b then ⟨rx0, 1, t⟩ else pTake sz (.mk 6 0 0 ((b : Int) - 48) W4.z []) t

def pGroup (c : St → Out) (s : ByteArray) (ere : Bool) (sz : Nat) (t : St) : Out :=
 if t.d = 6 then ⟨rx0, 2, t⟩ else
 let o := c ⟨t.i + sz, t.n, t.g + 1, t.d + 1⟩
 if o.e ≠ 0 then ⟨rx0, o.e, o.st⟩ else
 let h := sgn s ere o.st.i
 if h.1 ≠ 8 then ⟨rx0, 1, o.st⟩ else pTake h.2.2 (.mk 5 0 0 ((t.g + 1 : Nat) : Int) W4.z [o.r]) ⟨o.st.i, o.st.n, o.st.g, o.st.d - 1⟩

def pOne (c : St → Out) (s : ByteArray) (ere : Bool) (k b sz : Nat) (t : St) : Out :=
 if k = 2 then pTake sz (rset (addB (fun _ => false) b)) t
 else if k = 3 then pTake sz (rset (notB (fun _ => false))) t
 else if k = 5 then pTake sz (.mk 7 0 0 0 W4.z []) t
 else if k = 6 then pTake sz (.mk 8 0 0 0 W4.z []) t
 else if k = 14 then pBack b sz t
 else if k = 4 then pBracket s t
 else if k = 7 then pGroup c s ere sz t
 else ⟨rx0, 1, t⟩

def mayRep (k : Int) : Bool := k == 1 || k == 5 || k == 6
def pPart (c : St → Out) (s : ByteArray) (ere : Bool) (began : Nat) (t : St) : Out :=
 let g := sgnIn s ere began t.i
 let o := pOne c s ere g.1 g.2.1 g.2.2 t
 if o.e ≠ 0 ∨ mayRep o.r.k = false then o else pRep s ere o.r o.st

def ends (k : Nat) : Bool := k == 1 || k == 9 || k == 8
def keepL (n : Nat) (ks : List Rx) (r : Rx) : List Rx := if n > 40 then ks else ks ++ [r]
def rowOut (ks : List Rx) (t : St) : Out := match ks with
 | [r] => ⟨r, 0, t⟩
 | _ => ⟨.mk 2 0 0 0 W4.z ks, 0, ⟨t.i, t.n + 1, t.g, t.d⟩⟩
def pRowL (c : St → Out) (s : ByteArray) (ere : Bool) (began : Nat) : Nat → List Rx → St → Out
 | 0, _, t => ⟨rx0, 1, t⟩
 | f + 1, ks, t => if ends (sgn s ere t.i).1 then rowOut ks t else
  let o := pPart c s ere began t
  if o.e ≠ 0 then ⟨rx0, o.e, o.st⟩ else pRowL c s ere began f (keepL o.st.n ks o.r) o.st
def pRow (c : St → Out) (s : ByteArray) (ere : Bool) (t : St) : Out := pRowL c s ere t.i (s.size + 1) [] t
def pChL (c : St → Out) (s : ByteArray) (ere : Bool) : Nat → List Rx → St → Out
 | 0, _, t => ⟨rx0, 1, t⟩
 | f + 1, ks, t => if (sgn s ere t.i).1 = 9 then
   let o := pRow c s ere ⟨t.i + 1, t.n, t.g, t.d⟩
   if o.e ≠ 0 then ⟨rx0, o.e, o.st⟩ else pChL c s ere f (keepL o.st.n ks o.r) o.st
  else ⟨.mk 3 0 0 0 W4.z ks, 0, ⟨t.i, t.n + 1, t.g, t.d⟩⟩
def pCh1 (c : St → Out) (s : ByteArray) (ere : Bool) (t : St) : Out :=
 let o := pRow c s ere t
 if o.e ≠ 0 ∨ (sgn s ere o.st.i).1 ≠ 9 then o else pChL c s ere (s.size + 1) [o.r] o.st
def pCh (s : ByteArray) (ere : Bool) : Nat → St → Out
 | 0, t => ⟨rx0, 1, t⟩
 | D + 1, t => pCh1 (pCh s ere D) s ere t
def pWhole (s : ByteArray) (ere : Bool) : Out :=
 let o := pCh s ere 7 ⟨0, 0, 0, 0⟩
 if o.e ≠ 0 then ⟨rx0, o.e, o.st⟩ else if o.st.i < s.size then ⟨rx0, 1, o.st⟩ else if o.st.n > 40 ∨ o.st.g > 3 then ⟨rx0, 4, o.st⟩ else o
/-- What Parse answers. -/
def pParse (s : ByteArray) (ere : Bool) : Rx × Nat × Nat :=
 let o := pWhole s ere
 if o.e ≠ 0 then (rx0, o.st.i, o.e) else (o.r, 0, 0)
end Go.Proofs.YtigdmebijbaofaaGreatDoor

/-! ### Ret -/

namespace Go.Proofs.YtigdmebijbaofaaGreatDoor
open Go.RowKit

structure Ret (w0 : World) (P : Nat) (s : ByteArray) (ere : Bool) (o : Out) (v : Value) (w' : World) : Prop where
 is : Is w' (fun b => w0.heap.size ≤ b) o.r v
 rd : Rd w' P s ere o.st.i o.st.n o.st.g o.st.d
 ks : Ks P w0 w'
theorem Ret.up {w0 w1 w2 : World} {P : Nat} {s : ByteArray} {ere : Bool} {o : Out} {v : Value} (h : Ret w1 P s ere o v w2) (k : Ks P w0 w1) : Ret w0 P s ere o v w2 :=
 ⟨h.is.weak (fun _ hb _ => Nat.le_trans k.size hb), h.rd, k.trans h.ks⟩
theorem Ret.upset {w0 w1 w2 w3 : World} {P S : Nat} {s : ByteArray} {ere : Bool} {o : Out} {v : Value} (h : Ret w1 P s ere o v w2) (k : Ks P w0 w1) (k' : Ks S w2 w3) (hP : P < w0.heap.size) (hS : w0.heap.size ≤ S) (hS' : S < w1.heap.size) : Ret w0 P s ere o v w3 :=
 ⟨(h.is.ks k' (fun _ hb _ => by omega)).weak (fun _ hb _ => Nat.le_trans k.size hb), h.rd.ks k' (by omega) (by omega), (k.trans h.ks).off k' hS hP⟩
theorem Kp.grown {w w' : World} (k : Kp w w') (row : Option Nat) : w.grownBy w' row := ⟨k.os, k.tape, k.output, k.size, fun b hb _ => k.block b hb⟩
theorem is_zero (w : World) (ok : Nat → Prop) : Is w ok rx0 rz := Is.leaf w ok 0 0 0 0 W4.z

theorem hid {p : Prop} (h : p) : Hid p := h
theorem field91 (a b c : Value) (w : World) : (Instr.field 173 (.agg #[a, b, c]) 0).run Tryz.prog w = .ok a w := by kernel_rfl
theorem take_ret (x y z : Nat) (k mn mx m : Int) (t : W4) (ad : Option Addr) (l c : Nat) (s : ByteArray) (ere : Bool) (i n g d P : Nat) (r : Rx) (w0 w : World) (h : Rd w P s ere i n g d) (hi : i ≤ 1000000000) (hz : z ≤ 100) (hn : n ≤ 1000000000)
  (hI : Is w (fun b => w0.heap.size ≤ b) r (rxv k mn mx m t (.slice ad l c))) (hk : Ks P w0 w) (hP : P < w0.heap.size) :
  Calls Tryz.prog 229 #[.pointer (some ⟨P, 0, none⟩), .agg #[.int .i64 (x : Int), .int .u8 (y : Int), .int .i64 (z : Int)], rxv k mn mx m t (.slice ad l c)] w fun e w' => e = .returned (.tuple #[rxv k mn mx m t (.slice ad l c), .int .i64 0]) ∧ Ret w0 P s ere (pTake z r ⟨i, n, g, d⟩) (rxv k mn mx m t (.slice ad l c)) w' ∧ Ks P w w' := by
 refine (take_any x y z k mn mx m t ad l c s ere i n g d P w h hi hz hn).mono ?_
 rintro e w' ⟨rfl, r', k'⟩
 exact ⟨rfl, ⟨hI.ks k' (fun _ hb _ => by omega), r', hk.trans k'⟩, k'⟩
theorem take_ret0 (x y z : Nat) (k mn mx m : Int) (ad : Option Addr) (l c : Nat) (s : ByteArray) (ere : Bool) (i n g d P : Nat) (r : Rx) (w0 w : World) (h : Rd w P s ere i n g d) (hi : i ≤ 1000000000) (hz : z ≤ 100) (hn : n ≤ 1000000000)
  (hI : Is w (fun b => w0.heap.size ≤ b) r (rxv k mn mx m W4.z (.slice ad l c))) (hk : Ks P w0 w) (hP : P < w0.heap.size) :
  Calls Tryz.prog 229 #[.pointer (some ⟨P, 0, none⟩), .agg #[.int .i64 (x : Int), .int .u8 (y : Int), .int .i64 (z : Int)], .agg #[.int .i64 k, .int .i64 mn, .int .i64 mx, .int .i64 m, .int .u64 0, .int .u64 0, .int .u64 0, .int .u64 0, .slice ad l c]] w fun e w' => e = .returned (.tuple #[.agg #[.int .i64 k, .int .i64 mn, .int .i64 mx, .int .i64 m, .int .u64 0, .int .u64 0, .int .u64 0, .int .u64 0, .slice ad l c], .int .i64 0]) ∧ Ret w0 P s ere (pTake z r ⟨i, n, g, d⟩) (rxv k mn mx m W4.z (.slice ad l c)) w' ∧ Ks P w w' :=
 take_ret x y z k mn mx m W4.z ad l c s ere i n g d P r w0 w h hi hz hn hI hk hP
theorem Ret.fail {w0 w1 w2 : World} {P S : Nat} {s : ByteArray} {ere : Bool} {e i n g d : Nat} (R : Rd w1 P s ere i n g d) (k : Ks P w0 w1) (k' : Ks S w1 w2) (hP : P < w0.heap.size) (hS : w0.heap.size ≤ S) : Ret w0 P s ere ⟨rx0, e, ⟨i, n, g, d⟩⟩ rz w2 :=
 ⟨is_zero _ _, R.ks k' (by omega) (by omega), k.off k' hS hP⟩
end Go.Proofs.YtigdmebijbaofaaGreatDoor

/-! ### RetE -/

namespace Go.Proofs.YtigdmebijbaofaaGreatDoor
open Go.RowKit

structure RetE (w0 : World) (P : Nat) (s : ByteArray) (ere : Bool) (o : Out) (e : Ending) (w' : World) : Prop where
 ex : ∃ v, e = .returned (.tuple #[v, .int .i64 (o.e : Nat)]) ∧ Ret w0 P s ere o v w'

theorem Ret.fin {w0 w2 w3 : World} {P B : Nat} {s : ByteArray} {ere : Bool} {o : Out} {v : Value} (I : Is w2 (fun b => w0.heap.size ≤ b ∧ b ≠ B) o.r v) (R : Rd w2 P s ere o.st.i o.st.n o.st.g o.st.d) (K : Ks P w0 w2) (k : Ks B w2 w3) (hP : P < w0.heap.size) (hB : w0.heap.size ≤ B) : Ret w0 P s ere o v w3 :=
 ⟨(I.ks k (fun _ hb _ => hb.2)).weak (fun _ hb _ => hb.1), R.ks k (by omega) (by omega), K.off k hB hP⟩

theorem Is.one {w : World} {ok : Nat → Prop} {r : Rx} {v : Value} {C : Nat} (h : Is w ok r v) (hc : CellsAt w C 0 v) (hok : ok C) (hl : C < w.heap.size) (k mn mx n : Int) (s : W4) : Is w ok (.mk k mn mx n s [r]) (rxv k mn mx n s (.slice (some ⟨C, 0, none⟩) 1 1)) := by
 unfold Is
 refine ⟨_, 1, 1, rfl, rfl, Nat.le_refl _, fun _ => ⟨C, 0, rfl, hok, hl, ?_⟩⟩
 unfold IsL
 exact ⟨⟨v, h, hc⟩, by unfold IsL; trivial⟩
theorem cells_new (w : World) (k mn mx m : Int) (t : W4) (ad : Option Addr) (l c : Nat) : CellsAt (w.alloc (rxo k mn mx m t (.slice ad l c))) w.heap.size 0 (rxv k mn mx m t (.slice ad l c)) := by
 intro j u hj
 rw [Nat.zero_add]
 refine bl_cell (last_of w _) j u ?_
 rw [← Array.getElem?_toList]
 exact hj

theorem qs_sz (b : Nat) (ere : Bool) : (qs b ere).2.2 ≤ 2 ∧ ((qs b ere).1 ≠ 0 → (qs b ere).2.2 = 2) := by
 unfold qs
 repeat' split
 all_goals simp
theorem sgn_sz (s : ByteArray) (ere : Bool) (i : Nat) (hi : i ≤ s.size) : i + (sgn s ere i).2.2 ≤ s.size ∧ (sgn s ere i).2.2 ≤ 2 ∧ ((sgn s ere i).1 ≠ 1 → (sgn s ere i).1 ≠ 0 → 1 ≤ (sgn s ere i).2.2) := by
 unfold sgn
 split
 ·
  exact ⟨by simpa using hi, by simp, by simp⟩
 ·
  split
  ·
   unfold quoted
   split
   ·
    exact ⟨by simpa using hi, by simp, by simp⟩
   ·
    rename_i h0
    rw [ext_size s (i + 1) (by omega)] at h0
    have := qs_sz (ch (s.extract (i + 1) s.size) 0) ere
    exact ⟨by omega, this.1, fun _ h => by rw [this.2 h]; omega⟩
  ·
   exact ⟨by simp; omega, by simp, by simp⟩

theorem take_any0 (x y z : Nat) (k mn mx m : Int) (ad : Option Addr) (l c : Nat) (s : ByteArray) (ere : Bool) (i n g d P : Nat) (w : World) (h : Rd w P s ere i n g d) (hi : i ≤ 1000000000) (hz : z ≤ 100) (hn : n ≤ 1000000000) :
  Calls Tryz.prog 229 #[.pointer (some ⟨P, 0, none⟩), .agg #[.int .i64 (x : Int), .int .u8 (y : Int), .int .i64 (z : Int)], .agg #[.int .i64 k, .int .i64 mn, .int .i64 mx, .int .i64 m, .int .u64 0, .int .u64 0, .int .u64 0, .int .u64 0, .slice ad l c]] w fun e w' => e = .returned (.tuple #[.agg #[.int .i64 k, .int .i64 mn, .int .i64 mx, .int .i64 m, .int .u64 0, .int .u64 0, .int .u64 0, .int .u64 0, .slice ad l c], .int .i64 0]) ∧ Rd w' P s ere (i + z) (n + 1) g d ∧ Ks P w w' :=
 take_any x y z k mn mx m W4.z ad l c s ere i n g d P w h hi hz hn
end Go.Proofs.YtigdmebijbaofaaGreatDoor
