/-
  Texts of this claim: Names, Pf, Ret, Keep, Text1, Row2, Row3, Text2, RetE, Same, Chk, Lean2, Right1, Right2, Right3, Right4.
-/
import Derived.Test.YtikmgckefbjbkaaGreatDoorM1
import Derived.OwnWalk
import Derived.Laws.IdiomStrings
import Derived.Lib.BufferRead
import Derived.Deep.LoopGhost

/-! ### Names -/

namespace Go.Proofs.YtikmgckefbjbkaaGreatDoor
open Go.RowKit

set_option maxRecDepth 100000 in
theorem class_alpha (w : World) : Calls Tryz.prog 115 #[.string ⟨#[97, 108, 112, 104, 97]⟩] w fun e w' => e = .returned (.tuple #[sv cAlpha, .bool true]) ∧ Kp w w' := by
 go_enter Tryz.func115, Tryz.ntmps115
 go_wp2_with fail
 refine (alpha_any _).mono ?_
 rintro e w1 ⟨rfl, k⟩
 have K1 : Hid (Kp (w.alloc zero4) w1) := (((Kp.refl _))).trans k
 clear k
 have z := K1.out.at (At.zero w)
 obtain ⟨d0, d1, d2, d3⟩ := z.cells
 have f0 := z.frozen 0; have f1 := z.frozen 1; have f2 := z.frozen 2; have f3 := z.frozen 3
 have Z : Hid (At w1 w.heap.size (fun _ => false)) := z
 clear z
 go_wp2
 refine bodyPost_ret (v := .tuple #[sv cAlpha, .bool true]) (ret2_at Tryz.results115 _ _ w.heap.size _ rfl (Z.out.set4 cAlpha)) rfl ⟨rfl, ?_⟩
 exact set4_kp (Nat.le_refl _) (((Kp.refl _).alloc _).trans K1.out) _ _ _ _

set_option maxRecDepth 100000 in
theorem class_digit (w : World) : Calls Tryz.prog 115 #[.string ⟨#[100, 105, 103, 105, 116]⟩] w fun e w' => e = .returned (.tuple #[sv cDigit, .bool true]) ∧ Kp w w' := by
 go_enter Tryz.func115, Tryz.ntmps115
 go_wp2_with fail
 refine (digit_any _).mono ?_
 rintro e w1 ⟨rfl, k⟩
 have K1 : Hid (Kp (w.alloc zero4) w1) := (((Kp.refl _))).trans k
 clear k
 have z := K1.out.at (At.zero w)
 obtain ⟨d0, d1, d2, d3⟩ := z.cells
 have f0 := z.frozen 0; have f1 := z.frozen 1; have f2 := z.frozen 2; have f3 := z.frozen 3
 have Z : Hid (At w1 w.heap.size (fun _ => false)) := z
 clear z
 go_wp2
 refine bodyPost_ret (v := .tuple #[sv cDigit, .bool true]) (ret2_at Tryz.results115 _ _ w.heap.size _ rfl (Z.out.set4 cDigit)) rfl ⟨rfl, ?_⟩
 exact set4_kp (Nat.le_refl _) (((Kp.refl _).alloc _).trans K1.out) _ _ _ _

set_option maxRecDepth 100000 in
theorem class_alnum (w : World) : Calls Tryz.prog 115 #[.string ⟨#[97, 108, 110, 117, 109]⟩] w fun e w' => e = .returned (.tuple #[sv cAlnum, .bool true]) ∧ Kp w w' := by
 go_enter Tryz.func115, Tryz.ntmps115
 go_wp2_with fail
 refine (alnum_any _).mono ?_
 rintro e w1 ⟨rfl, k⟩
 have K1 : Hid (Kp (w.alloc zero4) w1) := (((Kp.refl _))).trans k
 clear k
 have z := K1.out.at (At.zero w)
 obtain ⟨d0, d1, d2, d3⟩ := z.cells
 have f0 := z.frozen 0; have f1 := z.frozen 1; have f2 := z.frozen 2; have f3 := z.frozen 3
 have Z : Hid (At w1 w.heap.size (fun _ => false)) := z
 clear z
 go_wp2
 refine bodyPost_ret (v := .tuple #[sv cAlnum, .bool true]) (ret2_at Tryz.results115 _ _ w.heap.size _ rfl (Z.out.set4 cAlnum)) rfl ⟨rfl, ?_⟩
 exact set4_kp (Nat.le_refl _) (((Kp.refl _).alloc _).trans K1.out) _ _ _ _

set_option maxRecDepth 100000 in
theorem class_upper (w : World) : Calls Tryz.prog 115 #[.string ⟨#[117, 112, 112, 101, 114]⟩] w fun e w' => e = .returned (.tuple #[sv cUpper, .bool true]) ∧ Kp w w' := by
 go_enter Tryz.func115, Tryz.ntmps115
 go_wp2_with fail
 refine (range_any 65 90 _ (by omega) (by omega)).mono ?_
 rintro e w1 ⟨rfl, k⟩
 have K1 : Hid (Kp (w.alloc zero4) w1) := (((Kp.refl _))).trans k
 clear k
 have z := K1.out.at (At.zero w)
 obtain ⟨d0, d1, d2, d3⟩ := z.cells
 have f0 := z.frozen 0; have f1 := z.frozen 1; have f2 := z.frozen 2; have f3 := z.frozen 3
 have Z : Hid (At w1 w.heap.size (fun _ => false)) := z
 clear z
 go_wp2
 refine bodyPost_ret (v := .tuple #[sv cUpper, .bool true]) (ret2_at Tryz.results115 _ _ w.heap.size _ rfl (Z.out.set4 cUpper)) rfl ⟨rfl, ?_⟩
 exact set4_kp (Nat.le_refl _) (((Kp.refl _).alloc _).trans K1.out) _ _ _ _

set_option maxRecDepth 100000 in
theorem class_lower (w : World) : Calls Tryz.prog 115 #[.string ⟨#[108, 111, 119, 101, 114]⟩] w fun e w' => e = .returned (.tuple #[sv cLower, .bool true]) ∧ Kp w w' := by
 go_enter Tryz.func115, Tryz.ntmps115
 go_wp2_with fail
 refine (range_any 97 122 _ (by omega) (by omega)).mono ?_
 rintro e w1 ⟨rfl, k⟩
 have K1 : Hid (Kp (w.alloc zero4) w1) := (((Kp.refl _))).trans k
 clear k
 have z := K1.out.at (At.zero w)
 obtain ⟨d0, d1, d2, d3⟩ := z.cells
 have f0 := z.frozen 0; have f1 := z.frozen 1; have f2 := z.frozen 2; have f3 := z.frozen 3
 have Z : Hid (At w1 w.heap.size (fun _ => false)) := z
 clear z
 go_wp2
 refine bodyPost_ret (v := .tuple #[sv cLower, .bool true]) (ret2_at Tryz.results115 _ _ w.heap.size _ rfl (Z.out.set4 cLower)) rfl ⟨rfl, ?_⟩
 exact set4_kp (Nat.le_refl _) (((Kp.refl _).alloc _).trans K1.out) _ _ _ _

set_option maxRecDepth 100000 in
theorem class_space (w : World) : Calls Tryz.prog 115 #[.string ⟨#[115, 112, 97, 99, 101]⟩] w fun e w' => e = .returned (.tuple #[sv cSpace, .bool true]) ∧ Kp w w' := by
 go_enter Tryz.func115, Tryz.ntmps115
 go_wp2_with fail
 refine (of_one 32 _ _ (by simp) (by omega)).mono ?_
 rintro e w1 ⟨rfl, k⟩
 have K1 : Hid (Kp (w.alloc zero4) w1) := (((Kp.refl _))).trans k
 clear k
 go_wp2_with fail
 refine (range_any 9 13 _ (by omega) (by omega)).mono ?_
 rintro e w2 ⟨rfl, k⟩
 have K2 : Hid (Kp (w.alloc zero4) w2) := ((K1.out)).trans k
 clear k
 go_wp2_with fail
 refine (join2 (addB (fun _ => false) 32) (rng 9 13) _ _ (by simp) (last_of _ _)).mono ?_
 rintro e w3 ⟨rfl, k⟩
 have K3 : Hid (Kp (w.alloc zero4) w3) := ((K2.out).alloc _).trans k
 clear k
 have z := K3.out.at (At.zero w)
 obtain ⟨d0, d1, d2, d3⟩ := z.cells
 have f0 := z.frozen 0; have f1 := z.frozen 1; have f2 := z.frozen 2; have f3 := z.frozen 3
 have Z : Hid (At w3 w.heap.size (fun _ => false)) := z
 clear z
 go_wp2
 refine bodyPost_ret (v := .tuple #[sv cSpace, .bool true]) (ret2_at Tryz.results115 _ _ w.heap.size _ rfl (Z.out.set4 cSpace)) rfl ⟨rfl, ?_⟩
 exact set4_kp (Nat.le_refl _) (((Kp.refl _).alloc _).trans K3.out) _ _ _ _

set_option maxRecDepth 100000 in
theorem class_blank (w : World) : Calls Tryz.prog 115 #[.string ⟨#[98, 108, 97, 110, 107]⟩] w fun e w' => e = .returned (.tuple #[sv cBlank, .bool true]) ∧ Kp w w' := by
 go_enter Tryz.func115, Tryz.ntmps115
 go_wp2_with fail
 refine (of_two 32 9 _ _ (by simp) (by omega) (by omega)).mono ?_
 rintro e w1 ⟨rfl, k⟩
 have K1 : Hid (Kp (w.alloc zero4) w1) := (((Kp.refl _))).trans k
 clear k
 have z := K1.out.at (At.zero w)
 obtain ⟨d0, d1, d2, d3⟩ := z.cells
 have f0 := z.frozen 0; have f1 := z.frozen 1; have f2 := z.frozen 2; have f3 := z.frozen 3
 have Z : Hid (At w1 w.heap.size (fun _ => false)) := z
 clear z
 go_wp2
 refine bodyPost_ret (v := .tuple #[sv cBlank, .bool true]) (ret2_at Tryz.results115 _ _ w.heap.size _ rfl (Z.out.set4 cBlank)) rfl ⟨rfl, ?_⟩
 exact set4_kp (Nat.le_refl _) (((Kp.refl _).alloc _).trans K1.out) _ _ _ _

set_option maxRecDepth 100000 in
theorem class_punct (w : World) : Calls Tryz.prog 115 #[.string ⟨#[112, 117, 110, 99, 116]⟩] w fun e w' => e = .returned (.tuple #[sv cPunct, .bool true]) ∧ Kp w w' := by
 go_enter Tryz.func115, Tryz.ntmps115
 go_wp2_with fail
 refine (graph_any _).mono ?_
 rintro e w1 ⟨rfl, k⟩
 have K1 : Hid (Kp (w.alloc zero4) w1) := (((Kp.refl _))).trans k
 clear k
 go_wp2_with fail
 refine (alnum_any _).mono ?_
 rintro e w2 ⟨rfl, k⟩
 have K2 : Hid (Kp (w.alloc zero4) w2) := ((K1.out)).trans k
 clear k
 go_wp2_with fail
 refine (without_any _ _ _).mono ?_
 rintro e w3 ⟨rfl, k⟩
 have K3 : Hid (Kp (w.alloc zero4) w3) := ((K2.out)).trans k
 clear k
 have z := K3.out.at (At.zero w)
 obtain ⟨d0, d1, d2, d3⟩ := z.cells
 have f0 := z.frozen 0; have f1 := z.frozen 1; have f2 := z.frozen 2; have f3 := z.frozen 3
 have Z : Hid (At w3 w.heap.size (fun _ => false)) := z
 clear z
 go_wp2
 refine bodyPost_ret (v := .tuple #[sv cPunct, .bool true]) (ret2_at Tryz.results115 _ _ w.heap.size _ rfl (Z.out.set4 cPunct)) rfl ⟨rfl, ?_⟩
 exact set4_kp (Nat.le_refl _) (((Kp.refl _).alloc _).trans K3.out) _ _ _ _

set_option maxRecDepth 100000 in
theorem class_print (w : World) : Calls Tryz.prog 115 #[.string ⟨#[112, 114, 105, 110, 116]⟩] w fun e w' => e = .returned (.tuple #[sv cPrint, .bool true]) ∧ Kp w w' := by
 go_enter Tryz.func115, Tryz.ntmps115
 go_wp2_with fail
 refine (of_one 32 _ _ (by simp) (by omega)).mono ?_
 rintro e w1 ⟨rfl, k⟩
 have K1 : Hid (Kp (w.alloc zero4) w1) := (((Kp.refl _))).trans k
 clear k
 go_wp2_with fail
 refine (graph_any _).mono ?_
 rintro e w2 ⟨rfl, k⟩
 have K2 : Hid (Kp (w.alloc zero4) w2) := ((K1.out)).trans k
 clear k
 go_wp2_with fail
 refine (join2 (addB (fun _ => false) 32) cGraph _ _ (by simp) (last_of _ _)).mono ?_
 rintro e w3 ⟨rfl, k⟩
 have K3 : Hid (Kp (w.alloc zero4) w3) := ((K2.out).alloc _).trans k
 clear k
 have z := K3.out.at (At.zero w)
 obtain ⟨d0, d1, d2, d3⟩ := z.cells
 have f0 := z.frozen 0; have f1 := z.frozen 1; have f2 := z.frozen 2; have f3 := z.frozen 3
 have Z : Hid (At w3 w.heap.size (fun _ => false)) := z
 clear z
 go_wp2
 refine bodyPost_ret (v := .tuple #[sv cPrint, .bool true]) (ret2_at Tryz.results115 _ _ w.heap.size _ rfl (Z.out.set4 cPrint)) rfl ⟨rfl, ?_⟩
 exact set4_kp (Nat.le_refl _) (((Kp.refl _).alloc _).trans K3.out) _ _ _ _

set_option maxRecDepth 100000 in
theorem class_graph (w : World) : Calls Tryz.prog 115 #[.string ⟨#[103, 114, 97, 112, 104]⟩] w fun e w' => e = .returned (.tuple #[sv cGraph, .bool true]) ∧ Kp w w' := by
 go_enter Tryz.func115, Tryz.ntmps115
 go_wp2_with fail
 refine (graph_any _).mono ?_
 rintro e w1 ⟨rfl, k⟩
 have K1 : Hid (Kp (w.alloc zero4) w1) := (((Kp.refl _))).trans k
 clear k
 have z := K1.out.at (At.zero w)
 obtain ⟨d0, d1, d2, d3⟩ := z.cells
 have f0 := z.frozen 0; have f1 := z.frozen 1; have f2 := z.frozen 2; have f3 := z.frozen 3
 have Z : Hid (At w1 w.heap.size (fun _ => false)) := z
 clear z
 go_wp2
 refine bodyPost_ret (v := .tuple #[sv cGraph, .bool true]) (ret2_at Tryz.results115 _ _ w.heap.size _ rfl (Z.out.set4 cGraph)) rfl ⟨rfl, ?_⟩
 exact set4_kp (Nat.le_refl _) (((Kp.refl _).alloc _).trans K1.out) _ _ _ _

set_option maxRecDepth 100000 in
theorem class_cntrl (w : World) : Calls Tryz.prog 115 #[.string ⟨#[99, 110, 116, 114, 108]⟩] w fun e w' => e = .returned (.tuple #[sv cCntrl, .bool true]) ∧ Kp w w' := by
 go_enter Tryz.func115, Tryz.ntmps115
 go_wp2_with fail
 refine (range_any 0 31 _ (by omega) (by omega)).mono ?_
 rintro e w1 ⟨rfl, k⟩
 have K1 : Hid (Kp (w.alloc zero4) w1) := (((Kp.refl _))).trans k
 clear k
 go_wp2_with fail
 refine (of_one 127 _ _ (by simp) (by omega)).mono ?_
 rintro e w2 ⟨rfl, k⟩
 have K2 : Hid (Kp (w.alloc zero4) w2) := ((K1.out)).trans k
 clear k
 go_wp2_with fail
 refine (join2 (rng 0 31) (addB (fun _ => false) 127) _ _ (by simp) (last_of _ _)).mono ?_
 rintro e w3 ⟨rfl, k⟩
 have K3 : Hid (Kp (w.alloc zero4) w3) := ((K2.out).alloc _).trans k
 clear k
 have z := K3.out.at (At.zero w)
 obtain ⟨d0, d1, d2, d3⟩ := z.cells
 have f0 := z.frozen 0; have f1 := z.frozen 1; have f2 := z.frozen 2; have f3 := z.frozen 3
 have Z : Hid (At w3 w.heap.size (fun _ => false)) := z
 clear z
 go_wp2
 refine bodyPost_ret (v := .tuple #[sv cCntrl, .bool true]) (ret2_at Tryz.results115 _ _ w.heap.size _ rfl (Z.out.set4 cCntrl)) rfl ⟨rfl, ?_⟩
 exact set4_kp (Nat.le_refl _) (((Kp.refl _).alloc _).trans K3.out) _ _ _ _

set_option maxRecDepth 100000 in
theorem class_xdigit (w : World) : Calls Tryz.prog 115 #[.string ⟨#[120, 100, 105, 103, 105, 116]⟩] w fun e w' => e = .returned (.tuple #[sv cXdigit, .bool true]) ∧ Kp w w' := by
 go_enter Tryz.func115, Tryz.ntmps115
 go_wp2_with fail
 refine (digit_any _).mono ?_
 rintro e w1 ⟨rfl, k⟩
 have K1 : Hid (Kp (w.alloc zero4) w1) := (((Kp.refl _))).trans k
 clear k
 go_wp2_with fail
 refine (range_any 65 70 _ (by omega) (by omega)).mono ?_
 rintro e w2 ⟨rfl, k⟩
 have K2 : Hid (Kp (w.alloc zero4) w2) := ((K1.out)).trans k
 clear k
 go_wp2_with fail
 refine (range_any 97 102 _ (by omega) (by omega)).mono ?_
 rintro e w3 ⟨rfl, k⟩
 have K3 : Hid (Kp (w.alloc zero4) w3) := ((K2.out)).trans k
 clear k
 go_wp2_with fail
 refine (join3 cDigit (rng 65 70) (rng 97 102) _ _ (by simp) (last_of _ _)).mono ?_
 rintro e w4 ⟨rfl, k⟩
 have K4 : Hid (Kp (w.alloc zero4) w4) := ((K3.out).alloc _).trans k
 clear k
 have z := K4.out.at (At.zero w)
 obtain ⟨d0, d1, d2, d3⟩ := z.cells
 have f0 := z.frozen 0; have f1 := z.frozen 1; have f2 := z.frozen 2; have f3 := z.frozen 3
 have Z : Hid (At w4 w.heap.size (fun _ => false)) := z
 clear z
 go_wp2
 refine bodyPost_ret (v := .tuple #[sv cXdigit, .bool true]) (ret2_at Tryz.results115 _ _ w.heap.size _ rfl (Z.out.set4 cXdigit)) rfl ⟨rfl, ?_⟩
 exact set4_kp (Nat.le_refl _) (((Kp.refl _).alloc _).trans K4.out) _ _ _ _

/-- The twelve names. -/
def named (s : ByteArray) : Prop := s.toList = [97, 108, 112, 104, 97] ∨ s.toList = [100, 105, 103, 105, 116] ∨ s.toList = [97, 108, 110, 117, 109] ∨ s.toList = [117, 112, 112, 101, 114] ∨ s.toList = [108, 111, 119, 101, 114] ∨ s.toList = [115, 112, 97, 99, 101] ∨ s.toList = [98, 108, 97, 110, 107] ∨ s.toList = [112, 117, 110, 99, 116] ∨ s.toList = [112, 114, 105, 110, 116] ∨ s.toList = [103, 114, 97, 112, 104] ∨ s.toList = [99, 110, 116, 114, 108] ∨ s.toList = [120, 100, 105, 103, 105, 116]

set_option maxRecDepth 100000 in
theorem class_other (s : ByteArray) (h : ¬ named s) (w : World) : Calls Tryz.prog 115 #[.string s] w fun e w' => e = .returned (.tuple #[sv (fun _ => false), .bool false]) ∧ Kp w w' := by
 unfold named at h
 simp only [not_or] at h
 obtain ⟨h0, h1, h2, h3, h4, h5, h6, h7, h8, h9, h10, h11⟩ := h
 have q0 : (s.toList == [97, 108, 112, 104, 97]) = false := by simpa using h0
 have q1 : (s.toList == [100, 105, 103, 105, 116]) = false := by simpa using h1
 have q2 : (s.toList == [97, 108, 110, 117, 109]) = false := by simpa using h2
 have q3 : (s.toList == [117, 112, 112, 101, 114]) = false := by simpa using h3
 have q4 : (s.toList == [108, 111, 119, 101, 114]) = false := by simpa using h4
 have q5 : (s.toList == [115, 112, 97, 99, 101]) = false := by simpa using h5
 have q6 : (s.toList == [98, 108, 97, 110, 107]) = false := by simpa using h6
 have q7 : (s.toList == [112, 117, 110, 99, 116]) = false := by simpa using h7
 have q8 : (s.toList == [112, 114, 105, 110, 116]) = false := by simpa using h8
 have q9 : (s.toList == [103, 114, 97, 112, 104]) = false := by simpa using h9
 have q10 : (s.toList == [99, 110, 116, 114, 108]) = false := by simpa using h10
 have q11 : (s.toList == [120, 100, 105, 103, 105, 116]) = false := by simpa using h11
 clear h0 h1 h2 h3 h4 h5 h6 h7 h8 h9 h10 h11
 go_enter Tryz.func115, Tryz.ntmps115
 go_wp2
 exact bodyPost_ret (v := .tuple #[sv (fun _ => false), .bool false]) (ret2_at Tryz.results115 _ _ w.heap.size _ rfl (At.zero w)) rfl ⟨rfl, (Kp.refl _).alloc _⟩

end Go.Proofs.YtikmgckefbjbkaaGreatDoor

/-! ### Pf -/

namespace Go.Proofs.YtikmgckefbjbkaaGreatDoor
open Go.RowKit

/-- Where the reader stands: the place, the nodes, the groups that have begun, those that are open. -/
structure St where
 i : Nat
 n : Nat
 g : Nat
 d : Nat
structure Out where
 r : Rx
 e : Nat
 st : St

def W4.z : W4 := ⟨0, 0, 0, 0⟩
def rx0 : Rx := .mk 0 0 0 0 W4.z []
def Rx.k : Rx → Int | .mk k _ _ _ _ _ => k
def rset (p : Nat → Bool) : Rx := .mk 1 0 0 0 (W4.of p) []

def pTake (sz : Nat) (r : Rx) (t : St) : Out := ⟨r, 0, ⟨t.i + sz, t.n + 1, t.g, t.d⟩⟩

/-- The named classes. -/
def cls (l : List UInt8) : Option (Nat → Bool) :=
 if l = [97, 108, 112, 104, 97] then some cAlpha else if l = [100, 105, 103, 105, 116] then some cDigit else if l = [97, 108, 110, 117, 109] then some cAlnum
 else if l = [117, 112, 112, 101, 114] then some cUpper else if l = [108, 111, 119, 101, 114] then some cLower else if l = [115, 112, 97, 99, 101] then some cSpace
 else if l = [98, 108, 97, 110, 107] then some cBlank else if l = [112, 117, 110, 99, 116] then some cPunct else if l = [112, 114, 105, 110, 116] then some cPrint
 else if l = [103, 114, 97, 112, 104] then some cGraph else if l = [99, 110, 116, 114, 108] then some cCntrl else if l = [120, 100, 105, 103, 105, 116] then some cXdigit else none

def pClass (s : ByteArray) (i : Nat) : Option (Nat → Bool) × Nat :=
 let c := Lib.cut (s.data.toList.drop (i + 2)) [58, 93]
 if c.2.2 then match cls c.1 with
  | some q => (some q, s.size - c.2.1.length)
  | none => (none, i)
 else (none, i)

def pIn (s : ByteArray) (i : Nat) : Option (Nat → Bool) × Nat :=
 if i = s.size then (none, i)
 else if pfx s i [91, 58] then pClass s i
 else if dash s (i + 1) then
  if pfx s (i + 2) [91, 58] || decide (ch s (i + 2) < ch s i) then (none, i + 2) else (some (rng (ch s i) (ch s (i + 2))), i + 3)
 else (some (addB (fun _ => false) (ch s i)), i + 1)

def pBrL (s : ByteArray) : Nat → (Nat → Bool) → Nat → Option (Nat → Bool) × Nat
 | 0, _, i => (none, i)
 | f + 1, p, i => if pfx s i [93] then (some p, i + 1) else match pIn s i with
  | (none, j) => (none, j)
  | (some q, j) => pBrL s f (orB p q) j

def pBr (s : ByteArray) (i : Nat) : Option (Nat → Bool) × Nat := match pIn s i with
 | (none, j) => (none, j)
 | (some q, j) => pBrL s (s.size + 1) q j

def bTurn (s : ByteArray) (i : Nat) : Bool := pfx s (i + 1) [94]
def bFrom (s : ByteArray) (i : Nat) : Nat := if bTurn s i then i + 2 else i + 1

def pBracket (s : ByteArray) (t : St) : Out := match pBr s (bFrom s t.i) with
 | (none, j) => ⟨rx0, 1, ⟨j, t.n, t.g, t.d⟩⟩
 | (some p, j) =>
  let q := if bTurn s t.i then notB p else p
  if cnt q 256 = 0 then ⟨rx0, 1, t⟩ else ⟨rset q, 0, ⟨j, t.n + 1, t.g, t.d⟩⟩

def pNumL (s : ByteArray) : Nat → Nat → Bool → Nat → Nat × Bool × Nat
 | 0, n, ok, i => (n, ok, i)
 | f + 1, n, ok, i => if decide (i < s.size) && rng 48 57 (ch s i) then pNumL s f (min (10 * n + (ch s i - 48)) 21) true (i + 1) else (n, ok, i)
def pNum (s : ByteArray) (i : Nat) : Nat × Bool × Nat := pNumL s (s.size + 1) 0 false i

def timesFit (a b : Int) : Bool := if a < 0 ∨ a > 20 then false else b == -1 || (decide (max a 1 ≤ b) && decide (b ≤ 20))

/-- What closes an interval. -/
def closeB (ere : Bool) : List UInt8 := if ere then [125] else [92, 125]
/-- The greatest of an interval, and where it ends. -/
def pHigh (s : ByteArray) (lo i : Nat) : Int × Nat := if pfx s i [44] then (if (pNum s (i + 1)).2.1 then ((pNum s (i + 1)).1 : Int) else -1, (pNum s (i + 1)).2.2) else ((lo : Int), i)
def pInt (s : ByteArray) (ere : Bool) (i sz : Nat) : Option (Int × Int) × Nat :=
 let a := pNum s (i + sz)
 if a.2.1 then
  let h := pHigh s a.1 a.2.2
  if pfx s h.2 (closeB ere) then
   if timesFit a.1 h.1 then (some ((a.1 : Int), h.1), h.2 + (closeB ere).length) else (none, i)
  else (none, h.2)
 else (none, a.2.2)

def rrep (a b : Int) (r : Rx) : Rx := .mk 4 a b 0 W4.z [r]
def pRep (s : ByteArray) (ere : Bool) (r : Rx) (t : St) : Out :=
 let g := sgn s ere t.i
 if g.1 = 10 then pTake g.2.2 (rrep 0 (-1) r) t
 else if g.1 = 11 then pTake g.2.2 (rrep 1 (-1) r) t
 else if g.1 = 12 then pTake g.2.2 (rrep 0 1 r) t
 else if g.1 = 13 then match pInt s ere t.i g.2.2 with
  | (none, j) => ⟨rx0, 1, ⟨j, t.n, t.g, t.d⟩⟩
  | (some (a, b), j) => pTake 0 (rrep a b r) ⟨j, t.n, t.g, t.d⟩
 else ⟨r, 0, t⟩

def plainIn (s : ByteArray) (began i k : Nat) : Bool :=
 if k = 10 then decide (i = began) || (decide (i = began + 1) && ch s began == 94)
 else if k = 5 then !decide (i = began)
 else if k = 6 then (let x := (sgn s false (i + 1)).1; decide (x ≠ 1) && decide (x ≠ 8))
 else false
def sgnIn (s : ByteArray) (ere : Bool) (began i : Nat) : Nat × Nat × Nat :=
 let g := sgn s ere i
 if ere then g else if plainIn s began i g.1 then (2, g.2.1, g.2.2) else g

def pBack (b sz : Nat) (t : St) : Out := if b < 49 ∨ t.g + 48 < b then ⟨rx0, 1, t⟩ else pTake sz (.mk 6 0 0 ((b : Int) - 48) W4.z []) t

def pGroup (c : St → Out) (s : ByteArray) (ere : Bool) (sz : Nat) (t : St) : Out :=
 if t.d = 6 then ⟨rx0, 2, t⟩ else
 let o := c ⟨t.i + sz, t.n, t.g + 1, t.d + 1⟩
 if o.e ≠ 0 then ⟨rx0, o.e, o.st⟩ else
 let h := sgn s ere o.st.i
 if h.1 ≠ 8 then ⟨rx0, 1, o.st⟩ else pTake h.2.2 (.mk 5 0 0 ((t.g + 1 : Nat) : Int) W4.z [o.r]) ⟨o.st.i, o.st.n, o.st.g, o.st.d - 1⟩

def pOne (c : St → Out) (s : ByteArray) (ere : Bool) (k b sz : Nat) (t : St) : Out :=
 if k = 2 then pTake sz (rset (addB (fun _ => false) b)) t
 else if k = 3 then pTake sz (rset (notB (fun _ => false))) t
 else if k = 5 then pTake sz (.mk 7 0 0 0 W4.z []) t
 else if k = 6 then pTake sz (.mk 8 0 0 0 W4.z []) t
 else if k = 14 then pBack b sz t
 else if k = 4 then pBracket s t
 else if k = 7 then pGroup c s ere sz t
 else ⟨rx0, 1, t⟩

def mayRep (k : Int) : Bool := k == 1 || k == 5 || k == 6
def pPart (c : St → Out) (s : ByteArray) (ere : Bool) (began : Nat) (t : St) : Out :=
 let g := sgnIn s ere began t.i
 let o := pOne c s ere g.1 g.2.1 g.2.2 t
 if o.e ≠ 0 ∨ mayRep o.r.k = false then o else pRep s ere o.r o.st

def ends (k : Nat) : Bool := k == 1 || k == 9 || k == 8
def keepL (n : Nat) (ks : List Rx) (r : Rx) : List Rx := if n > 40 then ks else ks ++ [r]
def rowOut (ks : List Rx) (t : St) : Out := match ks with
 | [r] => ⟨r, 0, t⟩
 | _ => ⟨.mk 2 0 0 0 W4.z ks, 0, ⟨t.i, t.n + 1, t.g, t.d⟩⟩
def pRowL (c : St → Out) (s : ByteArray) (ere : Bool) (began : Nat) : Nat → List Rx → St → Out
 | 0, _, t => ⟨rx0, 1, t⟩
 | f + 1, ks, t => if ends (sgn s ere t.i).1 then rowOut ks t else
  let o := pPart c s ere began t
  if o.e ≠ 0 then ⟨rx0, o.e, o.st⟩ else pRowL c s ere began f (keepL o.st.n ks o.r) o.st
def pRow (c : St → Out) (s : ByteArray) (ere : Bool) (t : St) : Out := pRowL c s ere t.i (s.size + 1) [] t
def pChL (c : St → Out) (s : ByteArray) (ere : Bool) : Nat → List Rx → St → Out
 | 0, _, t => ⟨rx0, 1, t⟩
 | f + 1, ks, t => if (sgn s ere t.i).1 = 9 then
   let o := pRow c s ere ⟨t.i + 1, t.n, t.g, t.d⟩
   if o.e ≠ 0 then ⟨rx0, o.e, o.st⟩ else pChL c s ere f (keepL o.st.n ks o.r) o.st
  else ⟨.mk 3 0 0 0 W4.z ks, 0, ⟨t.i, t.n + 1, t.g, t.d⟩⟩
def pCh1 (c : St → Out) (s : ByteArray) (ere : Bool) (t : St) : Out :=
 let o := pRow c s ere t
 if o.e ≠ 0 ∨ (sgn s ere o.st.i).1 ≠ 9 then o else pChL c s ere (s.size + 1) [o.r] o.st
def pCh (s : ByteArray) (ere : Bool) : Nat → St → Out
 | 0, t => ⟨rx0, 1, t⟩
 | D + 1, t => pCh1 (pCh s ere D) s ere t
def pWhole (s : ByteArray) (ere : Bool) : Out :=
 let o := pCh s ere 7 ⟨0, 0, 0, 0⟩
 if o.e ≠ 0 then ⟨rx0, o.e, o.st⟩ else if o.st.i < s.size then ⟨rx0, 1, o.st⟩ else if o.st.n > 40 ∨ o.st.g > 3 then ⟨rx0, 4, o.st⟩ else o
/-- What Parse answers. -/
def pParse (s : ByteArray) (ere : Bool) : Rx × Nat × Nat :=
 let o := pWhole s ere
 if o.e ≠ 0 then (rx0, o.st.i, o.e) else (o.r, 0, 0)
end Go.Proofs.YtikmgckefbjbkaaGreatDoor

/-! ### Ret -/

namespace Go.Proofs.YtikmgckefbjbkaaGreatDoor
open Go.RowKit

structure Ret (w0 : World) (P : Nat) (s : ByteArray) (ere : Bool) (o : Out) (v : Value) (w' : World) : Prop where
 is : Is w' (fun b => w0.heap.size ≤ b) o.r v
 rd : Rd w' P s ere o.st.i o.st.n o.st.g o.st.d
 ks : Ks P w0 w'
/-- What was handed back by a call within. -/
theorem Ret.up {w0 w1 w2 : World} {P : Nat} {s : ByteArray} {ere : Bool} {o : Out} {v : Value} (h : Ret w1 P s ere o v w2) (k : Ks P w0 w1) : Ret w0 P s ere o v w2 :=
 ⟨h.is.weak (fun _ hb _ => Nat.le_trans k.size hb), h.rd, k.trans h.ks⟩
/-- As the last: then a block that was there before the call within is written. -/
theorem Ret.upset {w0 w1 w2 w3 : World} {P S : Nat} {s : ByteArray} {ere : Bool} {o : Out} {v : Value} (h : Ret w1 P s ere o v w2) (k : Ks P w0 w1) (k' : Ks S w2 w3) (hP : P < w0.heap.size) (hS : w0.heap.size ≤ S) (hS' : S < w1.heap.size) : Ret w0 P s ere o v w3 :=
 ⟨(h.is.ks k' (fun _ hb _ => by omega)).weak (fun _ hb _ => Nat.le_trans k.size hb), h.rd.ks k' (by omega) (by omega), (k.trans h.ks).off k' hS hP⟩
theorem Kp.grown {w w' : World} (k : Kp w w') (row : Option Nat) : w.grownBy w' row := ⟨k.os, k.tape, k.output, k.size, fun b hb _ => k.block b hb⟩
theorem wd_ff (i : Nat) : wd (fun _ => false) i = 0 := wd_none i
theorem W4.of_none : W4.of (fun _ => false) = W4.z := by unfold W4.of W4.z; simp only [wd_none]
abbrev rzv : Value := rz
theorem is_zero (w : World) (ok : Nat → Prop) : Is w ok rx0 rz := Is.leaf w ok 0 0 0 0 W4.z

theorem hid {p : Prop} (h : p) : Hid p := h
theorem field91 (a b c : Value) (w : World) : (Instr.field 91 (.agg #[a, b, c]) 0).run Tryz.prog w = .ok a w := by kernel_rfl
/-- take, of a tree. -/
theorem take_ret (x y z : Nat) (k mn mx m : Int) (t : W4) (ad : Option Addr) (l c : Nat) (s : ByteArray) (ere : Bool) (i n g d P : Nat) (r : Rx) (w0 w : World) (h : Rd w P s ere i n g d) (hi : i ≤ 1000000000) (hz : z ≤ 100) (hn : n ≤ 1000000000)
  (hI : Is w (fun b => w0.heap.size ≤ b) r (rxv k mn mx m t (.slice ad l c))) (hk : Ks P w0 w) (hP : P < w0.heap.size) :
  Calls Tryz.prog 91 #[.pointer (some ⟨P, 0, none⟩), .agg #[.int .i64 (x : Int), .int .u8 (y : Int), .int .i64 (z : Int)], rxv k mn mx m t (.slice ad l c)] w fun e w' => e = .returned (.tuple #[rxv k mn mx m t (.slice ad l c), .int .i64 0]) ∧ Ret w0 P s ere (pTake z r ⟨i, n, g, d⟩) (rxv k mn mx m t (.slice ad l c)) w' ∧ Ks P w w' := by
 refine (take_any x y z k mn mx m t ad l c s ere i n g d P w h hi hz hn).mono ?_
 rintro e w' ⟨rfl, r', k'⟩
 exact ⟨rfl, ⟨hI.ks k' (fun _ hb _ => by omega), r', hk.trans k'⟩, k'⟩
theorem take_ret0 (x y z : Nat) (k mn mx m : Int) (ad : Option Addr) (l c : Nat) (s : ByteArray) (ere : Bool) (i n g d P : Nat) (r : Rx) (w0 w : World) (h : Rd w P s ere i n g d) (hi : i ≤ 1000000000) (hz : z ≤ 100) (hn : n ≤ 1000000000)
  (hI : Is w (fun b => w0.heap.size ≤ b) r (rxv k mn mx m W4.z (.slice ad l c))) (hk : Ks P w0 w) (hP : P < w0.heap.size) :
  Calls Tryz.prog 91 #[.pointer (some ⟨P, 0, none⟩), .agg #[.int .i64 (x : Int), .int .u8 (y : Int), .int .i64 (z : Int)], .agg #[.int .i64 k, .int .i64 mn, .int .i64 mx, .int .i64 m, .int .u64 0, .int .u64 0, .int .u64 0, .int .u64 0, .slice ad l c]] w fun e w' => e = .returned (.tuple #[.agg #[.int .i64 k, .int .i64 mn, .int .i64 mx, .int .i64 m, .int .u64 0, .int .u64 0, .int .u64 0, .int .u64 0, .slice ad l c], .int .i64 0]) ∧ Ret w0 P s ere (pTake z r ⟨i, n, g, d⟩) (rxv k mn mx m W4.z (.slice ad l c)) w' ∧ Ks P w w' :=
 take_ret x y z k mn mx m W4.z ad l c s ere i n g d P r w0 w h hi hz hn hI hk hP
/-- Nothing was read: the answer is zero. -/
theorem Ret.fail {w0 w1 w2 : World} {P S : Nat} {s : ByteArray} {ere : Bool} {e i n g d : Nat} (R : Rd w1 P s ere i n g d) (k : Ks P w0 w1) (k' : Ks S w1 w2) (hP : P < w0.heap.size) (hS : w0.heap.size ≤ S) : Ret w0 P s ere ⟨rx0, e, ⟨i, n, g, d⟩⟩ rz w2 :=
 ⟨is_zero _ _, R.ks k' (by omega) (by omega), k.off k' hS hP⟩
end Go.Proofs.YtikmgckefbjbkaaGreatDoor

/-! ### Keep -/

namespace Go.Proofs.YtikmgckefbjbkaaGreatDoor
open Go.RowKit
attribute [local go_sem] field91

set_option maxRecDepth 100000 in
theorem keep_any (base : Nat) (v : Value) (ts : List Rx) (r : Rx) (k mn mx m : Int) (t : W4) (ad : Option Addr) (l c : Nat) (s : ByteArray) (ere : Bool) (i n g d P : Nat) (w : World) (h : Rd w P s ere i n g d) (hK : RKids base w v ts) (hI : Is w (fun b => base ≤ b ∧ v.ownBlock ≠ some b) r (rxv k mn mx m t (.slice ad l c))) (hb : base ≤ w.heap.size) (ht : ts.length ≤ 1000) :
  Calls Tryz.prog 51 #[.pointer (some ⟨P, 0, none⟩), v, rxv k mn mx m t (.slice ad l c)] w fun e w' => ∃ v', e = .returned v' ∧ RKids base w' v' (keepL n ts r) ∧ w.grownBy w' v.ownBlock := by
 have R : Hid (Rd w P s ere i n g d) := h
 have HK : Hid (RKids base w v ts) := hK
 have HI : Hid (Is w (fun b => base ≤ b ∧ v.ownBlock ≠ some b) r (rxv k mn mx m t (.slice ad l c))) := hI
 clear h hK hI
 by_cases hc : n > 40
 ·
  have E : Hid (keepL n ts r = ts) := by show _ = _; unfold keepL; rw [if_pos hc]
  have c1 : (40 : Int) < (n : Int) := by omega
  go_enter Tryz.func51, Tryz.ntmps51
  go_upto_region 1 with fail
  refine opq (fun W0 => Rd W0 P s ere i n g d ∧ W0.heap[w.heap.size]? = some (rxo k mn mx m t (.slice ad l c)) ∧ RKids base W0 v ts ∧ Is W0 (fun b => base ≤ b ∧ v.ownBlock ≠ some b) r (rxv k mn mx m t (.slice ad l c)) ∧ Kp w W0) ⟨by exact R.out.kp (by repeat (first | exact Kp.refl _ | refine Kp.alloc ?_ _ | refine Kp.drew ?_ | refine Kp.drewN _ ?_)), by (first | exact last_at _ _ _ (by simp) | (refine bl_alloc ?_ _; first | exact last_at _ _ _ (by simp) | (refine bl_alloc ?_ _; first | exact last_at _ _ _ (by simp) | (refine bl_alloc ?_ _; exact last_at _ _ _ (by simp))))), by exact HK.out.kp (by repeat (first | exact Kp.refl _ | refine Kp.alloc ?_ _ | refine Kp.drew ?_ | refine Kp.drewN _ ?_)), by exact HI.out.kp (by repeat (first | exact Kp.refl _ | refine Kp.alloc ?_ _ | refine Kp.drew ?_ | refine Kp.drewN _ ?_)), by exact (by repeat (first | exact Kp.refl _ | refine Kp.alloc ?_ _ | refine Kp.drew ?_ | refine Kp.drewN _ ?_))⟩ ?_
  rintro W0 ⟨xR0, xA0, xHK0, xHI0, xK0⟩
  have R0 : Hid (Rd W0 P s ere i n g d) := xR0
  have A0 : Hid (W0.heap[w.heap.size]? = some (rxo k mn mx m t (.slice ad l c))) := xA0
  have HK0 : Hid (RKids base W0 v ts) := xHK0
  have HI0 : Hid (Is W0 (fun b => base ≤ b ∧ v.ownBlock ≠ some b) r (rxv k mn mx m t (.slice ad l c))) := xHI0
  have K0 : Hid (Kp w W0) := xK0
  clear xR0 xA0 xHK0 xHI0 xK0
  have p3 := R0.out.cells.2.2.2.1
  have hs0 := K0.out.size
  go_wp2
  go_ret
  exact ⟨_, rfl, by rw [E.out]; exact HK0.out, K0.out.grown _⟩
 ·
  have E : Hid (keepL n ts r = ts ++ [r]) := by show _ = _; unfold keepL; rw [if_neg hc]
  have c1 : ¬ (40 : Int) < (n : Int) := by omega
  go_enter Tryz.func51, Tryz.ntmps51
  go_upto_region 1 with fail
  refine opq (fun W0 => Rd W0 P s ere i n g d ∧ W0.heap[w.heap.size]? = some (rxo k mn mx m t (.slice ad l c)) ∧ RKids base W0 v ts ∧ Is W0 (fun b => base ≤ b ∧ v.ownBlock ≠ some b) r (rxv k mn mx m t (.slice ad l c)) ∧ Kp w W0) ⟨by exact R.out.kp (by repeat (first | exact Kp.refl _ | refine Kp.alloc ?_ _ | refine Kp.drew ?_ | refine Kp.drewN _ ?_)), by (first | exact last_at _ _ _ (by simp) | (refine bl_alloc ?_ _; first | exact last_at _ _ _ (by simp) | (refine bl_alloc ?_ _; first | exact last_at _ _ _ (by simp) | (refine bl_alloc ?_ _; exact last_at _ _ _ (by simp))))), by exact HK.out.kp (by repeat (first | exact Kp.refl _ | refine Kp.alloc ?_ _ | refine Kp.drew ?_ | refine Kp.drewN _ ?_)), by exact HI.out.kp (by repeat (first | exact Kp.refl _ | refine Kp.alloc ?_ _ | refine Kp.drew ?_ | refine Kp.drewN _ ?_)), by exact (by repeat (first | exact Kp.refl _ | refine Kp.alloc ?_ _ | refine Kp.drew ?_ | refine Kp.drewN _ ?_))⟩ ?_
  rintro W0 ⟨xR0, xA0, xHK0, xHI0, xK0⟩
  have R0 : Hid (Rd W0 P s ere i n g d) := xR0
  have A0 : Hid (W0.heap[w.heap.size]? = some (rxo k mn mx m t (.slice ad l c))) := xA0
  have HK0 : Hid (RKids base W0 v ts) := xHK0
  have HI0 : Hid (Is W0 (fun b => base ≤ b ∧ v.ownBlock ≠ some b) r (rxv k mn mx m t (.slice ad l c))) := xHI0
  have K0 : Hid (Kp w W0) := xK0
  clear xR0 xA0 xHK0 xHI0 xK0
  have p3 := R0.out.cells.2.2.2.1
  have hs0 := K0.out.size
  obtain ⟨a0, a1, a2, a3, a4, a5, a6, a7, a8⟩ := cells9c A0.out
  go_wp2_with (at_builtin; go_must (refine wpList_append_rx W0 (by rfl) _ _ (by rfl) base v ts r (by rfl) HK0 k mn mx m t ad l c HI0 _ (by rfl) (by rfl) ?h1 ?h2 ?_))
  case h1 => omega
  case h2 => omega
  intro v' w' hk' hg'
  have HK' : Hid (RKids base w' v' (ts ++ [r])) := hk'
  have HG' : Hid (w.grownBy w' v.ownBlock) := ⟨hg'.os.trans K0.out.os, hg'.tape.trans K0.out.tape, hg'.output.trans K0.out.output, Nat.le_trans K0.out.size hg'.size, fun b hb hne => (hg'.block b (Nat.lt_of_lt_of_le hb K0.out.size) hne).trans (K0.out.block b hb)⟩
  clear hk' hg'
  go_wp2_with fail
  go_ret
  exact ⟨_, rfl, by rw [E.out]; exact HK'.out, HG'.out⟩

set_option maxRecDepth 100000 in
theorem rowEnds_any (s : ByteArray) (ere : Bool) (i n g d P : Nat) (w : World) (h : Rd w P s ere i n g d) (hi : i ≤ s.size) (hs : s.size ≤ 1000000) :
  Calls Tryz.prog 68 #[.pointer (some ⟨P, 0, none⟩)] w fun e w' => e = .returned (.bool (ends (sgn s ere i).1)) ∧ Kp w w' := by
 have R : Hid (Rd w P s ere i n g d) := h
 clear h
 obtain ⟨x, y, z, hg⟩ : ∃ x y z, sgn s ere i = (x, y, z) := ⟨_, _, _, rfl⟩
 have HG : Hid (sgn s ere i = (x, y, z)) := hg
 rw [hg]
 clear hg
 show Calls _ _ _ _ fun e w' => e = .returned (.bool (ends x)) ∧ _
 by_cases h1 : x = 1
 ·
  subst h1
  go_enter Tryz.func68, Tryz.ntmps68
  go_wp2_with fail
  refine (sign_any s ere i n g d P _ R.out hi hs).mono ?_
  rintro e w1 ⟨rfl, kq⟩
  rw [HG.out, sg3]
  have KQ : Hid (Kp w w1) := kq
  clear kq
  go_wp2_with fail
  go_ret
  exact ⟨rfl, KQ.out⟩
 by_cases h9 : x = 9
 ·
  subst h9
  go_enter Tryz.func68, Tryz.ntmps68
  go_wp2_with fail
  refine (sign_any s ere i n g d P _ R.out hi hs).mono ?_
  rintro e w1 ⟨rfl, kq⟩
  rw [HG.out, sg3]
  have KQ : Hid (Kp w w1) := kq
  clear kq
  go_wp2_with fail
  go_ret
  exact ⟨rfl, KQ.out⟩
 by_cases h8 : x = 8
 ·
  subst h8
  go_enter Tryz.func68, Tryz.ntmps68
  go_wp2_with fail
  refine (sign_any s ere i n g d P _ R.out hi hs).mono ?_
  rintro e w1 ⟨rfl, kq⟩
  rw [HG.out, sg3]
  have KQ : Hid (Kp w w1) := kq
  clear kq
  go_wp2_with fail
  go_ret
  exact ⟨rfl, KQ.out⟩
 have g1 : ((x : Int) == 1) = false := by simp; omega
 have g9 : ((x : Int) == 9) = false := by simp; omega
 have g8 : ((x : Int) == 8) = false := by simp; omega
 have E : Hid (ends x = false) := by show _ = _; unfold ends; simp [h1, h9, h8]
 go_enter Tryz.func68, Tryz.ntmps68
 go_wp2_with fail
 refine (sign_any s ere i n g d P _ R.out hi hs).mono ?_
 rintro e w1 ⟨rfl, kq⟩
 rw [HG.out, sg3]
 have KQ : Hid (Kp w w1) := kq
 clear kq
 go_wp2_with fail
 go_ret
 exact ⟨ret_bool E.out.symm, KQ.out⟩

set_option maxRecDepth 100000 in
theorem timesFit_any (a b : Int) (w : World) : Calls Tryz.prog 66 #[.int .i64 a, .int .i64 b] w fun e w' => e = .returned (.bool (timesFit a b)) ∧ w' = w := by
 by_cases h0 : a < 0
 ·
  have E : Hid (timesFit a b = false) := by show _ = _; unfold timesFit; rw [if_pos (Or.inl h0)]
  go_enter Tryz.func66, Tryz.ntmps66
  go_wp2
  go_ret
  exact ⟨ret_bool E.out.symm, rfl⟩
 by_cases h1 : a > 20
 ·
  have E : Hid (timesFit a b = false) := by show _ = _; unfold timesFit; rw [if_pos (Or.inr h1)]
  have h1' : (20 : Int) < a := h1
  go_enter Tryz.func66, Tryz.ntmps66
  go_wp2
  go_ret
  exact ⟨ret_bool E.out.symm, rfl⟩
 have h1' : ¬ (20 : Int) < a := h1
 by_cases h2 : b = -1
 ·
  subst h2
  have E : Hid (timesFit a (-1) = true) := by show _ = _; unfold timesFit; rw [if_neg (by omega)]; rfl
  go_enter Tryz.func66, Tryz.ntmps66
  go_wp2
  go_ret
  exact ⟨ret_bool E.out.symm, rfl⟩
 have g2 : (b == -1) = false := by simp [h2]
 by_cases h3 : max a 1 ≤ b
 ·
  by_cases h4 : b ≤ 20
  ·
   have E : Hid (timesFit a b = true) := by show _ = _; unfold timesFit; rw [if_neg (by omega), g2, decide_eq_true h3, decide_eq_true h4]; rfl
   go_enter Tryz.func66, Tryz.ntmps66
   go_wp2
   go_ret
   exact ⟨ret_bool E.out.symm, rfl⟩
  ·
   have E : Hid (timesFit a b = false) := by show _ = _; unfold timesFit; rw [if_neg (by omega), g2, decide_eq_true h3, decide_eq_false h4]; rfl
   go_enter Tryz.func66, Tryz.ntmps66
   go_wp2
   go_ret
   exact ⟨ret_bool E.out.symm, rfl⟩
 ·
  have E : Hid (timesFit a b = false) := by show _ = _; unfold timesFit; rw [if_neg (by omega), g2, decide_eq_false h3]; rfl
  go_enter Tryz.func66, Tryz.ntmps66
  go_wp2
  go_ret
  exact ⟨ret_bool E.out.symm, rfl⟩
end Go.Proofs.YtikmgckefbjbkaaGreatDoor

/-! ### Text1 -/

namespace Go.Proofs.YtikmgckefbjbkaaGreatDoor
open Go.RowKit

/-- A text of bytes. -/
def bs (l : List UInt8) : ByteArray := ⟨l.toArray⟩
theorem bs_app (a b : List UInt8) : bs a ++ bs b = bs (a ++ b) := by
 apply ByteArray.ext
 apply Array.toList_inj.1
 rw [ByteArray.data_append, Array.toList_append]
 simp [bs]
theorem bs_size (a : List UInt8) : (bs a).size = a.length := by
 show a.toArray.size = a.length
 simp
theorem bs_toList (a : List UInt8) : (bs a).toList = a := ByteArray.toList_mk a
def dec (n : Nat) : List UInt8 := Lib.decDigits n
theorem dec_len (n : Nat) (h : n < 100) : (dec n).length ≤ 2 := (by decide +kernel : ∀ n : Fin 100, (dec n.val).length ≤ 2) ⟨n, h⟩
theorem itoa_any (n : Nat) (h : n < 100) (w : World) : Calls Tryz.prog 41 #[.int .i64 (n : Int)] w fun e w' => e = .returned (.string (bs (dec n))) ∧ w' = w := Tryz.strconv_Itoa_small n h w

def framedT (a x b : List UInt8) (ere : Bool) : List UInt8 := if ere then a ++ x ++ b else [92] ++ a ++ x ++ [92] ++ b
theorem lit92 : (⟨#[92]⟩ : ByteArray) = bs [92] := rfl

set_option maxHeartbeats 2000000 in
set_option maxRecDepth 100000 in
theorem framed_any (a x b : List UInt8) (ere : Bool) (ha : a.length ≤ 100) (hx : x.length ≤ 10000000) (hb : b.length ≤ 100) (w : World) : Calls Tryz.prog 40 #[.string (bs a), .string (bs x), .string (bs b), .bool ere] w fun e w' => e = .returned (.string (bs (framedT a x b ere))) ∧ w' = w := by
 rw [← bs_size] at ha hx hb
 have E : Hid (bs (framedT a x b ere) = if ere then bs a ++ bs x ++ bs b else bs [92] ++ bs a ++ bs x ++ bs [92] ++ bs b) := by
  show _ = _
  unfold framedT
  cases ere <;> simp [bs_app]
 obtain ⟨A, hA⟩ : ∃ A, bs a = A := ⟨_, rfl⟩
 obtain ⟨X, hX⟩ : ∃ X, bs x = X := ⟨_, rfl⟩
 obtain ⟨B, hB⟩ : ∃ B, bs b = B := ⟨_, rfl⟩
 rw [hA, hX, hB] at E
 rw [hA] at ha ⊢
 rw [hX] at hx ⊢
 rw [hB] at hb ⊢
 clear hA hX hB
 cases ere with
 | true =>
  go_enter Tryz.func40, Tryz.ntmps40
  go_wp2
  go_ret
  exact ⟨by rw [E.out]; rfl, rfl⟩
 | false =>
  go_enter Tryz.func40, Tryz.ntmps40
  go_wp2
  go_ret
  exact ⟨by rw [E.out]; rfl, rfl⟩

def ivT (lo : Nat) (hi : Int) : List UInt8 := if hi = lo then dec lo else if hi = -1 then dec lo ++ [44] else dec lo ++ [44] ++ dec hi.toNat

set_option maxHeartbeats 2000000 in
set_option maxRecDepth 100000 in
theorem ivText_any (lo : Nat) (hi : Int) (hlo : lo ≤ 20) (h1 : -1 ≤ hi) (h2 : hi ≤ 20) (w : World) : Calls Tryz.prog 60 #[.int .i64 (lo : Int), .int .i64 hi] w fun e w' => e = .returned (.string (bs (ivT lo hi))) ∧ w' = w := by
 have hd : (bs (dec lo)).size ≤ 2 := by rw [bs_size]; exact dec_len lo (by omega)
 obtain ⟨A, hA⟩ : ∃ A, bs (dec lo) = A := ⟨_, rfl⟩
 have IT : Hid (∀ w, Calls Tryz.prog 41 #[.int .i64 (lo : Int)] w fun e w' => e = .returned (.string A) ∧ w' = w) := fun w => by rw [← hA]; exact itoa_any lo (by omega) w
 have HA := hid hA
 rw [hA] at hd
 clear hA
 by_cases e1 : hi = lo
 ·
  subst e1
  have E : Hid (bs (ivT lo (lo : Int)) = A) := by show _ = _; unfold ivT; rw [if_pos rfl, HA.out]
  go_enter Tryz.func60, Tryz.ntmps60
  go_wp2_with fail
  refine (IT.out _).mono ?_
  rintro e w1 ⟨rfl, rfl⟩
  go_wp2_with fail
  go_ret
  exact ⟨by rw [E.out]; rfl, rfl⟩
 have g1 : (hi == (lo : Int)) = false := by simp [e1]
 by_cases e2 : hi = -1
 ·
  subst e2
  have E : Hid (bs (ivT lo (-1)) = A ++ bs [44]) := by show _ = _; unfold ivT; rw [if_neg e1, if_pos rfl, ← HA.out, bs_app]
  go_enter Tryz.func60, Tryz.ntmps60
  go_wp2_with fail
  refine (IT.out _).mono ?_
  rintro e w1 ⟨rfl, rfl⟩
  go_wp2_with fail
  go_ret
  exact ⟨by rw [E.out]; rfl, rfl⟩
 have g2 : (hi == -1) = false := by simp [e2]
 obtain ⟨h, rfl⟩ : ∃ h : Nat, hi = h := ⟨hi.toNat, by omega⟩
 have hd2 : (bs (dec h)).size ≤ 2 := by rw [bs_size]; exact dec_len h (by omega)
 obtain ⟨B, hB⟩ : ∃ B, bs (dec h) = B := ⟨_, rfl⟩
 have IT2 : Hid (∀ w, Calls Tryz.prog 41 #[.int .i64 (h : Int)] w fun e w' => e = .returned (.string B) ∧ w' = w) := fun w => by rw [← hB]; exact itoa_any h (by omega) w
 have E : Hid (bs (ivT lo (h : Int)) = A ++ bs [44] ++ B) := by show _ = _; unfold ivT; rw [if_neg e1, if_neg e2, ← HA.out, ← hB, bs_app, bs_app]; simp
 rw [hB] at hd2
 clear hB
 go_enter Tryz.func60, Tryz.ntmps60
 go_wp2_with fail
 refine (IT.out _).mono ?_
 rintro e w1 ⟨rfl, rfl⟩
 go_wp2_with fail
 refine (IT2.out _).mono ?_
 rintro e w2 ⟨rfl, rfl⟩
 go_wp2_with fail
 go_ret
 exact ⟨by rw [E.out]; rfl, rfl⟩

def timesT (lo : Nat) (hi : Int) (ere : Bool) : List UInt8 :=
 if lo = 0 ∧ hi = -1 then [42] else if ere = true ∧ lo = 1 ∧ hi = -1 then [43] else if ere = true ∧ lo = 0 ∧ hi = 1 then [63] else framedT [123] (ivT lo hi) [125] ere
theorem ivT_len (lo : Nat) (hi : Int) (hlo : lo ≤ 20) (h1 : -1 ≤ hi) (h2 : hi ≤ 20) : (ivT lo hi).length ≤ 5 := by
 have a := dec_len lo (by omega)
 have b := dec_len hi.toNat (by omega)
 unfold ivT
 split
 ·
  omega
 ·
  split
  ·
   simp; omega
  ·
   simp; omega

set_option maxHeartbeats 2000000 in
set_option maxRecDepth 100000 in
theorem timesText_any (lo : Nat) (hi : Int) (ere : Bool) (hlo : lo ≤ 20) (h1 : -1 ≤ hi) (h2 : hi ≤ 20) (w : World) : Calls Tryz.prog 39 #[.int .i64 (lo : Int), .int .i64 hi, .bool ere] w fun e w' => e = .returned (.string (bs (timesT lo hi ere))) ∧ w' = w := by
 have FR := hid (framed_any [123] (ivT lo hi) [125] ere (by simp) (by have := ivT_len lo hi hlo h1 h2; omega) (by simp))
 have IV := hid (ivText_any lo hi hlo h1 h2)
 by_cases l0 : lo = 0
 ·
  subst l0
  by_cases m1 : hi = -1
  ·
   subst m1
   have E : Hid (timesT 0 (-1) ere = [42]) := by show _ = _; unfold timesT; rw [if_pos ⟨rfl, rfl⟩]
   go_enter Tryz.func39, Tryz.ntmps39
   go_wp2
   go_ret
   exact ⟨by rw [E.out]; rfl, rfl⟩
  have n1 : (hi == -1) = false := by simp [m1]
  cases ere with
  | false =>
   have E : Hid (timesT 0 hi false = framedT [123] (ivT 0 hi) [125] false) := by show _ = _; unfold timesT; simp [m1]
   go_enter Tryz.func39, Tryz.ntmps39
   go_wp2_with fail
   refine (IV.out _).mono ?_
   rintro e w1 ⟨rfl, rfl⟩
   go_wp2_with fail
   refine (FR.out _).mono ?_
   rintro e w2 ⟨rfl, rfl⟩
   go_wp2_with fail
   go_ret
   exact ⟨by rw [E.out]; rfl, rfl⟩
  | true =>
   by_cases p1 : hi = 1
   ·
    subst p1
    have E : Hid (timesT 0 1 true = [63]) := rfl
    go_enter Tryz.func39, Tryz.ntmps39
    go_wp2
    go_ret
    exact ⟨by rw [E.out]; rfl, rfl⟩
   have n2 : (hi == 1) = false := by simp [p1]
   have E : Hid (timesT 0 hi true = framedT [123] (ivT 0 hi) [125] true) := by show _ = _; unfold timesT; simp [m1, p1]
   go_enter Tryz.func39, Tryz.ntmps39
   go_wp2_with fail
   refine (IV.out _).mono ?_
   rintro e w1 ⟨rfl, rfl⟩
   go_wp2_with fail
   refine (FR.out _).mono ?_
   rintro e w2 ⟨rfl, rfl⟩
   go_wp2_with fail
   go_ret
   exact ⟨by rw [E.out]; rfl, rfl⟩
 have n0 : ((lo : Int) == 0) = false := by simp; omega
 cases ere with
 | false =>
  have E : Hid (timesT lo hi false = framedT [123] (ivT lo hi) [125] false) := by show _ = _; unfold timesT; simp [l0]
  go_enter Tryz.func39, Tryz.ntmps39
  go_wp2_with fail
  refine (IV.out _).mono ?_
  rintro e w1 ⟨rfl, rfl⟩
  go_wp2_with fail
  refine (FR.out _).mono ?_
  rintro e w2 ⟨rfl, rfl⟩
  go_wp2_with fail
  go_ret
  exact ⟨by rw [E.out]; rfl, rfl⟩
 | true =>
  by_cases l1 : lo = 1
  ·
   subst l1
   by_cases m1 : hi = -1
   ·
    subst m1
    have E : Hid (timesT 1 (-1) true = [43]) := rfl
    go_enter Tryz.func39, Tryz.ntmps39
    go_wp2
    go_ret
    exact ⟨by rw [E.out]; rfl, rfl⟩
   have n1 : (hi == -1) = false := by simp [m1]
   have E : Hid (timesT 1 hi true = framedT [123] (ivT 1 hi) [125] true) := by show _ = _; unfold timesT; simp [m1]
   go_enter Tryz.func39, Tryz.ntmps39
   go_wp2_with fail
   refine (IV.out _).mono ?_
   rintro e w1 ⟨rfl, rfl⟩
   go_wp2_with fail
   refine (FR.out _).mono ?_
   rintro e w2 ⟨rfl, rfl⟩
   go_wp2_with fail
   go_ret
   exact ⟨by rw [E.out]; rfl, rfl⟩
  have n3 : ((lo : Int) == 1) = false := by simp; omega
  have E : Hid (timesT lo hi true = framedT [123] (ivT lo hi) [125] true) := by show _ = _; unfold timesT; simp [l0, l1]
  go_enter Tryz.func39, Tryz.ntmps39
  go_wp2_with fail
  refine (IV.out _).mono ?_
  rintro e w1 ⟨rfl, rfl⟩
  go_wp2_with fail
  refine (FR.out _).mono ?_
  rintro e w2 ⟨rfl, rfl⟩
  go_wp2_with fail
  go_ret
  exact ⟨by rw [E.out]; rfl, rfl⟩

def byteT (b : Nat) (ere : Bool) : List UInt8 := if b = 10 then [92, 110] else if spec ere b then [92, UInt8.ofNat b] else [UInt8.ofNat b]
theorem conv_one (W : World) (b : Nat) (hb : b < 256) : (convert 47 9 (.slice (some ⟨W.heap.size, 0, none⟩) 1 1)).run Tryz.prog (W.alloc (.cells #[.int .u8 (b : Int)] 5)) = .ok (.string (bs [UInt8.ofNat b])) (W.alloc (.cells #[.int .u8 (b : Int)] 5)) := by
 refine run_convert_bytes_back (W.alloc (.cells #[.int .u8 (b : Int)] 5)) 47 9 5 ⟨W.heap.size, 0, none⟩ 1 [UInt8.ofNat b] Tryz.underlying47 Tryz.underlying5 Tryz.underlying9 ?_
 intro j hj
 have h0 : j = 0 := by simp at hj; exact hj
 subst h0
 refine bl_cell (last_of _ _) 0 _ ?_
 show some _ = some _
 simp
 omega

set_option maxHeartbeats 2000000 in
set_option maxRecDepth 100000 in
theorem byteText_any (b : Nat) (hb : b < 256) (ere : Bool) (w : World) : Calls Tryz.prog 54 #[.int .u8 (b : Int), .bool ere] w fun e w' => e = .returned (.string (bs (byteT b ere))) ∧ Kp w w' := by
 by_cases h10 : b = 10
 ·
  subst h10
  have E : Hid (byteT 10 ere = [92, 110]) := rfl
  go_enter Tryz.func54, Tryz.ntmps54
  go_wp2
  go_ret
  exact ⟨by rw [E.out]; rfl, Kp.refl _⟩
 have g : ((b : Int) == 10) = false := by simp; omega
 obtain ⟨sp, hsp⟩ : ∃ sp, spec ere b = sp := ⟨_, rfl⟩
 have HSP := hid hsp
 have E0 : Hid (byteT b ere = if sp then [92, UInt8.ofNat b] else [UInt8.ofNat b]) := by show _ = _; unfold byteT; rw [if_neg h10, hsp]
 clear hsp
 go_enter Tryz.func54, Tryz.ntmps54
 go_wp2_with fail
 refine (special_any ere _).mono ?_
 rintro e W1 ⟨rfl, k1⟩
 have K1 := hid k1
 clear k1
 go_wp2_with fail
 refine (has_any (spec ere) b _ hb).mono ?_
 rintro e W2 ⟨rfl, k2⟩
 rw [HSP.out]
 have K2 := hid (K1.out.trans k2)
 have cv := conv_one W2 b hb
 have hz : (bs [UInt8.ofNat b]).size ≤ 10 := by rw [bs_size]; simp
 obtain ⟨T, hT⟩ : ∃ T, bs [UInt8.ofNat b] = T := ⟨_, rfl⟩
 rw [hT] at cv hz
 have HT := hid hT
 clear k2 hT K1
 cases sp with
 | true =>
  have E : Hid (bs (byteT b ere) = bs [92] ++ T) := by show _ = _; rw [E0.out, ← HT.out, bs_app]; rfl
  go_wp2_with fail
  go_ret
  exact ⟨by rw [E.out]; rfl, K2.out.alloc _⟩
 | false =>
  have E : Hid (bs (byteT b ere) = T) := by show _ = _; rw [E0.out, ← HT.out]; rfl
  go_wp2_with fail
  go_ret
  exact ⟨by rw [E.out]; rfl, K2.out.alloc _⟩
end Go.Proofs.YtikmgckefbjbkaaGreatDoor

/-! ### Row2 -/

namespace Go.Proofs.YtikmgckefbjbkaaGreatDoor
open Go.RowKit

def u8s (l : List Nat) : List UInt8 := l.map UInt8.ofNat
def mid (b : Nat) : Bool := !(b == 93) && !(b == 94) && !(b == 45)
def rowT (p : Nat → Bool) : List UInt8 := u8s ((lst p 256).filter (· == 93)) ++ u8s ((lst p 256).filter mid) ++ u8s ((lst p 256).filter (· == 94)) ++ u8s ((lst p 256).filter (· == 45))
theorem lst_lt (p : Nat → Bool) (k : Nat) : ∀ x ∈ lst p k, x < k := by
 intro x hx
 unfold lst at hx
 simp at hx
 exact hx.1
theorem lst_len (p : Nat → Bool) (k : Nat) : (lst p k).length ≤ k := by rw [lst_length]; exact cnt_le p k

/-- A row of bytes that the call owns. -/
def Ow (base : Nat) (w : World) (v : Value) (l : List Nat) : Prop := w.ownsRow base 5 1 v l.length (l.map u8v)
theorem Ow.kp {base : Nat} {w w' : World} {v : Value} {l : List Nat} (h : Ow base w v l) (k : Kp w w') : Ow base w' v l := owns_kp h k
theorem Ow.conv {base : Nat} {w : World} {v : Value} {l : List Nat} (h : Ow base w v l) (hl : ∀ x ∈ l, x < 256) : (convert 47 9 v).run Tryz.prog w = .ok (.string (bs (u8s l))) w := by
 obtain ⟨h1, h2⟩ := h
 rcases h2 with ⟨rfl, h0⟩ | ⟨g, cap, cur, rfl, hb, hg, hc, hm, hs, ht⟩
 ·
  have : l = [] := List.eq_nil_of_length_eq_zero h0
  subst this
  exact Lib.run_convert_nil_bytes w 47 9 5 0 Tryz.underlying47 Tryz.underlying5 Tryz.underlying9
 ·
  have hlen : (u8s l).length = l.length := by simp [u8s]
  rw [← hlen]
  refine run_convert_bytes_back w 47 9 5 ⟨g, 0, none⟩ cap (u8s l) Tryz.underlying47 Tryz.underlying5 Tryz.underlying9 ?_
  intro j hj
  have hj' : j < l.length := by rw [← hlen]; exact hj
  have hx : (u8s l)[j] = UInt8.ofNat l[j] := by simp [u8s]
  rw [hx]
  have hlt := hl l[j] (List.getElem_mem hj')
  rw [show (⟨g, 0, none⟩ : Addr).add j = ⟨g, j, none⟩ by simp [Addr.add]; exact Eq.symm]
  refine bl_cell hg j _ ?_
  have e1 : (cur.toList.take (l.length * 1))[j]? = (l.map u8v)[j]? := by rw [ht]
  rw [List.getElem?_take, if_pos (by omega), Array.getElem?_toList] at e1
  rw [e1, List.getElem?_map, List.getElem?_eq_getElem hj']
  show some _ = some _
  congr 1
  show Value.int .u8 _ = Value.int .u8 _
  congr 1
  rw [UInt8.toNat_ofNat_of_lt' (by simpa using hlt)]
theorem Ow.at {base : Nat} {w : World} {v : Value} {l : List Nat} (h : Ow base w v l) (j x : Nat) (hj : l[j]? = some x) : ∃ g cap, v = .slice (some ⟨g, 0, none⟩) l.length cap ∧ w.cell? ⟨g, j, none⟩ = some (.int .u8 (x : Int)) := by
 obtain ⟨h1, h2⟩ := h
 rcases h2 with ⟨rfl, h0⟩ | ⟨g, cap, cur, rfl, hb, hg, hc, hm, hs, ht⟩
 ·
  rw [List.eq_nil_of_length_eq_zero h0] at hj; simp at hj
 ·
  have hj' : j < l.length := (List.getElem?_eq_some_iff.1 hj).1
  refine ⟨g, cap, rfl, bl_cell hg j _ ?_⟩
  have e1 : (cur.toList.take (l.length * 1))[j]? = (l.map u8v)[j]? := by rw [ht]
  rw [List.getElem?_take, if_pos (by omega), Array.getElem?_toList] at e1
  rw [e1, List.getElem?_map, hj]
  rfl
theorem Ow.turn {base : Nat} {w w' : World} {row : Option Nat} {v : Value} {l : List Nat} (h : Ow base w v l) (g : w.grownBy w' row) (hne : ∀ b, v.ownBlock = some b → row ≠ some b) : Ow base w' v l := by
 obtain ⟨h1, h2⟩ := h
 refine ⟨h1, ?_⟩
 rcases h2 with h2 | ⟨gb, cap, cur, hv, hb, hg, hr⟩
 ·
  exact .inl h2
 ·
  exact .inr ⟨gb, cap, cur, hv, hb, (g.block gb (Array.getElem?_eq_some_iff.1 hg).1 (Ne.symm (hne gb (by rw [hv]; rfl)))).trans hg, hr⟩

/-- Two rows don't lie in one block. -/
def Off (u v : Value) : Prop := ∀ b, u.ownBlock = some b → v.ownBlock ≠ some b
/-- A byte put behind: where the new row lies is told too. -/
theorem wpList_append_b {ops : Array Oper} {rest : List Oper} {o : Oper} {a : Act} {Q : Exit → Act → World → Prop} (W : World) (hgd : o.guard = none) (s x : Operand)
  (ho : o.op = .call { callee := .builtin .append, args := #[s, x], argTypes := #[47, 47] })
  (base : Nat) (v : Value) (b : Nat) (l : List Nat) (hs : a.eval s = v) (hown : Hid (Ow base W v l)) (B : Nat) (hB : B = W.heap.size)
  (hx : a.eval x = .slice (some ⟨B, 0, none⟩) 1 1) (h63 : l.length ≤ 900) (hbase : base ≤ W.heap.size)
  (h : ∀ v' w', Ow base w' v' (l ++ [b]) → W.grownBy w' v.ownBlock → (v'.ownBlock = v.ownBlock ∨ v'.ownBlock = some (W.heap.size + 1)) → wpList Tryz.prog ops Q rest (a.put o.dst v') w') :
  wpList Tryz.prog ops Q (o :: rest) a (W.alloc (.cells #[.int .u8 (b : Int)] 5)) := by
 obtain ⟨i, hi, hz, hsz, hby⟩ := info5
 have kal : Kp W (W.alloc (.cells #[.int .u8 (b : Int)] 5)) := (Kp.refl _).alloc _
 subst hB
 refine wpList_append_own_at (W.alloc (.cells #[.int .u8 (b : Int)] 5)) hgd s x 47 ho base 5 i (.int .u8 0) 1 1 Tryz.underlying47 hi hz hsz hby rfl (by omega) v l.length (l.map u8v) hs (hown.out.alloc _) ⟨W.heap.size, 0, none⟩ 1 1 [u8v b] hx rfl ?_ ?_ (by unfold maxLen; omega) (by omega) (by simp; omega) ?_
 ·
  intro j y hj
  match j, hj with
  | 0, hj => simp at hj; subst hj; simp [Addr.add]
 ·
  intro y hy; simp at hy; subst hy; rfl
 ·
  intro v' w' a1 a2 _ a4
  refine h v' w' ?_ ⟨a2.os.trans rfl, a2.tape.trans rfl, a2.output.trans rfl, Nat.le_trans kal.size a2.size, fun k hk hne => (a2.block k (Nat.lt_of_lt_of_le hk kal.size) hne).trans (kal.block k hk)⟩ ?_
  ·
   unfold Ow
   rw [List.length_append, List.map_append]
   exact a1
  ·
   rcases a4 with a4 | a4
   ·
    exact Or.inl a4
   ·
    refine Or.inr (a4.trans ?_)
    simp

/-- In the loop: the four rows. -/
structure Qw (p : Nat → Bool) (base : Nat) (w0 : World) (bv : Value) (k : Nat) (f m c d : Value) (wr : World) : Prop where
 of : Ow base wr f (((lst p 256).take k).filter (· == 93))
 om : Ow base wr m (((lst p 256).take k).filter mid)
 oc : Ow base wr c (((lst p 256).take k).filter (· == 94))
 od : Ow base wr d (((lst p 256).take k).filter (· == 45))
 ob : Ow w0.heap.size wr bv (lst p 256)
 fm : Off f m
 fc : Off f c
 fd : Off f d
 mc : Off m c
 md : Off m d
 cd : Off c d
 kp : Kp w0 wr
end Go.Proofs.YtikmgckefbjbkaaGreatDoor

/-! ### Row3 -/

namespace Go.Proofs.YtikmgckefbjbkaaGreatDoor
open Go.RowKit

theorem Kp.grownby {a b c : World} {row : Option Nat} (h : Kp a b) (g : b.grownBy c row) (hr : ∀ k, row = some k → a.heap.size ≤ k) : Kp a c :=
 ⟨g.os.trans h.os, g.tape.trans h.tape, g.output.trans h.output, Nat.le_trans h.size g.size, fun x hx => (g.block x (Nat.lt_of_lt_of_le hx h.size) (fun e => by have := hr x e.symm; omega)).trans (h.block x hx)⟩
theorem Ow.lt {base : Nat} {w : World} {v : Value} {l : List Nat} (h : Ow base w v l) : ∀ b, v.ownBlock = some b → base ≤ b ∧ b < w.heap.size := World.ownsRow.lt h
theorem Ow.len {base : Nat} {w : World} {v : Value} {l : List Nat} (h : Ow base w v l) : ∃ ad c, v = .slice ad l.length c := by
 rcases h.2 with ⟨rfl, h0⟩ | ⟨g, cap, cur, rfl, _⟩
 ·
  exact ⟨none, 0, by rw [h0]⟩
 ·
  exact ⟨_, cap, rfl⟩
theorem Off.symm {u v : Value} (h : Off u v) : Off v u := fun b hb he => h b he hb
/-- The new row is off the others. -/
theorem Off.new {u v v' : Value} {base : Nat} {w : World} {l : List Nat} (h : Off v u) (hu : Ow base w u l) (hn : v'.ownBlock = v.ownBlock ∨ v'.ownBlock = some (w.heap.size + 1)) : Off v' u := by
 intro b hb
 rcases hn with hn | hn
 ·
  rw [hn] at hb; exact h b hb
 ·
  rw [hn] at hb
  injection hb with hb
  intro he
  have := (hu.lt b he).2
  omega
theorem filt_yes (q : Nat → Bool) (l : List Nat) (k x : Nat) (hx : l[k]? = some x) (hq : q x = true) : (l.take (k + 1)).filter q = (l.take k).filter q ++ [x] := by
 have hk : k < l.length := (List.getElem?_eq_some_iff.1 hx).1
 rw [List.take_succ_eq_append_getElem hk, List.filter_append, (List.getElem?_eq_some_iff.1 hx).2]
 simp [hq]
theorem filt_no (q : Nat → Bool) (l : List Nat) (k x : Nat) (hx : l[k]? = some x) (hq : q x = false) : (l.take (k + 1)).filter q = (l.take k).filter q := by
 have hk : k < l.length := (List.getElem?_eq_some_iff.1 hx).1
 rw [List.take_succ_eq_append_getElem hk, List.filter_append, (List.getElem?_eq_some_iff.1 hx).2]
 simp [hq]

/-- In the loop: the four rows. -/
structure Qr (p : Nat → Bool) (W1 : World) (k : Nat) (f m c d : Value) (wr : World) : Prop where
 of : Ow W1.heap.size wr f (((lst p 256).take k).filter (· == 93))
 om : Ow W1.heap.size wr m (((lst p 256).take k).filter mid)
 oc : Ow W1.heap.size wr c (((lst p 256).take k).filter (· == 94))
 od : Ow W1.heap.size wr d (((lst p 256).take k).filter (· == 45))
 fm : Off f m
 fc : Off f c
 fd : Off f d
 mc : Off m c
 md : Off m d
 cd : Off c d
 kp : Kp W1 wr
theorem filt_len (q : Nat → Bool) (p : Nat → Bool) (k : Nat) : (((lst p 256).take k).filter q).length ≤ 256 :=
 Nat.le_trans (List.length_filter_le _ _) (Nat.le_trans (by rw [List.length_take]; exact Nat.min_le_right _ _) (lst_len p 256))

set_option maxHeartbeats 2000000 in
set_option maxRecDepth 100000 in
theorem bracketRow_any (p : Nat → Bool) (w : World) : Calls Tryz.prog 56 #[sv p] w fun e w' => e = .returned (.string (bs (rowT p))) ∧ Kp w w' := by
 go_enter Tryz.func56, Tryz.ntmps56
 go_wp2_with fail
 refine (bytes_any p _).mono ?_
 rintro e W1 ⟨bv, rfl, hown, k1⟩
 have K1 : Hid (Kp w W1) := ((Kp.refl _).alloc _).trans k1
 have OB : Hid (Ow 0 W1 bv (lst p 256)) := by
  obtain ⟨_, q2⟩ := hown
  refine ⟨by simp, ?_⟩
  rcases q2 with q2 | ⟨g, cap, cur, q3, q4, q5⟩
  ·
   exact .inl q2
  ·
   exact .inr ⟨g, cap, cur, q3, Nat.zero_le _, q5⟩
 clear hown k1
 obtain ⟨ad, cap, hbv⟩ := OB.out.len
 obtain ⟨L, hL⟩ : ∃ L, (lst p 256).length = L := ⟨_, rfl⟩
 have hL256 : L ≤ 256 := by rw [← hL]; exact lst_len p 256
 have HL := hid hL
 rw [hL] at hbv
 clear hL
 subst hbv
 go_wp2_with fail
 go_loopg [3, 4, 5, 6, 12] L (fun gg f m c d i wr => ∃ k : Nat, k + gg = L ∧ i = .int .i64 (k : Int) ∧ Qr p W1 k f m c d wr)
 case atStart => exact ⟨0, by omega, rfl, World.ownsRow_nil _ _ _ _, World.ownsRow_nil _ _ _ _, World.ownsRow_nil _ _ _ _, World.ownsRow_nil _ _ _ _, (fun b hb => by cases hb), (fun b hb => by cases hb), (fun b hb => by cases hb), (fun b hb => by cases hb), (fun b hb => by cases hb), (fun b hb => by cases hb), Kp.refl _⟩
 case round =>
  obtain ⟨k, hk, rfl, hq⟩ := hrel
  have Q := hid hq
  clear hq
  by_cases hlt : k < L
  ·
   have gkw : IntKind.i64.wrap ((k : Int) + 1) = (k : Int) + 1 := by rw [IntKind.wrap_i64]; omega
   have ga : (k : Int) < (L : Int) := by omega
   have g0 : (0 : Int) ≤ (k : Int) := by omega
   obtain ⟨x, hx⟩ : ∃ x, (lst p 256)[k]? = some x := ⟨_, List.getElem?_eq_getElem (by rw [HL.out]; exact hlt)⟩
   have hx256 : x < 256 := lst_lt p 256 x (List.mem_of_getElem? hx)
   obtain ⟨gb, cap', hbv, hcell⟩ := (OB.out.kp Q.out.kp).at k x hx
   injection hbv with hbv1 hbv2 hbv3
   subst hbv1
   have HX := hid hx
   have hsr := Q.out.kp.size
   clear hx hbv2 hbv3
   by_cases x93 : x = 93
   ·
    subst x93
    rw [show ((93 : Nat) : Int) = 93 from rfl] at hcell
    have OW := hid Q.out.of
    have FL := filt_len (· == 93) p k
    go_wp2_with (at_builtin; go_must (refine wpList_append_b wr (by rfl) _ _ (by rfl) W1.heap.size u3 93 _ (by rfl) OW _ (by rfl) (by rfl) ?h1 ?h2 ?_))
    case h1 => omega
    case h2 => omega
    intro v' w2 ho2 hg2 hat2
    have NX : Hid (Qr p W1 (k + 1) v' u4 u5 u6 w2) := by
     exact ⟨by rw [filt_yes _ _ _ _ HX.out (by rfl)]; exact ho2, by rw [filt_no _ _ _ _ HX.out (by rfl)]; exact Q.out.om.turn hg2 (fun b hb he => Q.out.fm b he hb), by rw [filt_no _ _ _ _ HX.out (by show ((93 : Nat) == 94) = false; rfl)]; exact Q.out.oc.turn hg2 (fun b hb he => Q.out.fc b he hb), by rw [filt_no _ _ _ _ HX.out (by show ((93 : Nat) == 45) = false; rfl)]; exact Q.out.od.turn hg2 (fun b hb he => Q.out.fd b he hb), Q.out.fm.new Q.out.om hat2, Q.out.fc.new Q.out.oc hat2, Q.out.fd.new Q.out.od hat2, Q.out.mc, Q.out.md, Q.out.cd, Q.out.kp.grownby hg2 (fun b hb => (Q.out.of.lt b hb).1)⟩
    clear ho2 hg2 hat2 OW FL
    go_wp2_with fail
    go_roundg (gk - 1)
    case measure => omega
    case rel => exact ⟨k + 1, by omega, by go_num, NX.out⟩
   by_cases x94 : x = 94
   ·
    subst x94
    rw [show ((94 : Nat) : Int) = 94 from rfl] at hcell
    have OW := hid Q.out.oc
    have FL := filt_len (· == 94) p k
    go_wp2_with (at_builtin; go_must (refine wpList_append_b wr (by rfl) _ _ (by rfl) W1.heap.size u5 94 _ (by rfl) OW _ (by rfl) (by rfl) ?h1 ?h2 ?_))
    case h1 => omega
    case h2 => omega
    intro v' w2 ho2 hg2 hat2
    have NX : Hid (Qr p W1 (k + 1) u3 u4 v' u6 w2) := by
     exact ⟨by rw [filt_no _ _ _ _ HX.out (by show ((94 : Nat) == 93) = false; rfl)]; exact Q.out.of.turn hg2 (fun b hb he => Q.out.fc.symm b he hb), by rw [filt_no _ _ _ _ HX.out (by rfl)]; exact Q.out.om.turn hg2 (fun b hb he => Q.out.mc.symm b he hb), by rw [filt_yes _ _ _ _ HX.out (by rfl)]; exact ho2, by rw [filt_no _ _ _ _ HX.out (by show ((94 : Nat) == 45) = false; rfl)]; exact Q.out.od.turn hg2 (fun b hb he => Q.out.cd b he hb), Q.out.fm, (Q.out.fc.symm.new Q.out.of hat2).symm, Q.out.fd, (Q.out.mc.symm.new Q.out.om hat2).symm, Q.out.md, Q.out.cd.new Q.out.od hat2, Q.out.kp.grownby hg2 (fun b hb => (Q.out.oc.lt b hb).1)⟩
    clear ho2 hg2 hat2 OW FL
    go_wp2_with fail
    go_roundg (gk - 1)
    case measure => omega
    case rel => exact ⟨k + 1, by omega, by go_num, NX.out⟩
   by_cases x45 : x = 45
   ·
    subst x45
    rw [show ((45 : Nat) : Int) = 45 from rfl] at hcell
    have OW := hid Q.out.od
    have FL := filt_len (· == 45) p k
    go_wp2_with (at_builtin; go_must (refine wpList_append_b wr (by rfl) _ _ (by rfl) W1.heap.size u6 45 _ (by rfl) OW _ (by rfl) (by rfl) ?h1 ?h2 ?_))
    case h1 => omega
    case h2 => omega
    intro v' w2 ho2 hg2 hat2
    have NX : Hid (Qr p W1 (k + 1) u3 u4 u5 v' w2) := by
     exact ⟨by rw [filt_no _ _ _ _ HX.out (by show ((45 : Nat) == 93) = false; rfl)]; exact Q.out.of.turn hg2 (fun b hb he => Q.out.fd.symm b he hb), by rw [filt_no _ _ _ _ HX.out (by rfl)]; exact Q.out.om.turn hg2 (fun b hb he => Q.out.md.symm b he hb), by rw [filt_no _ _ _ _ HX.out (by show ((45 : Nat) == 94) = false; rfl)]; exact Q.out.oc.turn hg2 (fun b hb he => Q.out.cd.symm b he hb), by rw [filt_yes _ _ _ _ HX.out (by rfl)]; exact ho2, Q.out.fm, Q.out.fc, (Q.out.fd.symm.new Q.out.of hat2).symm, Q.out.mc, (Q.out.md.symm.new Q.out.om hat2).symm, (Q.out.cd.symm.new Q.out.oc hat2).symm, Q.out.kp.grownby hg2 (fun b hb => (Q.out.od.lt b hb).1)⟩
    clear ho2 hg2 hat2 OW FL
    go_wp2_with fail
    go_roundg (gk - 1)
    case measure => omega
    case rel => exact ⟨k + 1, by omega, by go_num, NX.out⟩
   have g93 : ((x : Int) == 93) = false := by simp; omega
   have g94 : ((x : Int) == 94) = false := by simp; omega
   have g45 : ((x : Int) == 45) = false := by simp; omega
   have OW := hid Q.out.om
   have FL := filt_len mid p k
   go_wp2_with (at_builtin; go_must (refine wpList_append_b wr (by rfl) _ _ (by rfl) W1.heap.size u4 x _ (by rfl) OW _ (by rfl) (by rfl) ?h1 ?h2 ?_))
   case h1 => omega
   case h2 => omega
   intro v' w2 ho2 hg2 hat2
   have NX : Hid (Qr p W1 (k + 1) u3 v' u5 u6 w2) := by
    exact ⟨by rw [filt_no _ _ _ _ HX.out (by show (x == 93) = false; simp; omega)]; exact Q.out.of.turn hg2 (fun b hb he => Q.out.fm.symm b he hb), by rw [filt_yes _ _ _ _ HX.out (by show (!(x == 93) && !(x == 94) && !(x == 45)) = true; simp; omega)]; exact ho2, by rw [filt_no _ _ _ _ HX.out (by show (x == 94) = false; simp; omega)]; exact Q.out.oc.turn hg2 (fun b hb he => Q.out.mc b he hb), by rw [filt_no _ _ _ _ HX.out (by show (x == 45) = false; simp; omega)]; exact Q.out.od.turn hg2 (fun b hb he => Q.out.md b he hb), (Q.out.fm.symm.new Q.out.of hat2).symm, Q.out.fc, Q.out.fd, Q.out.mc.new Q.out.oc hat2, Q.out.md.new Q.out.od hat2, Q.out.cd, Q.out.kp.grownby hg2 (fun b hb => (Q.out.om.lt b hb).1)⟩
   clear ho2 hg2 hat2 OW FL
   go_wp2_with fail
   go_roundg (gk - 1)
   case measure => omega
   case rel => exact ⟨k + 1, by omega, by go_num, NX.out⟩
  ·
   have ga : ¬ (k : Int) < (L : Int) := by omega
   have hkL : k = L := by omega
   have tk : (lst p 256).take k = lst p 256 := List.take_of_length_le (by rw [HL.out]; omega)
   have all : ∀ (q : Nat → Bool), ∀ y ∈ ((lst p 256).take k).filter q, y < 256 := fun q y hy => lst_lt p 256 y (List.mem_of_mem_take (List.mem_filter.1 hy).1)
   have c1 := Q.out.of.conv (all _)
   have c2 := Q.out.om.conv (all _)
   have c3 := Q.out.oc.conv (all _)
   have c4 := Q.out.od.conv (all _)
   have z : ∀ (q : Nat → Bool), (bs (u8s (((lst p 256).take k).filter q))).size ≤ 256 := fun q => by rw [bs_size]; unfold u8s; rw [List.length_map]; exact filt_len q p k
   have z1 := z (· == 93)
   have z2 := z mid
   have z3 := z (· == 94)
   have z4 := z (· == 45)
   have E0 : Hid (bs (rowT p) = bs (u8s (((lst p 256).take k).filter (· == 93))) ++ bs (u8s (((lst p 256).take k).filter mid)) ++ bs (u8s (((lst p 256).take k).filter (· == 94))) ++ bs (u8s (((lst p 256).take k).filter (· == 45)))) := by
    show _ = _
    rw [tk, bs_app, bs_app, bs_app]
    rfl
   clear all z tk
   obtain ⟨F, hF⟩ : ∃ F, bs (u8s (((lst p 256).take k).filter (· == 93))) = F := ⟨_, rfl⟩
   obtain ⟨M, hM⟩ : ∃ F, bs (u8s (((lst p 256).take k).filter mid)) = F := ⟨_, rfl⟩
   obtain ⟨C, hC⟩ : ∃ F, bs (u8s (((lst p 256).take k).filter (· == 94))) = F := ⟨_, rfl⟩
   obtain ⟨D, hD⟩ : ∃ F, bs (u8s (((lst p 256).take k).filter (· == 45))) = F := ⟨_, rfl⟩
   rw [hF, hM, hC, hD] at E0
   rw [hF] at c1 z1
   rw [hM] at c2 z2
   rw [hC] at c3 z3
   rw [hD] at c4 z4
   have K2 := hid (K1.out.trans Q.out.kp)
   clear hF hM hC hD hkL
   go_wp2
   go_ret
   exact ⟨by rw [E0.out]; rfl, K2.out⟩
end Go.Proofs.YtikmgckefbjbkaaGreatDoor

/-! ### Text2 -/

namespace Go.Proofs.YtikmgckefbjbkaaGreatDoor
open Go.RowKit

def setRow (p : Nat → Bool) : List UInt8 := if rowT p = [94, 45] then [45, 94] else rowT p
def setT (p : Nat → Bool) (ere : Bool) : List UInt8 :=
 match lst p 256 with
 | [x] => byteT x ere
 | _ => if cnt (notB p) 256 = 0 then [46] else if cnt p 256 > 128 then [91, 94] ++ rowT (notB p) ++ [93] else [91] ++ setRow p ++ [93]
theorem rowT_len (p : Nat → Bool) : (rowT p).length ≤ 1024 := by
 have h := lst_len p 256
 unfold rowT u8s
 simp only [List.length_append, List.length_map]
 have a := List.length_filter_le (· == 93) (lst p 256)
 have b := List.length_filter_le mid (lst p 256)
 have c := List.length_filter_le (· == 94) (lst p 256)
 have d := List.length_filter_le (· == 45) (lst p 256)
 omega
theorem setT_many (p : Nat → Bool) (ere : Bool) (h : cnt p 256 ≠ 1) : setT p ere = if cnt (notB p) 256 = 0 then [46] else if cnt p 256 > 128 then [91, 94] ++ rowT (notB p) ++ [93] else [91] ++ setRow p ++ [93] := by
 unfold setT
 split
 ·
  rename_i x hx
  rw [← lst_length, hx] at h
  exact absurd rfl h
 ·
  rfl
theorem setT_one (p : Nat → Bool) (ere : Bool) (x : Nat) (h : lst p 256 = [x]) : setT p ere = byteT x ere := by unfold setT; rw [h]

set_option maxHeartbeats 2000000 in
set_option maxRecDepth 100000 in
theorem setText_any (p : Nat → Bool) (ere : Bool) (w : World) : Calls Tryz.prog 36 #[sv p, .bool ere] w fun e w' => e = .returned (.string (bs (setT p ere))) ∧ Kp w w' := by
 by_cases h1 : cnt p 256 = 1
 ·
  obtain ⟨x, hx⟩ : ∃ x, lst p 256 = [x] := List.length_eq_one_iff.1 (by rw [lst_length]; exact h1)
  have hx256 : x < 256 := lst_lt p 256 x (by rw [hx]; simp)
  have OY := hid (only_yes p x hx)
  have E : Hid (setT p ere = byteT x ere) := setT_one p ere x hx
  clear hx
  go_enter Tryz.func36, Tryz.ntmps36
  go_wp2_with fail
  refine (OY.out _).mono ?_
  rintro e W1 ⟨rfl, k1⟩
  have K1 : Hid (Kp w W1) := ((Kp.refl _).alloc _).trans k1
  clear k1
  go_wp2_with fail
  refine (byteText_any x hx256 ere _).mono ?_
  rintro e W2 ⟨rfl, k2⟩
  have K2 := hid (K1.out.trans k2)
  clear k2
  go_wp2_with fail
  go_ret
  exact ⟨by rw [E.out]; rfl, K2.out⟩
 have ON := hid (only_no p h1)
 have E0 := hid (setT_many p ere h1)
 go_enter Tryz.func36, Tryz.ntmps36
 go_upto_region 1 with fail
 refine opq (fun W0 => At W0 w.heap.size p ∧ Kp w W0) ⟨by exact At.new _ _, by exact (by repeat (first | exact Kp.refl _ | refine Kp.alloc ?_ _ | refine Kp.drew ?_ | refine Kp.drewN _ ?_))⟩ ?_
 rintro W0 ⟨xA0, xK0⟩
 have A0 : Hid (At W0 w.heap.size p) := xA0
 have K0 : Hid (Kp w W0) := xK0
 clear xA0 xK0
 obtain ⟨x0, x1, x2, x3⟩ := A0.out.cells
 go_wp2_with fail
 refine (ON.out _).mono ?_
 rintro e W1 ⟨rfl, k1⟩
 have A1 := hid (A0.out.kp k1)
 have K1 := hid (K0.out.trans k1)
 clear k1 x0 x1 x2 x3 A0 K0
 obtain ⟨x0, x1, x2, x3⟩ := A1.out.cells
 go_wp2_with fail
 refine (not_any p _).mono ?_
 rintro e W2 ⟨rfl, k2⟩
 have A2 := hid (A1.out.kp k2)
 have K2 := hid (K1.out.trans k2)
 clear k2 x0 x1 x2 x3 A1 K1
 go_upto_region 5 with fail
 refine opq (fun W3 => At W3 w.heap.size p ∧ At W3 W2.heap.size (notB p) ∧ Kp w W3) ⟨by exact A2.out.kp (by repeat (first | exact Kp.refl _ | refine Kp.alloc ?_ _ | refine Kp.drew ?_ | refine Kp.drewN _ ?_)), by exact At.new _ _, by exact K2.out.trans (by repeat (first | exact Kp.refl _ | refine Kp.alloc ?_ _ | refine Kp.drew ?_ | refine Kp.drewN _ ?_))⟩ ?_
 rintro W3 ⟨xA3, xN3, xK3⟩
 have A3 : Hid (At W3 w.heap.size p) := xA3
 have N3 : Hid (At W3 W2.heap.size (notB p)) := xN3
 have K3 : Hid (Kp w W3) := xK3
 clear xA3 xN3 xK3
 clear A2 K2
 obtain ⟨y0, y1, y2, y3⟩ := N3.out.cells
 go_wp2_with fail
 refine (count_any (notB p) _).mono ?_
 rintro e W4 ⟨rfl, k4⟩
 have A4 := hid (A3.out.kp k4)
 have N4 := hid (N3.out.kp k4)
 have K4 := hid (K3.out.trans k4)
 clear k4 y0 y1 y2 y3 A3 N3 K3
 by_cases hn : cnt (notB p) 256 = 0
 ·
  have g0 : ((cnt (notB p) 256 : Int) == 0) = true := by simp; omega
  have g0' : (cnt (notB p) 256 : Int) = 0 := by omega
  have E : Hid (setT p ere = [46]) := by show _ = _; rw [E0.out, if_pos hn]
  clear hn
  go_wp2_with fail
  go_ret
  exact ⟨by rw [E.out]; rfl, K4.out⟩
 have g0 : ((cnt (notB p) 256 : Int) == 0) = false := by simp; omega
 have g0' : ¬ (cnt (notB p) 256 : Int) = 0 := by omega
 obtain ⟨x0, x1, x2, x3⟩ := A4.out.cells
 go_wp2_with fail
 refine (count_any p _).mono ?_
 rintro e W5 ⟨rfl, k5⟩
 have A5 := hid (A4.out.kp k5)
 have N5 := hid (N4.out.kp k5)
 have K5 := hid (K4.out.trans k5)
 clear k5 x0 x1 x2 x3 A4 N4 K4
 by_cases hc : cnt p 256 > 128
 ·
  have gc : (128 : Int) < (cnt p 256 : Int) := by omega
  have hz : (bs (rowT (notB p))).size ≤ 1024 := by rw [bs_size]; exact rowT_len _
  have E : Hid (bs (setT p ere) = bs [91, 94] ++ bs (rowT (notB p)) ++ bs [93]) := by show _ = _; rw [E0.out, if_neg hn, if_pos hc, bs_app, bs_app]
  obtain ⟨T, hT⟩ : ∃ T, bs (rowT (notB p)) = T := ⟨_, rfl⟩
  have HT := hid hT
  rw [hT] at hz E
  clear hT hc hn
  obtain ⟨y0, y1, y2, y3⟩ := N5.out.cells
  go_wp2_with fail
  refine (bracketRow_any (notB p) _).mono ?_
  rintro e W6 ⟨rfl, k6⟩
  rw [HT.out]
  have K6 := hid (K5.out.trans k6)
  clear k6 y0 y1 y2 y3
  go_wp2_with fail
  go_ret
  exact ⟨by rw [E.out]; rfl, K6.out⟩
 have gc : ¬ (128 : Int) < (cnt p 256 : Int) := by omega
 have E1 : Hid (setT p ere = [91] ++ setRow p ++ [93]) := by show _ = _; rw [E0.out, if_neg hn, if_neg hc]
 have hz : (bs (rowT p)).size ≤ 1024 := by rw [bs_size]; exact rowT_len _
 have tl : (bs (rowT p)).toList = rowT p := bs_toList _
 obtain ⟨T, hT⟩ : ∃ T, bs (rowT p) = T := ⟨_, rfl⟩
 have HT := hid hT
 rw [hT] at hz tl
 have TL := hid tl
 clear hT tl hc hn
 obtain ⟨x0, x1, x2, x3⟩ := A5.out.cells
 go_wp2_with fail
 refine (bracketRow_any p _).mono ?_
 rintro e W6 ⟨rfl, k6⟩
 rw [HT.out]
 have K6 := hid (K5.out.trans k6)
 clear k6 x0 x1 x2 x3
 by_cases hr : rowT p = [94, 45]
 ·
  have gt : (T.toList == [94, 45]) = true := by rw [TL.out, hr]; rfl
  have gt' : T.toList = [94, 45] := by rw [TL.out, hr]
  have E : Hid (setT p ere = [91, 45, 94, 93]) := by show _ = _; rw [E1.out]; unfold setRow; rw [if_pos hr]; rfl
  clear hr
  go_wp2_with fail
  go_ret
  exact ⟨by rw [E.out]; rfl, K6.out⟩
 ·
  have gt : (T.toList == [94, 45]) = false := by rw [TL.out]; simpa using hr
  have gt' : ¬ T.toList = [94, 45] := by rw [TL.out]; exact hr
  have E : Hid (bs (setT p ere) = bs [91] ++ T ++ bs [93]) := by show _ = _; rw [E1.out, ← HT.out]; unfold setRow; rw [if_neg hr, bs_app, bs_app]
  clear hr
  go_wp2_with fail
  go_ret
  exact ⟨by rw [E.out]; rfl, K6.out⟩
end Go.Proofs.YtikmgckefbjbkaaGreatDoor

/-! ### RetE -/

namespace Go.Proofs.YtikmgckefbjbkaaGreatDoor
open Go.RowKit

structure RetE (w0 : World) (P : Nat) (s : ByteArray) (ere : Bool) (o : Out) (e : Ending) (w' : World) : Prop where
 ex : ∃ v, e = .returned (.tuple #[v, .int .i64 (o.e : Nat)]) ∧ Ret w0 P s ere o v w'

/-- The answer is laid into its block: then all stands. -/
theorem Ret.fin {w0 w2 w3 : World} {P B : Nat} {s : ByteArray} {ere : Bool} {o : Out} {v : Value} (I : Is w2 (fun b => w0.heap.size ≤ b ∧ b ≠ B) o.r v) (R : Rd w2 P s ere o.st.i o.st.n o.st.g o.st.d) (K : Ks P w0 w2) (k : Ks B w2 w3) (hP : P < w0.heap.size) (hB : w0.heap.size ≤ B) : Ret w0 P s ere o v w3 :=
 ⟨(I.ks k (fun _ hb _ => hb.2)).weak (fun _ hb _ => hb.1), R.ks k (by omega) (by omega), K.off k hB hP⟩

theorem Is.one {w : World} {ok : Nat → Prop} {r : Rx} {v : Value} {C : Nat} (h : Is w ok r v) (hc : CellsAt w C 0 v) (hok : ok C) (hl : C < w.heap.size) (k mn mx n : Int) (s : W4) : Is w ok (.mk k mn mx n s [r]) (rxv k mn mx n s (.slice (some ⟨C, 0, none⟩) 1 1)) := by
 unfold Is
 refine ⟨_, 1, 1, rfl, rfl, Nat.le_refl _, fun _ => ⟨C, 0, rfl, hok, hl, ?_⟩⟩
 unfold IsL
 exact ⟨⟨v, h, hc⟩, by unfold IsL; trivial⟩
theorem cells_new (w : World) (k mn mx m : Int) (t : W4) (ad : Option Addr) (l c : Nat) : CellsAt (w.alloc (rxo k mn mx m t (.slice ad l c))) w.heap.size 0 (rxv k mn mx m t (.slice ad l c)) := by
 intro j u hj
 rw [Nat.zero_add]
 refine bl_cell (last_of w _) j u ?_
 rw [← Array.getElem?_toList]
 exact hj

theorem qs_sz (b : Nat) (ere : Bool) : (qs b ere).2.2 ≤ 2 ∧ ((qs b ere).1 ≠ 0 → (qs b ere).2.2 = 2) := by
 unfold qs
 repeat' split
 all_goals simp
theorem sgn_sz (s : ByteArray) (ere : Bool) (i : Nat) (hi : i ≤ s.size) : i + (sgn s ere i).2.2 ≤ s.size ∧ (sgn s ere i).2.2 ≤ 2 ∧ ((sgn s ere i).1 ≠ 1 → (sgn s ere i).1 ≠ 0 → 1 ≤ (sgn s ere i).2.2) := by
 unfold sgn
 split
 ·
  exact ⟨by simpa using hi, by simp, by simp⟩
 ·
  split
  ·
   unfold quoted
   split
   ·
    exact ⟨by simpa using hi, by simp, by simp⟩
   ·
    rename_i h0
    rw [ext_size s (i + 1) (by omega)] at h0
    have := qs_sz (ch (s.extract (i + 1) s.size) 0) ere
    exact ⟨by omega, this.1, fun _ h => by rw [this.2 h]; omega⟩
  ·
   exact ⟨by simp; omega, by simp, by simp⟩

theorem take_any0 (x y z : Nat) (k mn mx m : Int) (ad : Option Addr) (l c : Nat) (s : ByteArray) (ere : Bool) (i n g d P : Nat) (w : World) (h : Rd w P s ere i n g d) (hi : i ≤ 1000000000) (hz : z ≤ 100) (hn : n ≤ 1000000000) :
  Calls Tryz.prog 91 #[.pointer (some ⟨P, 0, none⟩), .agg #[.int .i64 (x : Int), .int .u8 (y : Int), .int .i64 (z : Int)], .agg #[.int .i64 k, .int .i64 mn, .int .i64 mx, .int .i64 m, .int .u64 0, .int .u64 0, .int .u64 0, .int .u64 0, .slice ad l c]] w fun e w' => e = .returned (.tuple #[.agg #[.int .i64 k, .int .i64 mn, .int .i64 mx, .int .i64 m, .int .u64 0, .int .u64 0, .int .u64 0, .int .u64 0, .slice ad l c], .int .i64 0]) ∧ Rd w' P s ere (i + z) (n + 1) g d ∧ Ks P w w' :=
 take_any x y z k mn mx m W4.z ad l c s ere i n g d P w h hi hz hn
end Go.Proofs.YtikmgckefbjbkaaGreatDoor

/-! ### Same -/

namespace Go.Proofs.YtikmgckefbjbkaaGreatDoor
open Go.RowKit

mutual
def sameR : Rx → Rx → Bool
 | .mk k mn mx n s ks, .mk k' mn' mx' n' s' ks' => k == k' && mn == mn' && mx == mx' && n == n' && s == s' && sameL ks ks'
def sameL : List Rx → List Rx → Bool
 | [], [] => true
 | a :: xs, b :: ys => sameR a b && sameL xs ys
 | _, _ => false
end

theorem cells_of_is {w : World} {b o : Nat} {k mn mx m : Int} {t : W4} {ad : Option Addr} {l c : Nat} (h : CellsAt w b o (rxv k mn mx m t (.slice ad l c))) : w.cell? ⟨b, o, none⟩ = some (.int .i64 k) ∧ w.cell? ⟨b, o + 1, none⟩ = some (.int .i64 mn) ∧ w.cell? ⟨b, o + 2, none⟩ = some (.int .i64 mx) ∧ w.cell? ⟨b, o + 3, none⟩ = some (.int .i64 m) ∧ w.cell? ⟨b, o + 4, none⟩ = some (.int .u64 (t.a : Int)) ∧ w.cell? ⟨b, o + 5, none⟩ = some (.int .u64 (t.b : Int)) ∧ w.cell? ⟨b, o + 6, none⟩ = some (.int .u64 (t.c : Int)) ∧ w.cell? ⟨b, o + 7, none⟩ = some (.int .u64 (t.d : Int)) ∧ w.cell? ⟨b, o + 8, none⟩ = some (.slice ad l c) :=
 ⟨h 0 _ rfl, h 1 _ rfl, h 2 _ rfl, h 3 _ rfl, h 4 _ rfl, h 5 _ rfl, h 6 _ rfl, h 7 _ rfl, h 8 _ rfl⟩

theorem eq_vv (a b c d a' b' c' d' : Int) (w : World) :
  (Op.equalIn 10000 24 (.agg #[.int .u64 a, .int .u64 b, .int .u64 c, .int .u64 d]) (.agg #[.int .u64 a', .int .u64 b', .int .u64 c', .int .u64 d'])).run Tryz.prog w = .ok (a == a' && (b == b' && (c == c' && d == d'))) w := by
 have u3 := Tryz.underlying22
 have a3 := Tryz.isAgg22
 have z3 := Tryz.sizeOf22
 rw [show (10000 : Nat) = 9999 + 1 from rfl, Op.equalIn]
 simp only [Sem.run_bind, run_underlying Tryz.underlying24, Result.andThen_ok]
 simp only [Std.Legacy.Range.forIn_eq_forIn_range', Std.Legacy.Range.size, Nat.sub_zero, Nat.add_sub_cancel, Nat.div_one, List.range'_succ, List.range'_zero, List.forIn_cons, List.forIn_nil]
 go_simp
 by_cases h1 : a = a' <;> by_cases h2 : b = b' <;> by_cases h3 : c = c' <;> by_cases h4 : d = d' <;> simp [h1, h2, h3, h4]
theorem w4_eq (t u : W4) : (t == u) = (((t.a : Int) == (u.a : Int)) && (((t.b : Int) == (u.b : Int)) && (((t.c : Int) == (u.c : Int)) && ((t.d : Int) == (u.d : Int))))) := by
 cases t with
 | mk a b c d =>
  cases u with
  | mk a' b' c' d' =>
   rw [Bool.eq_iff_iff]
   simp
   omega

structure SameSaid (a : Rx) : Prop where
 all : ∀ (b : Rx) (va vb : Value) (w : World) (ok ok' : Nat → Prop), Is w ok a va → Is w ok' b vb → Calls Tryz.prog 16 #[va, vb] w fun e w' => e = .returned (.bool (sameR a b)) ∧ Kp w w'

/-- The row of a tree's kids, as it lies. -/
structure RowAt (w : World) (ok : Nat → Prop) (ts : List Rx) (ad : Option Addr) (l c : Nat) : Prop where
 ln : l = ts.length
 cp : l ≤ c
 ex : ts ≠ [] → ∃ b o, ad = some ⟨b, o, none⟩ ∧ ok b ∧ b < w.heap.size ∧ IsL w ok ts b o
theorem RowAt.kp {w w' : World} {ok : Nat → Prop} {ts : List Rx} {ad : Option Addr} {l c : Nat} (h : RowAt w ok ts ad l c) (k : Kp w w') : RowAt w' ok ts ad l c :=
 ⟨h.ln, h.cp, fun hn => by
  obtain ⟨b, o, h1, h2, h3, h4⟩ := h.ex hn
  exact ⟨b, o, h1, h2, Nat.lt_of_lt_of_le h3 k.size, IsL.turn k.size (fun b hb hl => ⟨hb, k.block b hl⟩) ts b o (k.block b h3) h4⟩⟩
theorem Is.row {w : World} {ok : Nat → Prop} {k mn mx n : Int} {s : W4} {kids : List Rx} {v : Value} (h : Is w ok (.mk k mn mx n s kids) v) : ∃ ad l c, v = rxv k mn mx n s (.slice ad l c) ∧ RowAt w ok kids ad l c := by
 unfold Is at h
 obtain ⟨ad, l, c, h1, h2, h3, h4⟩ := h
 exact ⟨ad, l, c, h1, h2, h3, h4⟩
theorem RowAt.at {w : World} {ok : Nat → Prop} {ts : List Rx} {ad : Option Addr} {l c : Nat} (h : RowAt w ok ts ad l c) (j : Nat) (t : Rx) (hj : ts[j]? = some t) : ∃ b o k mn mx m s ad' l' c', ad = some ⟨b, o, none⟩ ∧ b < w.heap.size ∧ Is w ok t (rxv k mn mx m s (.slice ad' l' c')) ∧ CellsAt w b (o + j * 9) (rxv k mn mx m s (.slice ad' l' c')) := by
 obtain ⟨b, o, h1, h2, h3, h4⟩ := h.ex (by intro hn; rw [hn] at hj; simp at hj)
 obtain ⟨v, hi, hc⟩ := h4.get j t hj
 rw [Nat.mul_comm] at hc
 obtain ⟨k, mn, mx, m, s, ad', l', c', rfl⟩ := hi.form
 exact ⟨b, o, k, mn, mx, m, s, ad', l', c', h1, h3, hi, hc⟩

theorem sameL_len : ∀ (xs ys : List Rx), xs.length ≠ ys.length → sameL xs ys = false
 | [], [], h => absurd rfl h
 | [], _ :: _, _ => by simp [sameL]
 | _ :: _, [], _ => by simp [sameL]
 | a :: xs, b :: ys, h => by
  rw [sameL, sameL_len xs ys (by simpa using h), Bool.and_false]
theorem sameL_all : ∀ (xs ys : List Rx), xs.length = ys.length → (∀ (j : Nat) a b, xs[j]? = some a → ys[j]? = some b → sameR a b = true) → sameL xs ys = true
 | [], [], _, _ => by simp [sameL]
 | [], _ :: _, h, _ => by simp at h
 | _ :: _, [], h, _ => by simp at h
 | a :: xs, b :: ys, h, hs => by
  rw [sameL, hs 0 a b rfl rfl, sameL_all xs ys (by simpa using h) (fun j c d hc hd => hs (j + 1) c d (by simpa using hc) (by simpa using hd))]
  rfl
theorem sameL_not : ∀ (xs ys : List Rx) (j : Nat) (a b : Rx), xs[j]? = some a → ys[j]? = some b → sameR a b = false → sameL xs ys = false
 | [], _, j, a, b, h, _, _ => by simp at h
 | _ :: _, [], j, a, b, _, h, _ => by simp at h
 | x :: xs, y :: ys, 0, a, b, h1, h2, h => by
  simp at h1 h2
  subst h1; subst h2
  rw [sameL, h, Bool.false_and]
 | x :: xs, y :: ys, j + 1, a, b, h1, h2, h => by
  rw [sameL, sameL_not xs ys j a b (by simpa using h1) (by simpa using h2) h, Bool.and_false]

set_option maxHeartbeats 2000000 in
set_option maxRecDepth 100000 in
theorem equal_any (xs ys : List Rx) (H : ∀ a, a ∈ xs → SameSaid a) (ok ok' : Nat → Prop) (ad ad' : Option Addr) (l c l' c' : Nat) (w : World) (h1 : RowAt w ok xs ad l c) (h2 : RowAt w ok' ys ad' l' c') (hl : xs.length ≤ 1000000) :
  Calls Tryz.prog 33 #[.slice ad l c, .slice ad' l' c', .func (.func 16) #[] #[]] w fun e w' => e = .returned (.bool (sameL xs ys)) ∧ Kp w w' := by
 have e1 := h1.ln
 have e2 := h2.ln
 subst e1
 subst e2
 have hlc := h1.cp
 have hlc' := h2.cp
 have R1 := hid h1
 have R2 := hid h2
 have HH := hid H
 clear h1 h2 H
 by_cases hne : xs.length = ys.length
 ·
  obtain ⟨L, hL1⟩ : ∃ L, xs.length = L := ⟨_, rfl⟩
  have hL2 : ys.length = L := hne.symm.trans hL1
  rw [hL1] at R1 hlc hl ⊢
  rw [hL2] at R2 hlc' ⊢
  have HL1 := hid hL1
  have HL2 := hid hL2
  have HNE := hid hne
  clear hL1 hL2 hne
  go_enter Tryz.func33, Tryz.ntmps33
  go_wp2_with fail
  go_loopg [17] L (fun gg v wr => ∃ k : Nat, k + gg = L ∧ v = .int .i64 (k : Int) ∧ (∀ (j : Nat) a b, j < k → xs[j]? = some a → ys[j]? = some b → sameR a b = true) ∧ Kp w wr)
  case atStart => exact ⟨0, by omega, rfl, fun j a b hj => absurd hj (by omega), Kp.refl _⟩
  case round =>
   obtain ⟨k, hk, rfl, hall, hK⟩ := hrel
   have HA := hid hall
   have K0 := hid hK
   clear hall hK
   by_cases hlt : k < L
   ·
    have gkw : IntKind.i64.wrap ((k : Int) + 1) = (k : Int) + 1 := by rw [IntKind.wrap_i64]; omega
    have ga : (k : Int) < (L : Int) := by omega
    have g0 : (0 : Int) ≤ (k : Int) := by omega
    obtain ⟨a, ha⟩ : ∃ a, xs[k]? = some a := ⟨_, List.getElem?_eq_getElem (by rw [HL1.out]; exact hlt)⟩
    obtain ⟨b, hb⟩ : ∃ b, ys[k]? = some b := ⟨_, List.getElem?_eq_getElem (by rw [HL2.out]; exact hlt)⟩
    obtain ⟨bb1, o1, k1, mn1, mx1, m1, s1, ad1, l1, c1, e1, hb1, i1, ce1⟩ := (R1.out.kp K0.out).at k a ha
    obtain ⟨bb2, o2, k2, mn2, mx2, m2, s2, ad2, l2, c2, e2, hb2, i2, ce2⟩ := (R2.out.kp K0.out).at k b hb
    subst e1
    subst e2
    have SA := hid ((HH.out a (List.mem_of_getElem? ha)).all b (rxv k1 mn1 mx1 m1 s1 (.slice ad1 l1 c1)) (rxv k2 mn2 mx2 m2 s2 (.slice ad2 l2 c2)))
    have HXA := hid ha
    have HXB := hid hb
    have I1 := hid i1
    have I2 := hid i2
    have CE1 := hid ce1
    have CE2 := hid ce2
    clear ha hb i1 i2 ce1 ce2
    obtain ⟨x0, x1, x2, x3, x4, x5, x6, x7, x8⟩ := cells_of_is CE1.out
    go_upto_region 6 with fail
    clear x0 x1 x2 x3 x4 x5 x6 x7 x8
    refine opq (fun W => W.heap[wr.heap.size]? = some (rxo k1 mn1 mx1 m1 s1 (.slice ad1 l1 c1)) ∧ Kp wr W) ⟨by exact last_at _ _ _ (by simp), by exact (Kp.refl _).alloc _⟩ ?_
    rintro W1 ⟨y1, y2⟩
    have A1 := hid y1
    have K1 := hid y2
    clear y1 y2
    have CE3 := hid (CE2.out.turn (K1.out.block _ hb2))
    obtain ⟨x0, x1, x2, x3, x4, x5, x6, x7, x8⟩ := cells_of_is CE3.out
    go_upto_region 7 with fail
    clear x0 x1 x2 x3 x4 x5 x6 x7 x8
    refine opq (fun W => W.heap[wr.heap.size]? = some (rxo k1 mn1 mx1 m1 s1 (.slice ad1 l1 c1)) ∧ W.heap[W1.heap.size]? = some (rxo k2 mn2 mx2 m2 s2 (.slice ad2 l2 c2)) ∧ Kp wr W) ⟨by exact bl_alloc A1.out _, by exact last_at _ _ _ (by simp), by exact K1.out.alloc _⟩ ?_
    rintro W2 ⟨y1, y2, y3⟩
    have A2 := hid y1
    have B2 := hid y2
    have K2 := hid y3
    clear y1 y2 y3 A1 K1 CE1 CE2 CE3
    obtain ⟨a0, a1, a2, a3, a4, a5, a6, a7, a8⟩ := cells9c A2.out
    obtain ⟨b0, b1, b2, b3, b4, b5, b6, b7, b8⟩ := cells9c B2.out
    go_wp2_with fail
    clear a0 a1 a2 a3 a4 a5 a6 a7 a8 b0 b1 b2 b3 b4 b5 b6 b7 b8
    refine (SA.out _ ok ok' (I1.out.kp K2.out) (I2.out.kp K2.out)).mono ?_
    rintro e W3 ⟨rfl, k3⟩
    have K3 := hid (K0.out.trans (K2.out.trans k3))
    clear k3
    cases hsm : sameR a b with
    | false =>
     have E : Hid (sameL xs ys = false) := sameL_not xs ys k a b HXA.out HXB.out hsm
     clear hsm
     go_wp2_with fail
     go_ret
     exact ⟨ret_bool E.out.symm, K3.out⟩
    | true =>
     have NX : Hid (∀ (j : Nat) a b, j < k + 1 → xs[j]? = some a → ys[j]? = some b → sameR a b = true) := by
      intro j a' b' hj h1 h2
      by_cases hjk : j < k
      ·
       exact HA.out j a' b' hjk h1 h2
      ·
       obtain rfl : j = k := by omega
       have e1 := HXA.out.symm.trans h1
       have e2 := HXB.out.symm.trans h2
       injection e1 with e1
       injection e2 with e2
       subst e1
       subst e2
       exact hsm
     clear hsm
     go_wp2_with fail
     go_roundg (gk - 1)
     case measure => omega
     case rel => exact ⟨k + 1, by omega, by go_num, NX.out, K3.out⟩
   ·
    have ga : ¬ (k : Int) < (L : Int) := by omega
    have E : Hid (sameL xs ys = true) := sameL_all xs ys HNE.out (fun j a b h1 h2 => HA.out j a b (by have := (List.getElem?_eq_some_iff.1 h1).1; rw [HL1.out] at this; omega) h1 h2)
    go_wp2
    go_ret
    exact ⟨ret_bool E.out.symm, K0.out⟩
 ·
  have gn : ((xs.length : Int) != (ys.length : Int)) = true := by simp; omega
  have E : Hid (sameL xs ys = false) := sameL_len xs ys hne
  go_enter Tryz.func33, Tryz.ntmps33
  go_wp2
  go_ret
  exact ⟨ret_bool E.out.symm, Kp.refl _⟩

set_option maxHeartbeats 2000000 in
set_option maxRecDepth 100000 in
theorem same_step (k mn mx n : Int) (s : W4) (kids : List Rx) (H : ∀ a, a ∈ kids → SameSaid a) (hl : kids.length ≤ 1000000) : SameSaid (.mk k mn mx n s kids) := by
 refine ⟨fun b va vb w ok ok' hia hib => ?_⟩
 cases b with
 | mk k' mn' mx' n' s' kids' =>
  obtain ⟨ad, l, c, rfl, ra⟩ := hia.row
  obtain ⟨ad', l', c', rfl, rb⟩ := hib.row
  have RA := hid ra
  have RB := hid rb
  have HH := hid H
  clear ra rb hia hib H
  have e0 : Hid (sameR (.mk k mn mx n s kids) (.mk k' mn' mx' n' s' kids') = (k == k' && mn == mn' && mx == mx' && n == n' && s == s' && sameL kids kids')) := by show _ = _; rw [sameR]
  have es : ∀ w, (Op.equalIn 10000 24 (.agg #[.int .u64 (s.a : Int), .int .u64 (s.b : Int), .int .u64 (s.c : Int), .int .u64 (s.d : Int)]) (.agg #[.int .u64 (s'.a : Int), .int .u64 (s'.b : Int), .int .u64 (s'.c : Int), .int .u64 (s'.d : Int)])).run Tryz.prog w = .ok (s == s') w := fun w => by rw [eq_vv, w4_eq]
  obtain ⟨q5, hq5⟩ : ∃ q, (s == s') = q := ⟨_, rfl⟩
  rw [hq5] at es e0
  clear hq5
  go_enter Tryz.func16, Tryz.ntmps16
  go_upto_region 1 with fail
  refine opq (fun W => W.heap[w.heap.size]? = some (rxo k mn mx n s (.slice ad l c)) ∧ W.heap[w.heap.size + 1]? = some (rxo k' mn' mx' n' s' (.slice ad' l' c')) ∧ Kp w W) ⟨by exact bl_alloc (last_of _ _) _, by exact last_at _ _ _ (by simp), by exact ((Kp.refl _).alloc _).alloc _⟩ ?_
  rintro W0 ⟨y1, y2, y3⟩
  have A := hid y1
  have B := hid y2
  have K := hid y3
  clear y1 y2 y3
  obtain ⟨a0, a1, a2, a3, a4, a5, a6, a7, a8⟩ := cells9c A.out
  obtain ⟨b0, b1, b2, b3, b4, b5, b6, b7, b8⟩ := cells9c B.out
  cases h1 : (k == k') with
  | false =>
   have E : Hid (sameR (.mk k mn mx n s kids) (.mk k' mn' mx' n' s' kids') = false) := by show _ = _; rw [e0.out]; simp [h1]
   go_wp2
   go_ret
   exact ⟨ret_bool E.out.symm, K.out⟩
  | true =>
  cases h2 : (mn == mn') with
  | false =>
   have E : Hid (sameR (.mk k mn mx n s kids) (.mk k' mn' mx' n' s' kids') = false) := by show _ = _; rw [e0.out]; simp [h2]
   go_wp2
   go_ret
   exact ⟨ret_bool E.out.symm, K.out⟩
  | true =>
  cases h3 : (mx == mx') with
  | false =>
   have E : Hid (sameR (.mk k mn mx n s kids) (.mk k' mn' mx' n' s' kids') = false) := by show _ = _; rw [e0.out]; simp [h3]
   go_wp2
   go_ret
   exact ⟨ret_bool E.out.symm, K.out⟩
  | true =>
  cases h4 : (n == n') with
  | false =>
   have E : Hid (sameR (.mk k mn mx n s kids) (.mk k' mn' mx' n' s' kids') = false) := by show _ = _; rw [e0.out]; simp [h4]
   go_wp2
   go_ret
   exact ⟨ret_bool E.out.symm, K.out⟩
  | true =>
  cases q5 with
  | false =>
   have E : Hid (sameR (.mk k mn mx n s kids) (.mk k' mn' mx' n' s' kids') = false) := by show _ = _; rw [e0.out]; simp
   go_wp2
   go_ret
   exact ⟨ret_bool E.out.symm, K.out⟩
  | true =>
  have E : Hid (sameR (.mk k mn mx n s kids) (.mk k' mn' mx' n' s' kids') = sameL kids kids') := by show _ = _; rw [e0.out]; simp [h1, h2, h3, h4]
  go_wp2_with fail
  refine (equal_any kids kids' HH.out ok ok' ad ad' l c l' c' _ (RA.out.kp K.out) (RB.out.kp K.out) hl).mono ?_
  rintro e W1 ⟨rfl, k1⟩
  have K1 := hid (K.out.trans k1)
  clear k1
  go_wp2_with fail
  go_ret
  exact ⟨ret_bool E.out.symm, K1.out⟩

/-- No row of kids is longer than that. -/
def RxFit : Rx → Prop
 | .mk _ _ _ _ _ kids => kids.length ≤ 1000000 ∧ ∀ a, a ∈ kids → RxFit a
termination_by r => SizeOf.sizeOf r
decreasing_by
 have := List.sizeOf_lt_of_mem (by assumption)
 simp
 omega
theorem same_all : ∀ a, RxFit a → SameSaid a
 | .mk k mn mx n s kids, h => by
  unfold RxFit at h
  exact same_step k mn mx n s kids (fun a ha => same_all a (h.2 a ha)) h.1
termination_by a => SizeOf.sizeOf a
decreasing_by
 have := List.sizeOf_lt_of_mem ha
 simp
 omega
theorem same_any (a b : Rx) (va vb : Value) (w : World) (ok ok' : Nat → Prop) (hf : RxFit a) (ha : Is w ok a va) (hb : Is w ok' b vb) : Calls Tryz.prog 16 #[va, vb] w fun e w' => e = .returned (.bool (sameR a b)) ∧ Kp w w' := (same_all a hf).all b va vb w ok ok' ha hb
end Go.Proofs.YtikmgckefbjbkaaGreatDoor

/-! ### Chk -/

namespace Go.Proofs.YtikmgckefbjbkaaGreatDoor
open Go.RowKit

def kidsFit (k : Int) (n : Nat) : Bool := if k = 2 then n != 1 else if k = 3 then decide (2 ≤ n) else if k = 4 ∨ k = 5 then n == 1 else n == 0
def leanB : Rx → Bool
 | .mk k mn mx n s kids => (if k = 4 then true else mn == 0 && mx == 0) && (if k = 5 ∨ k = 6 then true else n == 0) && (if k = 1 then true else s == W4.z) && kidsFit k kids.length
def W4.bit (s : W4) : Nat → Bool := bitOf s.a s.b s.c s.d

structure Ck where
 n : Nat
 g : Nat
 d : Nat
mutual
/-- May it be? Then how far the counts are. -/
def chk (ere : Bool) : Rx → Bool → Bool → Ck → Option Ck
 | .mk k mn mx n s kids, b, e, c =>
  if c.n + 1 > 40 ∨ leanB (.mk k mn mx n s kids) = false then none
  else if k = 1 then (if cnt (W4.bit s) 256 > 0 then some ⟨c.n + 1, c.g, c.d⟩ else none)
  else if k = 2 then chkCat ere kids true ⟨c.n + 1, c.g, c.d⟩
  else if k = 3 then (if ere then chkAlt ere kids ⟨c.n + 1, c.g, c.d⟩ else none)
  else if k = 4 then (if timesFit mn mx then chkRep ere kids ⟨c.n + 1, c.g, c.d⟩ else none)
  else if k = 5 then (if n ≠ (c.g + 1 : Nat) ∨ c.g + 1 > 3 ∨ c.d = 6 then none else chkGroup ere kids ⟨c.n + 1, c.g + 1, c.d + 1⟩)
  else if k = 6 then (if 1 ≤ n ∧ n ≤ (c.g : Int) then some ⟨c.n + 1, c.g, c.d⟩ else none)
  else if k = 7 then (if ere || b then some ⟨c.n + 1, c.g, c.d⟩ else none)
  else if k = 8 then (if ere || e then some ⟨c.n + 1, c.g, c.d⟩ else none)
  else none
def chkCat (ere : Bool) : List Rx → Bool → Ck → Option Ck
 | [], _, c => some c
 | r :: rs, first, c => if r.k = 2 ∨ r.k = 3 then none else match chk ere r first rs.isEmpty c with
  | none => none
  | some c' => chkCat ere rs false c'
def chkAlt (ere : Bool) : List Rx → Ck → Option Ck
 | [], c => some c
 | r :: rs, c => if r.k = 3 then none else match chk ere r false false c with
  | none => none
  | some c' => chkAlt ere rs c'
def chkRep (ere : Bool) : List Rx → Ck → Option Ck
 | r :: _, c => if mayRep r.k then chk ere r false false c else none
 | [], _ => none
def chkGroup (ere : Bool) : List Rx → Ck → Option Ck
 | r :: _, c => match chk ere r true true c with
  | none => none
  | some c' => some ⟨c'.n, c'.g, c'.d - 1⟩
 | [], _ => none
end
def right (ere : Bool) (r : Rx) : Bool := (chk ere r true true ⟨0, 0, 0⟩).isSome

/-- The checker's block. -/
abbrev cko (ere : Bool) (n g d : Nat) : Obj := .cells #[.bool ere, .int .i64 (n : Int), .int .i64 (g : Int), .int .i64 (d : Int)] 70
def Cb (w : World) (C : Nat) (ere : Bool) (n g d : Nat) : Prop := w.heap[C]? = some (cko ere n g d)
theorem Cb.kp {w w' : World} {C : Nat} {ere : Bool} {n g d : Nat} (h : Cb w C ere n g d) (k : Kp w w') : Cb w' C ere n g d := bl_kp h k
theorem Cb.cells {w : World} {C : Nat} {ere : Bool} {n g d : Nat} (h : Cb w C ere n g d) : w.cell? ⟨C, 0, none⟩ = some (.bool ere) ∧ w.cell? ⟨C, 1, none⟩ = some (.int .i64 (n : Int)) ∧ w.cell? ⟨C, 2, none⟩ = some (.int .i64 (g : Int)) ∧ w.cell? ⟨C, 3, none⟩ = some (.int .i64 (d : Int)) := ⟨bl_cell h 0 _ rfl, bl_cell h 1 _ rfl, bl_cell h 2 _ rfl, bl_cell h 3 _ rfl⟩
/-- What a check leaves: the answer, and the counts where it is yes. -/
structure Ckd (C : Nat) (ere : Bool) (d0 : Nat) (o : Option Ck) (w : World) (e : Ending) (w' : World) : Prop where
 ex : ∃ ok, e = .returned (.bool ok) ∧ ok = o.isSome ∧ (∃ n g d, Cb w' C ere n g d ∧ n ≤ 41 ∧ g ≤ 41 ∧ d ≤ 7 ∧ d0 ≤ d ∧ ∀ c, o = some c → n = c.n ∧ g = c.g ∧ d = c.d) ∧ Ks C w w'
/-- What is asked of the check of a tree. -/
structure RightSaid (ere : Bool) (r : Rx) : Prop where
 all : ∀ (C : Nat) (ok : Nat → Prop) (v : Value) (b e : Bool) (n g d : Nat) (w : World), Is w ok r v → (∀ x, ok x → x ≠ C) → Cb w C ere n g d → n ≤ 40 → g ≤ n → d ≤ 6 → Calls Tryz.prog 32 #[.pointer (some ⟨C, 0, none⟩), v, .agg #[.bool b, .bool e]] w fun e' w' => Ckd C ere d (chk ere r b e ⟨n, g, d⟩) w e' w'

set_option maxHeartbeats 2000000 in
set_option maxRecDepth 100000 in
theorem kidsFit_any (k : Int) (n : Nat) (w : World) : Calls Tryz.prog 63 #[.int .i64 k, .int .i64 (n : Int)] w fun e w' => e = .returned (.bool (kidsFit k n)) ∧ w' = w := by
 have fin : ∀ (a b : Bool), a = b → Ending.returned (.bool a) = .returned (.bool b) := fun a b h => by rw [h]
 have FIN := hid fin
 clear fin
 by_cases k2 : k = 2
 ·
  subst k2
  have E : Hid (((n : Int) != 1) = kidsFit 2 n) := by
   show _ = _
   rw [show kidsFit 2 n = (n != 1) from rfl]
   rw [Bool.eq_iff_iff]; simp; omega
  go_enter Tryz.func63, Tryz.ntmps63
  go_wp2
  go_ret
  exact ⟨FIN.out _ _ E.out, rfl⟩
 by_cases k3 : k = 3
 ·
  subst k3
  have E : Hid ((decide (2 ≤ (n : Int))) = kidsFit 3 n) := by
   show _ = _
   rw [show kidsFit 3 n = (decide (2 ≤ n)) from rfl]
   rw [Bool.eq_iff_iff]; simp; omega
  go_enter Tryz.func63, Tryz.ntmps63
  go_wp2
  go_ret
  exact ⟨FIN.out _ _ E.out, rfl⟩
 by_cases k4 : k = 4
 ·
  subst k4
  have E : Hid (((n : Int) == 1) = kidsFit 4 n) := by
   show _ = _
   rw [show kidsFit 4 n = (n == 1) from rfl]
   rw [Bool.eq_iff_iff]; simp; omega
  go_enter Tryz.func63, Tryz.ntmps63
  go_wp2
  go_ret
  exact ⟨FIN.out _ _ E.out, rfl⟩
 by_cases k5 : k = 5
 ·
  subst k5
  have E : Hid (((n : Int) == 1) = kidsFit 5 n) := by
   show _ = _
   rw [show kidsFit 5 n = (n == 1) from rfl]
   rw [Bool.eq_iff_iff]; simp; omega
  go_enter Tryz.func63, Tryz.ntmps63
  go_wp2
  go_ret
  exact ⟨FIN.out _ _ E.out, rfl⟩
 have g2 : (k == 2) = false := by simp [k2]
 have g3 : (k == 3) = false := by simp [k3]
 have g4 : (k == 4) = false := by simp [k4]
 have g5 : (k == 5) = false := by simp [k5]
 have E : Hid (((n : Int) == 0) = kidsFit k n) := by
  show _ = _
  unfold kidsFit
  rw [if_neg k2, if_neg k3, if_neg (by omega)]
  rw [Bool.eq_iff_iff]; simp
 go_enter Tryz.func63, Tryz.ntmps63
 go_wp2
 go_ret
 exact ⟨FIN.out _ _ E.out, rfl⟩
end Go.Proofs.YtikmgckefbjbkaaGreatDoor

/-! ### Lean2 -/

namespace Go.Proofs.YtikmgckefbjbkaaGreatDoor
open Go.RowKit

theorem fit_nil (k mn mx n : Int) (s : W4) : RxFit (.mk k mn mx n s []) := by
 unfold RxFit
 exact ⟨by simp, fun a ha => by simp at ha⟩
theorem same_bare (k mn mx n mn' mx' n' : Int) (s s' : W4) (q : Bool) (hq : (mn == mn' && mx == mx' && n == n' && s == s') = q) (w : World) : Calls Tryz.prog 16 #[rxv k mn mx n s (.slice none 0 0), rxv k mn' mx' n' s' (.slice none 0 0)] w fun e w' => e = .returned (.bool q) ∧ Kp w w' := by
 have := same_any (.mk k mn mx n s []) (.mk k mn' mx' n' s' []) _ _ w (fun _ => True) (fun _ => True) (fit_nil _ _ _ _ _) (Is.leaf _ _ _ _ _ _ _) (Is.leaf _ _ _ _ _ _ _)
 rw [sameR, sameL] at this
 rw [show (k == k && mn == mn' && mx == mx' && n == n' && s == s' && true) = q by rw [← hq]; simp] at this
 exact this

set_option maxHeartbeats 2000000 in
set_option maxRecDepth 100000 in
theorem lean_any (k mn mx m : Int) (t : W4) (kids : List Rx) (ad : Option Addr) (l c : Nat) (w : World) (hl : l = kids.length) :
  Calls Tryz.prog 44 #[rxv k mn mx m t (.slice ad l c)] w fun e w' => e = .returned (.bool (leanB (.mk k mn mx m t kids))) ∧ Kp w w' := by
 have E0 : Hid (leanB (.mk k mn mx m t kids) = ((if k = 4 then true else mn == 0 && mx == 0) && (if k = 5 ∨ k = 6 then true else m == 0) && (if k = 1 then true else t == W4.z) && kidsFit k l)) := by show _ = _; rw [hl]; rfl
 clear hl
 obtain ⟨kf, hkf⟩ : ∃ kf, kidsFit k l = kf := ⟨_, rfl⟩
 have KF : Hid (∀ w, Calls Tryz.prog 63 #[.int .i64 k, .int .i64 (l : Int)] w fun e w' => e = .returned (.bool kf) ∧ w' = w) := fun w => by have := kidsFit_any k l w; rw [hkf] at this; exact this
 rw [hkf] at E0
 clear hkf
 go_enter Tryz.func44, Tryz.ntmps44
 go_upto_region 1 with fail
 refine opq (fun V0 => V0.heap[w.heap.size]? = some (rxo k mn mx m t (.slice ad l c)) ∧ Kp w V0) ⟨by (first | exact last_at _ _ _ (by simp) | (refine bl_alloc ?_ _; first | exact last_at _ _ _ (by simp) | (refine bl_alloc ?_ _; first | exact last_at _ _ _ (by simp) | (refine bl_alloc ?_ _; exact last_at _ _ _ (by simp))))), by exact (by repeat (first | exact Kp.refl _ | refine Kp.alloc ?_ _ | refine Kp.drew ?_ | refine Kp.drewN _ ?_))⟩ ?_
 rintro V0 ⟨xA, xK⟩
 have A : Hid (V0.heap[w.heap.size]? = some (rxo k mn mx m t (.slice ad l c))) := xA
 have K : Hid (Kp w V0) := xK
 clear xA xK
 obtain ⟨a0, a1, a2, a3, a4, a5, a6, a7, a8⟩ := cells9c A.out
 go_upto_region 2 with fail
 clear a0 a1 a2 a3 a4 a5 a6 a7 a8
 refine opq (fun W0 => W0.heap[w.heap.size]? = some (rxo k mn mx m t (.slice ad l c)) ∧ W0.heap[V0.heap.size]? = some (rxo k 0 0 0 W4.z (.slice none 0 0)) ∧ Kp w W0) ⟨by exact bl_kp A.out (by repeat (first | exact Kp.refl _ | refine Kp.alloc ?_ _ | refine Kp.drew ?_ | refine Kp.drewN _ ?_)), by exact last_at _ _ _ (by simp), by exact K.out.trans (by repeat (first | exact Kp.refl _ | refine Kp.alloc ?_ _ | refine Kp.drew ?_ | refine Kp.drewN _ ?_))⟩ ?_
 rintro W0 ⟨xA0, xB0, xK0⟩
 have A0 : Hid (W0.heap[w.heap.size]? = some (rxo k mn mx m t (.slice ad l c))) := xA0
 have B0 : Hid (W0.heap[V0.heap.size]? = some (rxo k 0 0 0 W4.z (.slice none 0 0))) := xB0
 have K0 : Hid (Kp w W0) := xK0
 clear xA0 xB0 xK0
 have hsV : w.heap.size < V0.heap.size := bl_lt A.out
 clear A K
 by_cases k1 : k = 1
 ·
  subst k1
  obtain ⟨sm, hsm⟩ : ∃ sm, (mn == 0 && mx == 0 && m == 0 && t == t) = sm := ⟨_, rfl⟩
  have SB := hid (same_bare 1 mn mx m 0 0 0 t t sm hsm)
  have E : Hid (leanB (.mk 1 mn mx m t kids) = (sm && kf)) := by show _ = _; rw [E0.out, ← hsm]; (first | (simp; done) | (simp; cases mn == 0 <;> cases mx == 0 <;> cases m == 0 <;> rfl))
  clear hsm
  obtain ⟨a0, a1, a2, a3, a4, a5, a6, a7, a8⟩ := cells9c A0.out
  obtain ⟨b0, fb0, b1, fb1, b2, fb2, b3, fb3, b4, fb4, b5, fb5, b6, fb6, b7, fb7, b8, fb8⟩ := cells9 B0.out
  go_upto_region 10 with fail
  clear a0 a1 a2 a3 a4 a5 a6 a7 a8 b0 fb0 b1 fb1 b2 fb2 b3 fb3 b4 fb4 b5 fb5 b6 fb6 b7 fb7 b8 fb8
  refine opq (fun W1 => W1.heap[w.heap.size]? = some (rxo 1 mn mx m t (.slice ad l c)) ∧ W1.heap[V0.heap.size]? = some (rxo 1 0 0 0 t (.slice none 0 0)) ∧ Kp w W1) ⟨by exact bl_set (bl_set (bl_set (bl_set A0.out (by omega) _) (by omega) _) (by omega) _) (by omega) _, by exact bl_put (bl_put (bl_put (bl_put B0.out _) _) _) _, by exact (((K0.out.setCell (Nat.le_of_lt hsV) _).setCell (Nat.le_of_lt hsV) _).setCell (Nat.le_of_lt hsV) _).setCell (Nat.le_of_lt hsV) _⟩ ?_
  rintro W1 ⟨xA1, xB1, xK1⟩
  have A1 : Hid (W1.heap[w.heap.size]? = some (rxo 1 mn mx m t (.slice ad l c))) := xA1
  have B1 : Hid (W1.heap[V0.heap.size]? = some (rxo 1 0 0 0 t (.slice none 0 0))) := xB1
  have K1 : Hid (Kp w W1) := xK1
  clear xA1 xB1 xK1
  clear A0 B0 K0
  have A0 := A1
  have K0 := K1
  clear A1 K1
  obtain ⟨a0, fa0, a1, fa1, a2, fa2, a3, fa3, a4, fa4, a5, fa5, a6, fa6, a7, fa7, a8, fa8⟩ := cells9 A0.out
  go_upto_region 12 with fail
  clear a0 fa0 a1 fa1 a2 fa2 a3 fa3 a4 fa4 a5 fa5 a6 fa6 a7 fa7 a8 fa8
  refine opq (fun W2 => W2.heap[w.heap.size]? = some (rxo 1 mn mx m t (.slice none 0 0)) ∧ W2.heap[V0.heap.size]? = some (rxo 1 0 0 0 t (.slice none 0 0)) ∧ Kp w W2) ⟨by exact bl_put A0.out _, by exact bl_set B1.out (by omega) _, by exact K0.out.setCell (Nat.le_refl _) _⟩ ?_
  rintro W2 ⟨xA2, xB2, xK2⟩
  have A2 : Hid (W2.heap[w.heap.size]? = some (rxo 1 mn mx m t (.slice none 0 0))) := xA2
  have B2 : Hid (W2.heap[V0.heap.size]? = some (rxo 1 0 0 0 t (.slice none 0 0))) := xB2
  have K2 : Hid (Kp w W2) := xK2
  clear xA2 xB2 xK2
  obtain ⟨a0, a1, a2, a3, a4, a5, a6, a7, a8⟩ := cells9c A2.out
  obtain ⟨b0, b1, b2, b3, b4, b5, b6, b7, b8⟩ := cells9c B2.out
  go_wp2_with fail
  refine (SB.out _).mono ?_
  rintro e W3 ⟨rfl, k3⟩
  have A3 := hid (bl_kp A2.out k3)
  have K3 := hid (K2.out.trans k3)
  clear k3 a0 a1 a2 a3 a4 a5 a6 a7 a8 b0 b1 b2 b3 b4 b5 b6 b7 b8
  have x0 := bl_cell A3.out 0 _ rfl
  cases sm with
  | false =>
   go_wp2_with fail
   go_ret
   exact ⟨ret_bool (by rw [E.out]; rfl), K3.out⟩
  | true =>
   go_wp2_with fail
   refine (KF.out _).mono ?_
   rintro e W3 ⟨rfl, rfl⟩
   go_wp2_with fail
   go_ret
   exact ⟨ret_bool (by rw [E.out]; rfl), K3.out⟩
 by_cases k4 : k = 4
 ·
  subst k4
  obtain ⟨sm, hsm⟩ : ∃ sm, (mn == mn && mx == mx && m == 0 && t == W4.z) = sm := ⟨_, rfl⟩
  have SB := hid (same_bare 4 mn mx m mn mx 0 t W4.z sm hsm)
  have E : Hid (leanB (.mk 4 mn mx m t kids) = (sm && kf)) := by show _ = _; rw [E0.out, ← hsm]; simp
  clear hsm
  obtain ⟨a0, a1, a2, a3, a4, a5, a6, a7, a8⟩ := cells9c A0.out
  go_upto_region 6 with fail
  clear a0 a1 a2 a3 a4 a5 a6 a7 a8
  have BB := hid B0.out
  have Q0 : Ks V0.heap.size W0 W0.drew := (Ks.refl _ _).drew
  have MK : Hid (∀ W, Ks V0.heap.size W0 W → W.cell? ⟨w.heap.size, 1, none⟩ = some (.int .i64 mn) ∧ W.cell? ⟨w.heap.size, 2, none⟩ = some (.int .i64 mx) ∧ Hid (Ks V0.heap.size W0 W)) := fun W k => ⟨bl_cell (bl_ks A0.out (by omega) k) 1 _ rfl, bl_cell (bl_ks A0.out (by omega) k) 2 _ rfl, k⟩
  refine wp_region_noPanic ?_
  refine wp_region_held_drew (S := (fun W => W.cell? ⟨w.heap.size, 1, none⟩ = some (.int .i64 mn) ∧ W.cell? ⟨w.heap.size, 2, none⟩ = some (.int .i64 mx) ∧ Hid (Ks V0.heap.size W0 W))) (by kernel_rfl) ?_ (fun hH => ?_)
  ·
   exact MK.out _ Q0
  have KQ := Q0
  refine wpAnyH_take (i := 0) (oi := { dst := some 17, op := Op.fieldAddr 27 (Operand.tmp 1) 1, type := 0, pos := "right.go:61", after := #[], guard := none }) (v := ?v0a1) rfl (by kernel_rfl) (by kernel_rfl) (by kernel_rfl) (fun _ _ _ h => h) (Or.inl ⟨by rfl, ?hy0a1⟩) hH ?r0a1
  case hy0a1 => (intro W hSw; (try dsimp only at hSw); go_simp; try (with_reducible rfl))
  try simp only [Act.put, List.setIfInBounds_toArray, List.set_cons_zero, List.set_cons_succ]
  refine wpAnyH_take (i := 1) (oi := { dst := some 18, op := Op.load 3 (Operand.tmp 17), type := 3, pos := "right.go:61", after := #[{ on := 0, ground := Ground.data }], guard := none }) (v := ?v1a2) rfl (by kernel_rfl) (by kernel_rfl) (by kernel_rfl) (fun _ _ _ h => h) (Or.inl ⟨by rfl, ?hy1a2⟩) hH ?r1a2
  case hy1a2 => (intro W hSw; (try dsimp only at hSw); go_simp; try (with_reducible rfl))
  try simp only [Act.put, List.setIfInBounds_toArray, List.set_cons_zero, List.set_cons_succ]
  refine wpAnyH_take (i := 2) (oi := { dst := some 19, op := Op.fieldAddr 27 (Operand.tmp 1) 2, type := 0, pos := "right.go:61", after := #[{ on := 5, ground := Ground.gcOnly Departure.lateStores }], guard := none }) (v := ?v2a3) rfl (by kernel_rfl) (by kernel_rfl) (by kernel_rfl) (fun _ _ _ h => h) (Or.inl ⟨by rfl, ?hy2a3⟩) hH ?r2a3
  case hy2a3 => (intro W hSw; (try dsimp only at hSw); go_simp; try (with_reducible rfl))
  try simp only [Act.put, List.setIfInBounds_toArray, List.set_cons_zero, List.set_cons_succ]
  refine wpAnyH_take (i := 3) (oi := { dst := some 20, op := Op.load 3 (Operand.tmp 19), type := 3, pos := "right.go:61", after := #[{ on := 2, ground := Ground.data }, { on := 5, ground := Ground.gcOnly Departure.lateStores }], guard := none }) (v := ?v3a4) rfl (by kernel_rfl) (by kernel_rfl) (by kernel_rfl) (fun _ _ _ h => h) (Or.inl ⟨by rfl, ?hy3a4⟩) hH ?r3a4
  case hy3a4 => (intro W hSw; (try dsimp only at hSw); go_simp; try (with_reducible rfl))
  try simp only [Act.put, List.setIfInBounds_toArray, List.set_cons_zero, List.set_cons_succ]
  refine wpAnyH_take (i := 4) (oi := { dst := some 21, op := Op.fieldAddr 27 (Operand.tmp 3) 1, type := 0, pos := "right.go:61", after := #[{ on := 0, ground := Ground.phase }, { on := 1, ground := Ground.phase }, { on := 2, ground := Ground.textOnly Departure.lateStores }, { on := 3, ground := Ground.textOnly Departure.lateStores }], guard := none }) (v := ?v4a5) rfl (by kernel_rfl) (by kernel_rfl) (by kernel_rfl) (fun _ _ _ h => h) (Or.inl ⟨by rfl, ?hy4a5⟩) hH ?r4a5
  case hy4a5 => (intro W hSw; (try dsimp only at hSw); go_simp; try (with_reducible rfl))
  try simp only [Act.put, List.setIfInBounds_toArray, List.set_cons_zero, List.set_cons_succ]
  refine wpAnyH_ready (rs := [5]) (by kernel_rfl) (by simp) ?_
  refine AllReadyH.cons (o := { dst := none, op := Op.store 3 (Operand.tmp 21) (Operand.tmp 18), type := 0, pos := "right.go:61", after := #[{ on := 4, ground := Ground.data }, { on := 1, ground := Ground.data }, { on := 0, ground := Ground.phase }, { on := 1, ground := Ground.phase }, { on := 2, ground := Ground.textOnly Departure.lateStores }, { on := 3, ground := Ground.textOnly Departure.lateStores }], guard := none }) rfl (fun K hKq => ?_) AllReadyH.nil
  have c1 := bl_cell BB.out 1 _ rfl
  have f1 := bl_frozen BB.out 1
  go_simp
  refine hKq.out _ _ (MK.out _ (KQ.set 1 _)) (fun hN => ?_)
  have BN := hid (bl_put (j := 1) BB.out (.int .i64 mn))
  clear BB c1 f1
  have BB := BN
  clear BN
  clear hKq K hH KQ
  have hH := hN
  clear hN
  have KQ := hH.2.2.out
  try simp only [Act.put, List.setIfInBounds_toArray, List.set_cons_zero, List.set_cons_succ]
  refine wpAnyH_take (i := 6) (oi := { dst := some 22, op := Op.fieldAddr 27 (Operand.tmp 3) 2, type := 0, pos := "right.go:61", after := #[{ on := 0, ground := Ground.phase }, { on := 1, ground := Ground.phase }, { on := 2, ground := Ground.phase }, { on := 3, ground := Ground.phase }, { on := 4, ground := Ground.phase }, { on := 5, ground := Ground.phase }], guard := none }) (v := ?v6a6) rfl (by kernel_rfl) (by kernel_rfl) (by kernel_rfl) (fun _ _ _ h => h) (Or.inl ⟨by rfl, ?hy6a6⟩) hH ?r6a6
  case hy6a6 => (intro W hSw; (try dsimp only at hSw); go_simp; try (with_reducible rfl))
  try simp only [Act.put, List.setIfInBounds_toArray, List.set_cons_zero, List.set_cons_succ]
  refine wpAnyH_ready (rs := [7]) (by kernel_rfl) (by simp) ?_
  refine AllReadyH.cons (o := { dst := none, op := Op.store 3 (Operand.tmp 22) (Operand.tmp 20), type := 0, pos := "right.go:61", after := #[{ on := 6, ground := Ground.data }, { on := 3, ground := Ground.data }, { on := 5, ground := Ground.chain }, { on := 0, ground := Ground.phase }, { on := 1, ground := Ground.phase }, { on := 2, ground := Ground.phase }, { on := 3, ground := Ground.phase }, { on := 4, ground := Ground.phase }, { on := 5, ground := Ground.phase }], guard := none }) rfl (fun K hKq => ?_) AllReadyH.nil
  have c2 := bl_cell BB.out 2 _ rfl
  have f2 := bl_frozen BB.out 2
  go_simp
  refine hKq.out _ _ (MK.out _ (KQ.set 2 _)) (fun hN => ?_)
  have BN := hid (bl_put (j := 2) BB.out (.int .i64 mx))
  clear BB c2 f2
  have BB := BN
  clear BN
  clear hKq K hH KQ
  have hH := hN
  clear hN
  have KQ := hH.2.2.out
  try simp only [Act.put, List.setIfInBounds_toArray, List.set_cons_zero, List.set_cons_succ]
  refine wpAnyH_done (by kernel_rfl) ?_ _
  refine NoPanic.normal ?_
  go_upto_region 10 with fail
  refine opq (fun W1 => W1.heap[w.heap.size]? = some (rxo 4 mn mx m t (.slice ad l c)) ∧ W1.heap[V0.heap.size]? = some (rxo 4 mn mx 0 W4.z (.slice none 0 0)) ∧ Kp w W1) ⟨by exact bl_ks A0.out (by omega) KQ, by exact bl_drew BB.out, by exact KQ.up K0.out (Nat.le_of_lt hsV)⟩ ?_
  rintro W1 ⟨xA1, xB1, xK1⟩
  have A1 : Hid (W1.heap[w.heap.size]? = some (rxo 4 mn mx m t (.slice ad l c))) := xA1
  have B1 : Hid (W1.heap[V0.heap.size]? = some (rxo 4 mn mx 0 W4.z (.slice none 0 0))) := xB1
  have K1 : Hid (Kp w W1) := xK1
  clear xA1 xB1 xK1
  clear A0 B0 K0 BB hH KQ Q0 MK
  have A0 := A1
  have K0 := K1
  clear A1 K1
  obtain ⟨a0, fa0, a1, fa1, a2, fa2, a3, fa3, a4, fa4, a5, fa5, a6, fa6, a7, fa7, a8, fa8⟩ := cells9 A0.out
  go_upto_region 12 with fail
  clear a0 fa0 a1 fa1 a2 fa2 a3 fa3 a4 fa4 a5 fa5 a6 fa6 a7 fa7 a8 fa8
  refine opq (fun W2 => W2.heap[w.heap.size]? = some (rxo 4 mn mx m t (.slice none 0 0)) ∧ W2.heap[V0.heap.size]? = some (rxo 4 mn mx 0 W4.z (.slice none 0 0)) ∧ Kp w W2) ⟨by exact bl_put A0.out _, by exact bl_set B1.out (by omega) _, by exact K0.out.setCell (Nat.le_refl _) _⟩ ?_
  rintro W2 ⟨xA2, xB2, xK2⟩
  have A2 : Hid (W2.heap[w.heap.size]? = some (rxo 4 mn mx m t (.slice none 0 0))) := xA2
  have B2 : Hid (W2.heap[V0.heap.size]? = some (rxo 4 mn mx 0 W4.z (.slice none 0 0))) := xB2
  have K2 : Hid (Kp w W2) := xK2
  clear xA2 xB2 xK2
  obtain ⟨a0, a1, a2, a3, a4, a5, a6, a7, a8⟩ := cells9c A2.out
  obtain ⟨b0, b1, b2, b3, b4, b5, b6, b7, b8⟩ := cells9c B2.out
  go_wp2_with fail
  refine (SB.out _).mono ?_
  rintro e W3 ⟨rfl, k3⟩
  have A3 := hid (bl_kp A2.out k3)
  have K3 := hid (K2.out.trans k3)
  clear k3 a0 a1 a2 a3 a4 a5 a6 a7 a8 b0 b1 b2 b3 b4 b5 b6 b7 b8
  have x0 := bl_cell A3.out 0 _ rfl
  cases sm with
  | false =>
   go_wp2_with fail
   go_ret
   exact ⟨ret_bool (by rw [E.out]; rfl), K3.out⟩
  | true =>
   go_wp2_with fail
   refine (KF.out _).mono ?_
   rintro e W3 ⟨rfl, rfl⟩
   go_wp2_with fail
   go_ret
   exact ⟨ret_bool (by rw [E.out]; rfl), K3.out⟩
 by_cases k5 : k = 5
 ·
  subst k5
  obtain ⟨sm, hsm⟩ : ∃ sm, (mn == 0 && mx == 0 && m == m && t == W4.z) = sm := ⟨_, rfl⟩
  have SB := hid (same_bare 5 mn mx m 0 0 m t W4.z sm hsm)
  have E : Hid (leanB (.mk 5 mn mx m t kids) = (sm && kf)) := by show _ = _; rw [E0.out, ← hsm]; (first | (simp; done) | (simp; cases mn == 0 <;> cases mx == 0 <;> cases t == W4.z <;> rfl))
  clear hsm
  obtain ⟨a0, a1, a2, a3, a4, a5, a6, a7, a8⟩ := cells9c A0.out
  obtain ⟨b0, fb0, b1, fb1, b2, fb2, b3, fb3, b4, fb4, b5, fb5, b6, fb6, b7, fb7, b8, fb8⟩ := cells9 B0.out
  go_upto_region 10 with fail
  clear a0 a1 a2 a3 a4 a5 a6 a7 a8 b0 fb0 b1 fb1 b2 fb2 b3 fb3 b4 fb4 b5 fb5 b6 fb6 b7 fb7 b8 fb8
  refine opq (fun W1 => W1.heap[w.heap.size]? = some (rxo 5 mn mx m t (.slice ad l c)) ∧ W1.heap[V0.heap.size]? = some (rxo 5 0 0 m W4.z (.slice none 0 0)) ∧ Kp w W1) ⟨by exact bl_set A0.out (by omega) _, by exact bl_put B0.out _, by exact K0.out.setCell (Nat.le_of_lt hsV) _⟩ ?_
  rintro W1 ⟨xA1, xB1, xK1⟩
  have A1 : Hid (W1.heap[w.heap.size]? = some (rxo 5 mn mx m t (.slice ad l c))) := xA1
  have B1 : Hid (W1.heap[V0.heap.size]? = some (rxo 5 0 0 m W4.z (.slice none 0 0))) := xB1
  have K1 : Hid (Kp w W1) := xK1
  clear xA1 xB1 xK1
  clear A0 B0 K0
  have A0 := A1
  have K0 := K1
  clear A1 K1
  obtain ⟨a0, fa0, a1, fa1, a2, fa2, a3, fa3, a4, fa4, a5, fa5, a6, fa6, a7, fa7, a8, fa8⟩ := cells9 A0.out
  go_upto_region 12 with fail
  clear a0 fa0 a1 fa1 a2 fa2 a3 fa3 a4 fa4 a5 fa5 a6 fa6 a7 fa7 a8 fa8
  refine opq (fun W2 => W2.heap[w.heap.size]? = some (rxo 5 mn mx m t (.slice none 0 0)) ∧ W2.heap[V0.heap.size]? = some (rxo 5 0 0 m W4.z (.slice none 0 0)) ∧ Kp w W2) ⟨by exact bl_put A0.out _, by exact bl_set B1.out (by omega) _, by exact K0.out.setCell (Nat.le_refl _) _⟩ ?_
  rintro W2 ⟨xA2, xB2, xK2⟩
  have A2 : Hid (W2.heap[w.heap.size]? = some (rxo 5 mn mx m t (.slice none 0 0))) := xA2
  have B2 : Hid (W2.heap[V0.heap.size]? = some (rxo 5 0 0 m W4.z (.slice none 0 0))) := xB2
  have K2 : Hid (Kp w W2) := xK2
  clear xA2 xB2 xK2
  obtain ⟨a0, a1, a2, a3, a4, a5, a6, a7, a8⟩ := cells9c A2.out
  obtain ⟨b0, b1, b2, b3, b4, b5, b6, b7, b8⟩ := cells9c B2.out
  go_wp2_with fail
  refine (SB.out _).mono ?_
  rintro e W3 ⟨rfl, k3⟩
  have A3 := hid (bl_kp A2.out k3)
  have K3 := hid (K2.out.trans k3)
  clear k3 a0 a1 a2 a3 a4 a5 a6 a7 a8 b0 b1 b2 b3 b4 b5 b6 b7 b8
  have x0 := bl_cell A3.out 0 _ rfl
  cases sm with
  | false =>
   go_wp2_with fail
   go_ret
   exact ⟨ret_bool (by rw [E.out]; rfl), K3.out⟩
  | true =>
   go_wp2_with fail
   refine (KF.out _).mono ?_
   rintro e W3 ⟨rfl, rfl⟩
   go_wp2_with fail
   go_ret
   exact ⟨ret_bool (by rw [E.out]; rfl), K3.out⟩
 by_cases k6 : k = 6
 ·
  subst k6
  obtain ⟨sm, hsm⟩ : ∃ sm, (mn == 0 && mx == 0 && m == m && t == W4.z) = sm := ⟨_, rfl⟩
  have SB := hid (same_bare 6 mn mx m 0 0 m t W4.z sm hsm)
  have E : Hid (leanB (.mk 6 mn mx m t kids) = (sm && kf)) := by show _ = _; rw [E0.out, ← hsm]; (first | (simp; done) | (simp; cases mn == 0 <;> cases mx == 0 <;> cases t == W4.z <;> rfl))
  clear hsm
  obtain ⟨a0, a1, a2, a3, a4, a5, a6, a7, a8⟩ := cells9c A0.out
  obtain ⟨b0, fb0, b1, fb1, b2, fb2, b3, fb3, b4, fb4, b5, fb5, b6, fb6, b7, fb7, b8, fb8⟩ := cells9 B0.out
  go_upto_region 10 with fail
  clear a0 a1 a2 a3 a4 a5 a6 a7 a8 b0 fb0 b1 fb1 b2 fb2 b3 fb3 b4 fb4 b5 fb5 b6 fb6 b7 fb7 b8 fb8
  refine opq (fun W1 => W1.heap[w.heap.size]? = some (rxo 6 mn mx m t (.slice ad l c)) ∧ W1.heap[V0.heap.size]? = some (rxo 6 0 0 m W4.z (.slice none 0 0)) ∧ Kp w W1) ⟨by exact bl_set A0.out (by omega) _, by exact bl_put B0.out _, by exact K0.out.setCell (Nat.le_of_lt hsV) _⟩ ?_
  rintro W1 ⟨xA1, xB1, xK1⟩
  have A1 : Hid (W1.heap[w.heap.size]? = some (rxo 6 mn mx m t (.slice ad l c))) := xA1
  have B1 : Hid (W1.heap[V0.heap.size]? = some (rxo 6 0 0 m W4.z (.slice none 0 0))) := xB1
  have K1 : Hid (Kp w W1) := xK1
  clear xA1 xB1 xK1
  clear A0 B0 K0
  have A0 := A1
  have K0 := K1
  clear A1 K1
  obtain ⟨a0, fa0, a1, fa1, a2, fa2, a3, fa3, a4, fa4, a5, fa5, a6, fa6, a7, fa7, a8, fa8⟩ := cells9 A0.out
  go_upto_region 12 with fail
  clear a0 fa0 a1 fa1 a2 fa2 a3 fa3 a4 fa4 a5 fa5 a6 fa6 a7 fa7 a8 fa8
  refine opq (fun W2 => W2.heap[w.heap.size]? = some (rxo 6 mn mx m t (.slice none 0 0)) ∧ W2.heap[V0.heap.size]? = some (rxo 6 0 0 m W4.z (.slice none 0 0)) ∧ Kp w W2) ⟨by exact bl_put A0.out _, by exact bl_set B1.out (by omega) _, by exact K0.out.setCell (Nat.le_refl _) _⟩ ?_
  rintro W2 ⟨xA2, xB2, xK2⟩
  have A2 : Hid (W2.heap[w.heap.size]? = some (rxo 6 mn mx m t (.slice none 0 0))) := xA2
  have B2 : Hid (W2.heap[V0.heap.size]? = some (rxo 6 0 0 m W4.z (.slice none 0 0))) := xB2
  have K2 : Hid (Kp w W2) := xK2
  clear xA2 xB2 xK2
  obtain ⟨a0, a1, a2, a3, a4, a5, a6, a7, a8⟩ := cells9c A2.out
  obtain ⟨b0, b1, b2, b3, b4, b5, b6, b7, b8⟩ := cells9c B2.out
  go_wp2_with fail
  refine (SB.out _).mono ?_
  rintro e W3 ⟨rfl, k3⟩
  have A3 := hid (bl_kp A2.out k3)
  have K3 := hid (K2.out.trans k3)
  clear k3 a0 a1 a2 a3 a4 a5 a6 a7 a8 b0 b1 b2 b3 b4 b5 b6 b7 b8
  have x0 := bl_cell A3.out 0 _ rfl
  cases sm with
  | false =>
   go_wp2_with fail
   go_ret
   exact ⟨ret_bool (by rw [E.out]; rfl), K3.out⟩
  | true =>
   go_wp2_with fail
   refine (KF.out _).mono ?_
   rintro e W3 ⟨rfl, rfl⟩
   go_wp2_with fail
   go_ret
   exact ⟨ret_bool (by rw [E.out]; rfl), K3.out⟩
 have g1 : (k == 1) = false := by simp [k1]
 have g4 : (k == 4) = false := by simp [k4]
 have g5 : (k == 5) = false := by simp [k5]
 have g6 : (k == 6) = false := by simp [k6]
 obtain ⟨sm, hsm⟩ : ∃ sm, (mn == 0 && mx == 0 && m == 0 && t == W4.z) = sm := ⟨_, rfl⟩
 have SB := hid (same_bare k mn mx m 0 0 0 t W4.z sm hsm)
 have E : Hid (leanB (.mk k mn mx m t kids) = (sm && kf)) := by show _ = _; rw [E0.out, ← hsm]; rw [if_neg k4, if_neg (by omega), if_neg k1]; first | done | (cases mn == 0 <;> cases mx == 0 <;> cases m == 0 <;> cases t == W4.z <;> rfl)
 clear hsm
 obtain ⟨a0, fa0, a1, fa1, a2, fa2, a3, fa3, a4, fa4, a5, fa5, a6, fa6, a7, fa7, a8, fa8⟩ := cells9 A0.out
 go_upto_region 12 with fail
 clear a0 fa0 a1 fa1 a2 fa2 a3 fa3 a4 fa4 a5 fa5 a6 fa6 a7 fa7 a8 fa8
 refine opq (fun W2 => W2.heap[w.heap.size]? = some (rxo k mn mx m t (.slice none 0 0)) ∧ W2.heap[V0.heap.size]? = some (rxo k 0 0 0 W4.z (.slice none 0 0)) ∧ Kp w W2) ⟨by exact bl_put A0.out _, by exact bl_set B0.out (by omega) _, by exact K0.out.setCell (Nat.le_refl _) _⟩ ?_
 rintro W2 ⟨xA2, xB2, xK2⟩
 have A2 : Hid (W2.heap[w.heap.size]? = some (rxo k mn mx m t (.slice none 0 0))) := xA2
 have B2 : Hid (W2.heap[V0.heap.size]? = some (rxo k 0 0 0 W4.z (.slice none 0 0))) := xB2
 have K2 : Hid (Kp w W2) := xK2
 clear xA2 xB2 xK2
 obtain ⟨a0, a1, a2, a3, a4, a5, a6, a7, a8⟩ := cells9c A2.out
 obtain ⟨b0, b1, b2, b3, b4, b5, b6, b7, b8⟩ := cells9c B2.out
 go_wp2_with fail
 refine (SB.out _).mono ?_
 rintro e W3 ⟨rfl, k3⟩
 have A3 := hid (bl_kp A2.out k3)
 have K3 := hid (K2.out.trans k3)
 clear k3 a0 a1 a2 a3 a4 a5 a6 a7 a8 b0 b1 b2 b3 b4 b5 b6 b7 b8
 have x0 := bl_cell A3.out 0 _ rfl
 cases sm with
 | false =>
  go_wp2_with fail
  go_ret
  exact ⟨ret_bool (by rw [E.out]; rfl), K3.out⟩
 | true =>
  go_wp2_with fail
  refine (KF.out _).mono ?_
  rintro e W3 ⟨rfl, rfl⟩
  go_wp2_with fail
  go_ret
  exact ⟨ret_bool (by rw [E.out]; rfl), K3.out⟩
end Go.Proofs.YtikmgckefbjbkaaGreatDoor

/-! ### Right1 -/

namespace Go.Proofs.YtikmgckefbjbkaaGreatDoor
open Go.RowKit

theorem RowAt.ks {P : Nat} {w w' : World} {ok : Nat → Prop} {ts : List Rx} {ad : Option Addr} {l c : Nat} (h : RowAt w ok ts ad l c) (k : Ks P w w') (hP : ∀ x, ok x → x ≠ P) : RowAt w' ok ts ad l c :=
 ⟨h.ln, h.cp, fun hn => by
  obtain ⟨b, o, h1, h2, h3, h4⟩ := h.ex hn
  exact ⟨b, o, h1, h2, Nat.lt_of_lt_of_le h3 k.size, IsL.turn k.size (fun b hb hl => ⟨hb, k.block b hl (hP b hb)⟩) ts b o (k.block b h3 (hP b h2)) h4⟩⟩
theorem Cb.lt {w : World} {C : Nat} {ere : Bool} {n g d : Nat} (h : Cb w C ere n g d) : C < w.heap.size := bl_lt h
theorem Ckd.no {C : Nat} {ere : Bool} {o : Option Ck} {w w' : World} {d0 n g d : Nat} (ho : o = none) (hc : Cb w' C ere n g d) (hn : n ≤ 41) (hg : g ≤ 41) (hd : d ≤ 7) (h0 : d0 ≤ d) (k : Ks C w w') : Ckd C ere d0 o w (.returned (.bool false)) w' :=
 ⟨false, rfl, by rw [ho]; rfl, ⟨n, g, d, hc, hn, hg, hd, h0, fun c h => by rw [ho] at h; cases h⟩, k⟩
theorem Ckd.yes {C : Nat} {ere : Bool} {o : Option Ck} {w w' : World} {d0 n g d : Nat} (ho : o = some ⟨n, g, d⟩) (hc : Cb w' C ere n g d) (hn : n ≤ 41) (hg : g ≤ 41) (hd : d ≤ 7) (h0 : d0 ≤ d) (k : Ks C w w') : Ckd C ere d0 o w (.returned (.bool true)) w' :=
 ⟨true, rfl, by rw [ho]; rfl, ⟨n, g, d, hc, hn, hg, hd, h0, fun c h => by rw [ho] at h; injection h with h; subst h; exact ⟨rfl, rfl, rfl⟩⟩, k⟩

/-- The counts stay within their bounds. -/
structure CkOk (c c' : Ck) : Prop where
 n : c'.n ≤ 40
 g : c'.g ≤ c'.n
 d : c'.d = c.d
mutual
theorem chk_ok (ere : Bool) : ∀ (r : Rx) (b e : Bool) (c c' : Ck), c.n ≤ 40 → c.g ≤ c.n → chk ere r b e c = some c' → CkOk c c' ∧ c.n < c'.n
 | .mk k mn mx n s kids, b, e, c, c', hn, hg, h => by
  unfold chk at h
  split at h
  ·
   cases h
  ·
   rename_i h0
   have h40 : c.n + 1 ≤ 40 := by omega
   have one : some (⟨c.n + 1, c.g, c.d⟩ : Ck) = some c' → CkOk c c' ∧ c.n < c'.n := fun h => by
    injection h with h; subst h
    exact ⟨⟨h40, by show c.g ≤ c.n + 1; omega, rfl⟩, by show c.n < c.n + 1; omega⟩
   split at h
   ·
    split at h
    ·
     exact one h
    ·
     cases h
   split at h
   ·
    have := chkCat_ok ere kids true ⟨c.n + 1, c.g, c.d⟩ c' h40 (by show c.g ≤ c.n + 1; omega) h
    exact ⟨⟨this.1.n, this.1.g, this.1.d⟩, by have := this.2; simp only at this; omega⟩
   split at h
   ·
    split at h
    ·
     have := chkAlt_ok ere kids ⟨c.n + 1, c.g, c.d⟩ c' h40 (by show c.g ≤ c.n + 1; omega) h
     exact ⟨⟨this.1.n, this.1.g, this.1.d⟩, by have := this.2; simp only at this; omega⟩
    ·
     cases h
   split at h
   ·
    split at h
    ·
     have := chkRep_ok ere kids ⟨c.n + 1, c.g, c.d⟩ c' h40 (by show c.g ≤ c.n + 1; omega) h
     exact ⟨⟨this.1.n, this.1.g, this.1.d⟩, by have := this.2; simp only at this; omega⟩
    ·
     cases h
   split at h
   ·
    split at h
    ·
     cases h
    ·
     have := chkGroup_ok ere kids ⟨c.n + 1, c.g + 1, c.d + 1⟩ c' h40 (by show c.g + 1 ≤ c.n + 1; omega) h
     exact ⟨⟨this.1, this.2.1, by have := this.2.2.1; simp only at this; omega⟩, by have := this.2.2.2; simp only at this; omega⟩
   split at h
   ·
    split at h
    ·
     exact one h
    ·
     cases h
   split at h
   ·
    split at h
    ·
     exact one h
    ·
     cases h
   split at h
   ·
    split at h
    ·
     exact one h
    ·
     cases h
   ·
    cases h
theorem chkCat_ok (ere : Bool) : ∀ (rs : List Rx) (f : Bool) (c c' : Ck), c.n ≤ 40 → c.g ≤ c.n → chkCat ere rs f c = some c' → CkOk c c' ∧ c.n ≤ c'.n
 | [], f, c, c', hn, hg, h => by
  unfold chkCat at h
  injection h with h; subst h
  exact ⟨⟨hn, hg, rfl⟩, Nat.le_refl _⟩
 | r :: rs, f, c, c', hn, hg, h => by
  unfold chkCat at h
  split at h
  ·
   cases h
  ·
   split at h
   ·
    cases h
   ·
    rename_i c1 hc1
    have h1 := chk_ok ere r f rs.isEmpty c c1 hn hg hc1
    have h2 := chkCat_ok ere rs false c1 c' h1.1.n h1.1.g h
    exact ⟨⟨h2.1.n, h2.1.g, h2.1.d.trans h1.1.d⟩, by omega⟩
theorem chkAlt_ok (ere : Bool) : ∀ (rs : List Rx) (c c' : Ck), c.n ≤ 40 → c.g ≤ c.n → chkAlt ere rs c = some c' → CkOk c c' ∧ c.n ≤ c'.n
 | [], c, c', hn, hg, h => by
  unfold chkAlt at h
  injection h with h; subst h
  exact ⟨⟨hn, hg, rfl⟩, Nat.le_refl _⟩
 | r :: rs, c, c', hn, hg, h => by
  unfold chkAlt at h
  split at h
  ·
   cases h
  ·
   split at h
   ·
    cases h
   ·
    rename_i c1 hc1
    have h1 := chk_ok ere r false false c c1 hn hg hc1
    have h2 := chkAlt_ok ere rs c1 c' h1.1.n h1.1.g h
    exact ⟨⟨h2.1.n, h2.1.g, h2.1.d.trans h1.1.d⟩, by omega⟩
theorem chkRep_ok (ere : Bool) : ∀ (rs : List Rx) (c c' : Ck), c.n ≤ 40 → c.g ≤ c.n → chkRep ere rs c = some c' → CkOk c c' ∧ c.n ≤ c'.n
 | [], c, c', hn, hg, h => by unfold chkRep at h; cases h
 | r :: rs, c, c', hn, hg, h => by
  unfold chkRep at h
  split at h
  ·
   have h1 := chk_ok ere r false false c c' hn hg h
   exact ⟨h1.1, by omega⟩
  ·
   cases h
theorem chkGroup_ok (ere : Bool) : ∀ (rs : List Rx) (c c' : Ck), c.n ≤ 40 → c.g ≤ c.n → chkGroup ere rs c = some c' → c'.n ≤ 40 ∧ c'.g ≤ c'.n ∧ c'.d = c.d - 1 ∧ c.n ≤ c'.n
 | [], c, c', hn, hg, h => by unfold chkGroup at h; cases h
 | r :: rs, c, c', hn, hg, h => by
  unfold chkGroup at h
  split at h
  ·
   cases h
  ·
   rename_i c1 hc1
   injection h with h; subst h
   have h1 := chk_ok ere r true true c c1 hn hg hc1
   exact ⟨h1.1.n, h1.1.g, by show c1.d - 1 = c.d - 1; rw [h1.1.d], by show c.n ≤ c1.n; omega⟩
end
end Go.Proofs.YtikmgckefbjbkaaGreatDoor

/-! ### Right2 -/

namespace Go.Proofs.YtikmgckefbjbkaaGreatDoor
open Go.RowKit

theorem chkCat_cons (ere : Bool) (r : Rx) (rs : List Rx) (f : Bool) (c : Ck) : chkCat ere (r :: rs) f c = if r.k = 2 ∨ r.k = 3 then none else (chk ere r f rs.isEmpty c).bind fun c' => chkCat ere rs false c' := by
 rw [chkCat]
 split
 ·
  rfl
 ·
  cases chk ere r f rs.isEmpty c <;> rfl
theorem Is.kind' {w : World} {ok : Nat → Prop} {r : Rx} {k mn mx n : Int} {s : W4} {ks : Value} (h : Is w ok r (rxv k mn mx n s ks)) : r.k = k := by
 cases r with
 | mk k' mn' mx' n' s' kids =>
  unfold Is at h
  obtain ⟨ad, l, c, he, _⟩ := h
  injection he with he
  injection he with he
  simp at he
  exact he.1.symm
theorem Ks.kpt' {P : Nat} {a b c : World} (h : Ks P a b) (k : Kp b c) (hP : P < b.heap.size) : Ks P a c := h.kp k (Nat.le_of_lt hP)
/-- In the loop of a row. -/
structure Kw (ere : Bool) (C : Nat) (d0 : Nat) (w : World) (ts : List Rx) (o : Option Ck) (k : Nat) (wr : World) (c : Ck) : Prop where
 cb : Cb wr C ere c.n c.g c.d
 n : c.n ≤ 40
 g : c.g ≤ c.n
 d : c.d = d0
 eq : chkCat ere (ts.drop k) (k == 0) c = o
 ks : Ks C w wr
theorem Ckd.form {C : Nat} {ere : Bool} {d0 : Nat} {o : Option Ck} {w w' : World} {e : Ending} (h : Ckd C ere d0 o w e w') : (∃ c, o = some c ∧ e = .returned (.bool true) ∧ Cb w' C ere c.n c.g c.d ∧ Ks C w w') ∨ (o = none ∧ e = .returned (.bool false) ∧ (∃ n g d, Cb w' C ere n g d ∧ n ≤ 41 ∧ g ≤ 41 ∧ d ≤ 7 ∧ d0 ≤ d) ∧ Ks C w w') := by
 obtain ⟨b, he, hb, ⟨n, g, d, hc, h1, h2, h3, h3', h4⟩, hk⟩ := h.ex
 cases o with
 | none =>
  refine Or.inr ⟨rfl, ?_, ⟨n, g, d, hc, h1, h2, h3, h3'⟩, hk⟩
  rw [he, hb]; rfl
 | some c =>
  obtain ⟨e1, e2, e3⟩ := h4 c rfl
  subst e1; subst e2; subst e3
  refine Or.inl ⟨c, rfl, ?_, hc, hk⟩
  rw [he, hb]; rfl

set_option maxHeartbeats 2000000 in
set_option maxRecDepth 100000 in
theorem cat_any (ere : Bool) (ts : List Rx) (H : ∀ r, r ∈ ts → RightSaid ere r) (C : Nat) (ok : Nat → Prop) (ad : Option Addr) (l c : Nat) (n g d : Nat) (w : World) (hr : RowAt w ok ts ad l c) (hok : ∀ x, ok x → x ≠ C) (hc : Cb w C ere n g d) (hn : n ≤ 40) (hg : g ≤ n) (hd : d ≤ 6) (hl : ts.length ≤ 1000000) :
  Calls Tryz.prog 45 #[.pointer (some ⟨C, 0, none⟩), .slice ad l c] w fun e w' => Ckd C ere d (chkCat ere ts true ⟨n, g, d⟩) w e w' := by
 have hle := hr.ln
 have hlc := hr.cp
 subst hle
 obtain ⟨L, hL⟩ : ∃ L, ts.length = L := ⟨_, rfl⟩
 rw [hL] at hr hlc hl ⊢
 have HL := hid hL
 have RR := hid hr
 have HC := hid hc
 have HH := hid H
 have HOK := hid hok
 clear hL hr hc H hok
 obtain ⟨o, ho⟩ : ∃ o, chkCat ere ts true ⟨n, g, d⟩ = o := ⟨_, rfl⟩
 rw [ho]
 have HO := hid ho
 clear ho
 go_enter Tryz.func45, Tryz.ntmps45
 go_wp2_with fail
 go_loopg [9] L (fun gg v wr => ∃ (k : Nat) (c : Ck), k + gg = L ∧ v = .int .i64 (k : Int) ∧ Kw ere C d w ts o k wr c)
 case atStart => exact ⟨0, ⟨n, g, d⟩, by omega, rfl, HC.out, hn, hg, rfl, HO.out, Ks.refl _ _⟩
 case round =>
  obtain ⟨k, ⟨n1, g1, d1⟩, hk, rfl, hw⟩ := hrel
  have KW := hid hw
  have hn1 : n1 ≤ 40 := hw.n
  have hg1 : g1 ≤ n1 := hw.g
  have hd1 : d1 = d := hw.d
  subst hd1
  clear hw
  by_cases hlt : k < L
  ·
   have gkw : IntKind.i64.wrap ((k : Int) + 1) = (k : Int) + 1 := by rw [IntKind.wrap_i64]; omega
   have ga : (k : Int) < (L : Int) := by omega
   have g0 : (0 : Int) ≤ (k : Int) := by omega
   have gl : IntKind.i64.wrap ((L : Int) - 1) = (L : Int) - 1 := by rw [IntKind.wrap_i64]; omega
   obtain ⟨r, hr⟩ : ∃ r, ts[k]? = some r := ⟨_, List.getElem?_eq_getElem (by rw [HL.out]; exact hlt)⟩
   have hdrop : ts.drop k = r :: ts.drop (k + 1) := List.drop_eq_getElem_cons (by rw [HL.out]; exact hlt) ▸ by
    have := (List.getElem?_eq_some_iff.1 hr).2
    rw [this]
   have RW := hid (RR.out.ks KW.out.ks HOK.out)
   obtain ⟨bb, oo, kk, mn, mx, mm, tt, ad', ll, cc, e1, hbb, i1, ce1⟩ := RW.out.at k r hr
   subst e1
   have RS := hid (HH.out r (List.mem_of_getElem? hr))
   have I1 := hid i1
   have hkk : r.k = kk := i1.kind'
   have HKK := hid hkk
   have CE1 := hid ce1
   have HD := hid hdrop
   have lastB : (ts.drop (k + 1)).isEmpty = ((k : Int) == (L : Int) - 1) := by
    rw [Bool.eq_iff_iff]
    simp
    rw [HL.out]
    omega
   have HLB := hid lastB
   have E0 : Hid (o = if kk = 2 ∨ kk = 3 then none else (chk ere r ((k : Int) == 0) ((k : Int) == (L : Int) - 1) ⟨n1, g1, d1⟩).bind fun c' => chkCat ere (ts.drop (k + 1)) false c') := by
    show _ = _
    rw [← KW.out.eq, hdrop, chkCat_cons, hkk, lastB]
    rw [show (k == 0) = ((k : Int) == 0) by rw [Bool.eq_iff_iff]; simp]
   obtain ⟨zb, hzb⟩ : ∃ zb, ((k : Int) == 0) = zb := ⟨_, rfl⟩
   obtain ⟨zl, hzl⟩ : ∃ zl, ((k : Int) == (L : Int) - 1) = zl := ⟨_, rfl⟩
   rw [hzb, hzl] at E0
   clear hr i1 ce1 hkk hdrop lastB
   obtain ⟨x0, x1, x2, x3, x4, x5, x6, x7, x8⟩ := cells_of_is CE1.out
   go_upto_region 4 with fail
   clear x0 x1 x2 x3 x4 x5 x6 x7 x8
   refine opq (fun W => W.heap[wr.heap.size]? = some (rxo kk mn mx mm tt (.slice ad' ll cc)) ∧ Kp wr W) ⟨by exact last_at _ _ _ (by simp), by exact (Kp.refl _).alloc _⟩ ?_
   rintro W1 ⟨y1, y2⟩
   have A1 := hid y1
   have K1 := hid y2
   clear y1 y2
   obtain ⟨a0, a1, a2, a3, a4, a5, a6, a7, a8⟩ := cells9c A1.out
   have hCw := KW.out.cb.lt
   have CB1 := hid (KW.out.cb.kp K1.out)
   have KS1 := hid (KW.out.ks.kpt' K1.out hCw)
   by_cases h2 : kk = 2
   ·
    subst h2
    have E : Hid (o = none) := by show _ = _; rw [E0.out]; rfl
    go_wp2_with fail
    go_ret
    exact Ckd.no E.out CB1.out (by show n1 ≤ 41; omega) (by show g1 ≤ 41; omega) (by show d1 ≤ 7; omega) (Nat.le_refl _) KS1.out
   by_cases h3 : kk = 3
   ·
    subst h3
    have E : Hid (o = none) := by show _ = _; rw [E0.out]; rfl
    go_wp2_with fail
    go_ret
    exact Ckd.no E.out CB1.out (by show n1 ≤ 41; omega) (by show g1 ≤ 41; omega) (by show d1 ≤ 7; omega) (Nat.le_refl _) KS1.out
   have g2 : (kk == 2) = false := by simp [h2]
   have g3 : (kk == 3) = false := by simp [h3]
   have E1 : Hid (o = (chk ere r zb zl ⟨n1, g1, d1⟩).bind fun c' => chkCat ere (ts.drop (k + 1)) false c') := by show _ = _; rw [E0.out, if_neg (by omega)]
   go_wp2_with fail
   clear a0 a1 a2 a3 a4 a5 a6 a7 a8
   refine (RS.out.all C ok _ zb zl n1 g1 d1 _ (I1.out.kp K1.out) HOK.out CB1.out hn1 hg1 hd).mono ?_
   intro e W2 hcd
   rcases hcd.form with ⟨c2, ho2, rfl, hcb2, hks2⟩ | ⟨ho2, rfl, ⟨n2, g2', d2, hcb2, b1, b2, b3, b4⟩, hks2⟩
   ·
    have hck := chk_ok ere r zb zl ⟨n1, g1, d1⟩ c2 hn1 hg1 ho2
    have CB2 := hid hcb2
    have KS2 := hid (KS1.out.trans hks2)
    have E2 : Hid (chkCat ere (ts.drop (k + 1)) (k + 1 == 0) c2 = o) := by show _ = _; rw [E1.out, ho2]; rfl
    have b1 : c2.n ≤ 40 := hck.1.n
    have b2 : c2.g ≤ c2.n := hck.1.g
    have b3 : c2.d = d1 := hck.1.d
    have B3 := hid b3
    clear b3
    clear hcd hcb2 hks2 ho2 hck
    go_wp2_with fail
    go_roundg (gk - 1)
    case measure => omega
    case rel => exact ⟨k + 1, c2, by omega, by go_num, CB2.out, b1, b2, B3.out, E2.out, KS2.out⟩
   ·
    have CB2 := hid hcb2
    have KS2 := hid (KS1.out.trans hks2)
    have E : Hid (o = none) := by show _ = _; rw [E1.out, ho2]; rfl
    clear hcd hcb2 hks2 ho2
    go_wp2_with fail
    go_ret
    exact Ckd.no E.out CB2.out b1 b2 b3 b4 KS2.out
  ·
   have ga : ¬ (k : Int) < (L : Int) := by omega
   have E : Hid (o = some ⟨n1, g1, d1⟩) := by
    have := KW.out.eq
    rw [List.drop_eq_nil_of_le (by rw [HL.out]; omega)] at this
    unfold chkCat at this
    exact this.symm
   go_wp2
   go_ret
   exact Ckd.yes E.out KW.out.cb (by omega) (by omega) (by omega) (Nat.le_refl _) KW.out.ks
end Go.Proofs.YtikmgckefbjbkaaGreatDoor

/-! ### Right3 -/

namespace Go.Proofs.YtikmgckefbjbkaaGreatDoor
open Go.RowKit

theorem Cb.groups {w : World} {C : Nat} {ere : Bool} {n g d : Nat} (h : Cb w C ere n g d) (j : Nat) : Cb (w.setCell ⟨C, 2, none⟩ (.int .i64 (j : Int))) C ere n j d := bl_put h _
theorem Cb.deep {w : World} {C : Nat} {ere : Bool} {n g d : Nat} (h : Cb w C ere n g d) (j : Nat) : Cb (w.setCell ⟨C, 3, none⟩ (.int .i64 (j : Int))) C ere n g j := bl_put h _
theorem Cb.nodes {w : World} {C : Nat} {ere : Bool} {n g d : Nat} (h : Cb w C ere n g d) (j : Nat) : Cb (w.setCell ⟨C, 1, none⟩ (.int .i64 (j : Int))) C ere j g d := bl_put h _

set_option maxHeartbeats 2000000 in
set_option maxRecDepth 100000 in
theorem rep_any (ere : Bool) (r : Rx) (H : RightSaid ere r) (C : Nat) (ok : Nat → Prop) (k mn mx m : Int) (t : W4) (ad : Option Addr) (l c : Nat) (n g d : Nat) (w : World) (hr : RowAt w ok [r] ad l c) (hok : ∀ x, ok x → x ≠ C) (hc : Cb w C ere n g d) (hn : n ≤ 40) (hg : g ≤ n) (hd : d ≤ 6) :
  Calls Tryz.prog 47 #[.pointer (some ⟨C, 0, none⟩), rxv k mn mx m t (.slice ad l c)] w fun e w' => Ckd C ere d (if timesFit mn mx then chkRep ere [r] ⟨n, g, d⟩ else none) w e w' := by
 have hle : l = 1 := hr.ln
 subst hle
 have hlc := hr.cp
 obtain ⟨bb, oo, kk, mn', mx', mm', tt', ad', ll', cc', e1, hbb, i1, ce1⟩ := hr.at 0 r rfl
 subst e1
 rw [Nat.zero_mul, Nat.add_zero] at ce1
 have I1 := hid i1
 have CE1 := hid ce1
 have hkk : r.k = kk := i1.kind'
 have HKK := hid hkk
 have HC := hid hc
 have hCw := hc.lt
 have HOK := hid hok
 have HH := hid H
 clear hr i1 ce1 hkk hc hok H
 obtain ⟨tf, htf⟩ : ∃ tf, timesFit mn mx = tf := ⟨_, rfl⟩
 have TF : Hid (∀ w, Calls Tryz.prog 66 #[.int .i64 mn, .int .i64 mx] w fun e w' => e = .returned (.bool tf) ∧ w' = w) := fun w => by have := timesFit_any mn mx w; rw [htf] at this; exact this
 rw [htf]
 clear htf
 obtain ⟨mr, hmr⟩ : ∃ mr, mayRep kk = mr := ⟨_, rfl⟩
 have RP : Hid (∀ w, Calls Tryz.prog 67 #[.int .i64 kk] w fun e w' => e = .returned (.bool mr) ∧ w' = w) := fun w => by
  have := repeatable_any kk w
  rw [show (kk == 1 || kk == 5 || kk == 6) = mr from hmr] at this
  exact this
 have E0 : Hid (chkRep ere [r] ⟨n, g, d⟩ = if mr then chk ere r false false ⟨n, g, d⟩ else none) := by show _ = _; rw [chkRep, HKK.out, hmr]
 clear hmr
 go_enter Tryz.func47, Tryz.ntmps47
 go_upto_region 1 with fail
 refine opq (fun W0 => W0.heap[w.heap.size]? = some (rxo k mn mx m t (.slice (some ⟨bb, oo, none⟩) 1 c)) ∧ Kp w W0) ⟨by (first | exact last_at _ _ _ (by simp) | (refine bl_alloc ?_ _; first | exact last_at _ _ _ (by simp) | (refine bl_alloc ?_ _; first | exact last_at _ _ _ (by simp) | (refine bl_alloc ?_ _; exact last_at _ _ _ (by simp))))), by exact (by repeat (first | exact Kp.refl _ | refine Kp.alloc ?_ _ | refine Kp.drew ?_ | refine Kp.drewN _ ?_))⟩ ?_
 rintro W0 ⟨xA0, xK0⟩
 have A0 : Hid (W0.heap[w.heap.size]? = some (rxo k mn mx m t (.slice (some ⟨bb, oo, none⟩) 1 c))) := xA0
 have K0 : Hid (Kp w W0) := xK0
 clear xA0 xK0
 obtain ⟨a0, a1, a2, a3, a4, a5, a6, a7, a8⟩ := cells9c A0.out
 have CB0 := hid (HC.out.kp K0.out)
 have KS0 := hid (K0.out.ks (Nat.le_of_lt hCw))
 have CE0 := hid (CE1.out.turn (K0.out.block _ hbb))
 obtain ⟨x0, x1, x2, x3, x4, x5, x6, x7, x8⟩ := cells_of_is CE0.out
 go_wp2_with fail
 refine (TF.out _).mono ?_
 rintro e W0 ⟨rfl, rfl⟩
 cases tf with
 | false =>
  go_wp2_with fail
  go_ret
  exact Ckd.no rfl CB0.out (by omega) (by omega) (by omega) (Nat.le_refl _) KS0.out
 | true =>
  go_wp2_with fail
  refine (RP.out _).mono ?_
  rintro e W0 ⟨rfl, rfl⟩
  cases mr with
  | false =>
   go_wp2_with fail
   go_ret
   exact Ckd.no (by rw [E0.out]; rfl) CB0.out (by omega) (by omega) (by omega) (Nat.le_refl _) KS0.out
  | true =>
   go_wp2_with fail
   clear x0 x1 x2 x3 x4 x5 x6 x7 x8 a0 a1 a2 a3 a4 a5 a6 a7 a8
   refine (HH.out.all C ok _ false false n g d _ (I1.out.kp K0.out) HOK.out CB0.out hn hg hd).mono ?_
   intro e W2 hcd
   have HE : Hid (chkRep ere [r] ⟨n, g, d⟩ = chk ere r false false ⟨n, g, d⟩) := by show _ = _; rw [E0.out]; rfl
   rw [← HE.out] at hcd
   rcases hcd.form with ⟨c2, ho2, rfl, hcb2, hks2⟩ | ⟨ho2, rfl, ⟨n2, g2', d2, hcb2, b1, b2, b3, b4⟩, hks2⟩
   ·
    have HCD := hid (show Ckd C ere d (if true = true then chkRep ere [r] ⟨n, g, d⟩ else none) w (.returned (.bool true)) W2 from by
     obtain ⟨q, h1, h2, h3, h4⟩ := hcd.ex
     exact ⟨q, h1, h2, h3, KS0.out.trans h4⟩)
    clear hcd ho2 hcb2 hks2
    go_wp2_with fail
    go_ret
    exact HCD.out
   ·
    have HCD := hid (show Ckd C ere d (if true = true then chkRep ere [r] ⟨n, g, d⟩ else none) w (.returned (.bool false)) W2 from by
     obtain ⟨q, h1, h2, h3, h4⟩ := hcd.ex
     exact ⟨q, h1, h2, h3, KS0.out.trans h4⟩)
    clear hcd ho2 hcb2 hks2
    go_wp2_with fail
    go_ret
    exact HCD.out

set_option maxHeartbeats 2000000 in
set_option maxRecDepth 100000 in
theorem cgroup_any (ere : Bool) (r : Rx) (H : RightSaid ere r) (C : Nat) (ok : Nat → Prop) (k mn mx m : Int) (t : W4) (ad : Option Addr) (l c : Nat) (n g d : Nat) (w : World) (hr : RowAt w ok [r] ad l c) (hok : ∀ x, ok x → x ≠ C) (hc : Cb w C ere n g d) (hn : n ≤ 40) (hg : g + 1 ≤ n) (hd : d ≤ 6) :
  Calls Tryz.prog 48 #[.pointer (some ⟨C, 0, none⟩), rxv k mn mx m t (.slice ad l c)] w fun e w' => Ckd C ere d (if m ≠ (g + 1 : Nat) ∨ g + 1 > 3 ∨ d = 6 then none else chkGroup ere [r] ⟨n, g + 1, d + 1⟩) w e w' := by
 have hle : l = 1 := hr.ln
 subst hle
 have hlc := hr.cp
 obtain ⟨bb, oo, kk, mn', mx', mm', tt', ad', ll', cc', e1, hbb, i1, ce1⟩ := hr.at 0 r rfl
 subst e1
 rw [Nat.zero_mul, Nat.add_zero] at ce1
 have I1 := hid i1
 have CE1 := hid ce1
 have HC := hid hc
 have hCw := hc.lt
 have HOK := hid hok
 have HH := hid H
 have hbC : Hid (bb ≠ C) := by
  obtain ⟨b', o', h1, h2, _, _⟩ := hr.ex (by simp)
  injection h1 with h1; injection h1 with h1 _
  rw [h1]; exact hok _ h2
 clear hr i1 ce1 hc hok H
 have gg : IntKind.i64.wrap ((g : Int) + 1) = (g : Int) + 1 := by rw [IntKind.wrap_i64]; omega
 have gd : IntKind.i64.wrap ((d : Int) + 1) = (d : Int) + 1 := by rw [IntKind.wrap_i64]; omega
 obtain ⟨o, ho⟩ : ∃ o, (if m ≠ (g + 1 : Nat) ∨ g + 1 > 3 ∨ d = 6 then none else chkGroup ere [r] ⟨n, g + 1, d + 1⟩) = o := ⟨_, rfl⟩
 rw [ho]
 have HO := hid ho
 clear ho
 go_enter Tryz.func48, Tryz.ntmps48
 go_upto_region 1 with fail
 refine opq (fun W0 => W0.heap[w.heap.size]? = some (rxo k mn mx m t (.slice (some ⟨bb, oo, none⟩) 1 c)) ∧ Cb W0 C ere n g d ∧ Kp w W0) ⟨by (first | exact last_at _ _ _ (by simp) | (refine bl_alloc ?_ _; first | exact last_at _ _ _ (by simp) | (refine bl_alloc ?_ _; first | exact last_at _ _ _ (by simp) | (refine bl_alloc ?_ _; exact last_at _ _ _ (by simp))))), by exact HC.out.kp (by repeat (first | exact Kp.refl _ | refine Kp.alloc ?_ _ | refine Kp.drew ?_ | refine Kp.drewN _ ?_)), by exact (by repeat (first | exact Kp.refl _ | refine Kp.alloc ?_ _ | refine Kp.drew ?_ | refine Kp.drewN _ ?_))⟩ ?_
 rintro W0 ⟨xA0, xCB0, xK0⟩
 have A0 : Hid (W0.heap[w.heap.size]? = some (rxo k mn mx m t (.slice (some ⟨bb, oo, none⟩) 1 c))) := xA0
 have CB0 : Hid (Cb W0 C ere n g d) := xCB0
 have K0 : Hid (Kp w W0) := xK0
 clear xA0 xCB0 xK0
 have c2 := CB0.out.cells.2.2.1
 have f2 := bl_frozen CB0.out 2
 go_upto_region 2 with fail
 clear c2 f2
 refine opq (fun W1 => W1.heap[w.heap.size]? = some (rxo k mn mx m t (.slice (some ⟨bb, oo, none⟩) 1 c)) ∧ Cb W1 C ere n (g + 1) d ∧ Ks C w W1) ⟨by exact bl_set A0.out (by omega) _, by exact CB0.out.groups (g + 1), by exact (K0.out.ks (Nat.le_of_lt hCw)).set 2 _⟩ ?_
 rintro W1 ⟨xA1, xCB1, xKS1⟩
 have A1 : Hid (W1.heap[w.heap.size]? = some (rxo k mn mx m t (.slice (some ⟨bb, oo, none⟩) 1 c))) := xA1
 have CB1 : Hid (Cb W1 C ere n (g + 1) d) := xCB1
 have KS1 : Hid (Ks C w W1) := xKS1
 clear xA1 xCB1 xKS1
 have CE0 := hid ((CE1.out.turn (K0.out.block _ hbb)))
 have I0 := hid (I1.out.ks KS1.out (fun x hx _ => HOK.out x hx))
 have CEk := hid (CE1.out.turn (KS1.out.block _ hbb hbC.out))
 clear A0 CB0 K0 CE0
 by_cases h1 : m = ((g + 1 : Nat) : Int)
 ·
  have n1 : (m != (g : Int) + 1) = false := by rw [h1]; simp
  have n1' : m = (g : Int) + 1 := by omega
  by_cases h2 : g + 1 > 3
  ·
   have n2 : (3 : Int) < (g : Int) + 1 := by omega
   have E : Hid (o = none) := by show _ = _; rw [← HO.out, if_pos (Or.inr (Or.inl h2))]
   clear h1 n1'
   go_cut [33] (fun v wc => v = .bool true ∧ Kp W1 wc)
   case first =>
    have Q0 : Kp W1 W1.drew := (Kp.refl _).drew
    have MK : Hid (∀ W, Kp W1 W → W.cell? ⟨w.heap.size, 3, none⟩ = some (.int .i64 m) ∧ W.cell? ⟨C, 2, none⟩ = some (.int .i64 ((g : Int) + 1)) ∧ W.cell? ⟨C, 3, none⟩ = some (.int .i64 (d : Int)) ∧ Hid (Kp W1 W)) := fun W k => ⟨bl_cell (bl_kp A1.out k) 3 _ rfl, (CB1.out.kp k).cells.2.2.1, (CB1.out.kp k).cells.2.2.2, k⟩
    refine wp_region_noPanic ?_
    refine wp_region_held_drew (S := (fun W => W.cell? ⟨w.heap.size, 3, none⟩ = some (.int .i64 m) ∧ W.cell? ⟨C, 2, none⟩ = some (.int .i64 ((g : Int) + 1)) ∧ W.cell? ⟨C, 3, none⟩ = some (.int .i64 (d : Int)) ∧ Hid (Kp W1 W))) (by kernel_rfl) ?_ (fun hH => ?_)
    ·
     exact MK.out _ Q0
    have KQ := Q0
    refine wpAnyH_take (i := 0) (oi := { dst := some 13, op := Op.fieldAddr 27 (Operand.tmp 3) 3, type := 0, pos := "right.go:116", after := #[], guard := none }) (v := ?v0a1) rfl (by kernel_rfl) (by kernel_rfl) (by kernel_rfl) (fun _ _ _ h => h) (Or.inl ⟨by rfl, ?hy0a1⟩) hH ?r0a1
    case hy0a1 => (intro W hSw; (try dsimp only at hSw); go_simp; try (with_reducible rfl))
    try simp only [Act.put, List.setIfInBounds_toArray, List.set_cons_zero, List.set_cons_succ]
    refine wpAnyH_take (i := 1) (oi := { dst := some 14, op := Op.load 3 (Operand.tmp 13), type := 3, pos := "right.go:116", after := _, guard := none }) (v := ?v1a2) rfl (by kernel_rfl) (by kernel_rfl) (by kernel_rfl) (fun _ _ _ h => h) (Or.inl ⟨by rfl, ?hy1a2⟩) hH ?r1a2
    case hy1a2 => (intro W hSw; (try dsimp only at hSw); go_simp; try (with_reducible rfl))
    try simp only [Act.put, List.setIfInBounds_toArray, List.set_cons_zero, List.set_cons_succ]
    refine wpAnyH_take (i := 2) (oi := { dst := some 15, op := Op.move (Operand.tmp 0), type := 88, pos := "right.go:116", after := #[], guard := none }) (v := ?v2a3) rfl (by kernel_rfl) (by kernel_rfl) (by kernel_rfl) (fun _ _ _ h => h) (Or.inl ⟨by rfl, ?hy2a3⟩) hH ?r2a3
    case hy2a3 => (intro W hSw; (try dsimp only at hSw); go_simp; try (with_reducible rfl))
    try simp only [Act.put, List.setIfInBounds_toArray, List.set_cons_zero, List.set_cons_succ]
    refine wpAnyH_take (i := 3) (oi := { dst := some 16, op := Op.nilCheck (Operand.tmp 15), type := 0, pos := "right.go:116", after := _, guard := none }) (v := ?v3a4) rfl (by kernel_rfl) (by kernel_rfl) (by kernel_rfl) (fun _ _ _ h => h) (Or.inl ⟨by rfl, ?hy3a4⟩) hH ?r3a4
    case hy3a4 => (intro W hSw; (try dsimp only at hSw); go_simp; try (with_reducible rfl))
    try simp only [Act.put, List.setIfInBounds_toArray, List.set_cons_zero, List.set_cons_succ]
    refine wpAnyH_take (i := 4) (oi := { dst := some 17, op := Op.fieldAddr 70 (Operand.tmp 16) 2, type := 0, pos := "right.go:116", after := _, guard := none }) (v := ?v4a5) rfl (by kernel_rfl) (by kernel_rfl) (by kernel_rfl) (fun _ _ _ h => h) (Or.inl ⟨by rfl, ?hy4a5⟩) hH ?r4a5
    case hy4a5 => (intro W hSw; (try dsimp only at hSw); go_simp; try (with_reducible rfl))
    try simp only [Act.put, List.setIfInBounds_toArray, List.set_cons_zero, List.set_cons_succ]
    refine wpAnyH_take (i := 5) (oi := { dst := some 18, op := Op.load 3 (Operand.tmp 17), type := 3, pos := "right.go:116", after := _, guard := none }) (v := ?v5a6) rfl (by kernel_rfl) (by kernel_rfl) (by kernel_rfl) (fun _ _ _ h => h) (Or.inl ⟨by rfl, ?hy5a6⟩) hH ?r5a6
    case hy5a6 => (intro W hSw; (try dsimp only at hSw); go_simp; try (with_reducible rfl))
    try simp only [Act.put, List.setIfInBounds_toArray, List.set_cons_zero, List.set_cons_succ]
    refine wpAnyH_take (i := 6) (oi := { dst := some 19, op := Op.binOp BinOp.neq 3 (Operand.tmp 14) (Operand.tmp 18) 3, type := 4, pos := "right.go:116", after := _, guard := none }) (v := ?v6a7) rfl (by kernel_rfl) (by kernel_rfl) (by kernel_rfl) (fun _ _ _ h => h) (Or.inl ⟨by rfl, ?hy6a7⟩) hH ?r6a7
    case hy6a7 => (intro W hSw; (try dsimp only at hSw); go_simp; try (with_reducible rfl))
    try simp only [Act.put, List.setIfInBounds_toArray, List.set_cons_zero, List.set_cons_succ]
    refine wpAnyH_take (i := 7) (oi := { dst := some 20, op := Op.move (Operand.tmp 19), type := 4, pos := "right.go:116", after := _, guard := none }) (v := ?v7a8) rfl (by kernel_rfl) (by kernel_rfl) (by kernel_rfl) (fun _ _ _ h => h) (Or.inl ⟨by rfl, ?hy7a8⟩) hH ?r7a8
    case hy7a8 => (intro W hSw; (try dsimp only at hSw); go_simp; try (with_reducible rfl))
    try simp only [Act.put, List.setIfInBounds_toArray, List.set_cons_zero, List.set_cons_succ]
    refine wpAnyH_take (i := 8) (oi := { dst := some 21, op := Op.move (Operand.tmp 0), type := 88, pos := "right.go:116", after := _, guard := some (7, false) }) (v := ?v8a9) rfl (by kernel_rfl) (by kernel_rfl) (by kernel_rfl) (fun _ _ _ h => h) (Or.inl ⟨by rfl, ?hy8a9⟩) hH ?r8a9
    case hy8a9 => (intro W hSw; (try dsimp only at hSw); go_simp; try (with_reducible rfl))
    try simp only [Act.put, List.setIfInBounds_toArray, List.set_cons_zero, List.set_cons_succ]
    refine wpAnyH_take (i := 9) (oi := { dst := some 22, op := Op.nilCheck (Operand.tmp 21), type := 0, pos := "right.go:116", after := _, guard := some (7, false) }) (v := ?v9a10) rfl (by kernel_rfl) (by kernel_rfl) (by kernel_rfl) (fun _ _ _ h => h) (Or.inl ⟨by rfl, ?hy9a10⟩) hH ?r9a10
    case hy9a10 => (intro W hSw; (try dsimp only at hSw); go_simp; try (with_reducible rfl))
    try simp only [Act.put, List.setIfInBounds_toArray, List.set_cons_zero, List.set_cons_succ]
    refine wpAnyH_take (i := 10) (oi := { dst := some 23, op := Op.fieldAddr 70 (Operand.tmp 22) 2, type := 0, pos := "right.go:116", after := _, guard := some (7, false) }) (v := ?v10a11) rfl (by kernel_rfl) (by kernel_rfl) (by kernel_rfl) (fun _ _ _ h => h) (Or.inl ⟨by rfl, ?hy10a11⟩) hH ?r10a11
    case hy10a11 => (intro W hSw; (try dsimp only at hSw); go_simp; try (with_reducible rfl))
    try simp only [Act.put, List.setIfInBounds_toArray, List.set_cons_zero, List.set_cons_succ]
    refine wpAnyH_take (i := 11) (oi := { dst := some 24, op := Op.load 3 (Operand.tmp 23), type := 3, pos := "right.go:116", after := _, guard := some (7, false) }) (v := ?v11a12) rfl (by kernel_rfl) (by kernel_rfl) (by kernel_rfl) (fun _ _ _ h => h) (Or.inl ⟨by rfl, ?hy11a12⟩) hH ?r11a12
    case hy11a12 => (intro W hSw; (try dsimp only at hSw); go_simp; try (with_reducible rfl))
    try simp only [Act.put, List.setIfInBounds_toArray, List.set_cons_zero, List.set_cons_succ]
    refine wpAnyH_take (i := 12) (oi := { dst := some 25, op := Op.binOp BinOp.gtr 3 (Operand.tmp 24) (Operand.const (Value.int IntKind.i64 3)) 3, type := 4, pos := "right.go:116", after := _, guard := some (7, false) }) (v := ?v12a13) rfl (by kernel_rfl) (by kernel_rfl) (by kernel_rfl) (fun _ _ _ h => h) (Or.inl ⟨by rfl, ?hy12a13⟩) hH ?r12a13
    case hy12a13 => (intro W hSw; (try dsimp only at hSw); go_simp; try (with_reducible rfl))
    try simp only [Act.put, List.setIfInBounds_toArray, List.set_cons_zero, List.set_cons_succ]
    refine wpAnyH_take (i := 13) (oi := { dst := some 26, op := Op.pick (Operand.tmp 20) (Operand.const (Value.bool true)) (Operand.tmp 25), type := 4, pos := "right.go:116", after := _, guard := none }) (v := ?v13a14) rfl (by kernel_rfl) (by kernel_rfl) (by kernel_rfl) (fun _ _ _ h => h) (Or.inl ⟨by rfl, ?hy13a14⟩) hH ?r13a14
    case hy13a14 => (intro W hSw; (try dsimp only at hSw); go_simp; try (with_reducible rfl))
    try simp only [Act.put, List.setIfInBounds_toArray, List.set_cons_zero, List.set_cons_succ]
    refine wpAnyH_take (i := 14) (oi := { dst := some 27, op := Op.move (Operand.tmp 26), type := 4, pos := "right.go:116", after := _, guard := none }) (v := ?v14a15) rfl (by kernel_rfl) (by kernel_rfl) (by kernel_rfl) (fun _ _ _ h => h) (Or.inl ⟨by rfl, ?hy14a15⟩) hH ?r14a15
    case hy14a15 => (intro W hSw; (try dsimp only at hSw); go_simp; try (with_reducible rfl))
    try simp only [Act.put, List.setIfInBounds_toArray, List.set_cons_zero, List.set_cons_succ]
    refine wpAnyH_take (i := 15) (oi := { dst := some 28, op := Op.move (Operand.tmp 0), type := 88, pos := "right.go:116", after := _, guard := some (14, false) }) (v := undef) rfl (by kernel_rfl) (by kernel_rfl) (by kernel_rfl) (fun _ _ _ h => h) (Or.inr ⟨by rfl, rfl⟩) hH ?r15a16
    try simp only [Act.put, List.setIfInBounds_toArray, List.set_cons_zero, List.set_cons_succ]
    refine wpAnyH_take (i := 16) (oi := { dst := some 29, op := Op.nilCheck (Operand.tmp 28), type := 0, pos := "right.go:116", after := _, guard := some (14, false) }) (v := undef) rfl (by kernel_rfl) (by kernel_rfl) (by kernel_rfl) (fun _ _ _ h => h) (Or.inr ⟨by rfl, rfl⟩) hH ?r16a17
    try simp only [Act.put, List.setIfInBounds_toArray, List.set_cons_zero, List.set_cons_succ]
    refine wpAnyH_take (i := 17) (oi := { dst := some 30, op := Op.fieldAddr 70 (Operand.tmp 29) 3, type := 0, pos := "right.go:116", after := _, guard := some (14, false) }) (v := undef) rfl (by kernel_rfl) (by kernel_rfl) (by kernel_rfl) (fun _ _ _ h => h) (Or.inr ⟨by rfl, rfl⟩) hH ?r17a18
    try simp only [Act.put, List.setIfInBounds_toArray, List.set_cons_zero, List.set_cons_succ]
    refine wpAnyH_take (i := 18) (oi := { dst := some 31, op := Op.load 3 (Operand.tmp 30), type := 3, pos := "right.go:116", after := _, guard := some (14, false) }) (v := undef) rfl (by kernel_rfl) (by kernel_rfl) (by kernel_rfl) (fun _ _ _ h => h) (Or.inr ⟨by rfl, rfl⟩) hH ?r18a19
    try simp only [Act.put, List.setIfInBounds_toArray, List.set_cons_zero, List.set_cons_succ]
    refine wpAnyH_take (i := 19) (oi := { dst := some 32, op := Op.binOp BinOp.eql 3 (Operand.tmp 31) (Operand.const (Value.int IntKind.i64 6)) 3, type := 4, pos := "right.go:116", after := _, guard := some (14, false) }) (v := undef) rfl (by kernel_rfl) (by kernel_rfl) (by kernel_rfl) (fun _ _ _ h => h) (Or.inr ⟨by rfl, rfl⟩) hH ?r19a20
    try simp only [Act.put, List.setIfInBounds_toArray, List.set_cons_zero, List.set_cons_succ]
    refine wpAnyH_take (i := 20) (oi := { dst := some 33, op := Op.pick (Operand.tmp 27) (Operand.const (Value.bool true)) (Operand.tmp 32), type := 4, pos := "right.go:116", after := _, guard := none }) (v := ?v20a21) rfl (by kernel_rfl) (by kernel_rfl) (by kernel_rfl) (fun _ _ _ h => h) (Or.inl ⟨by rfl, ?hy20a21⟩) hH ?r20a21
    case hy20a21 => (intro W hSw; (try dsimp only at hSw); go_simp; try (with_reducible rfl))
    try simp only [Act.put, List.setIfInBounds_toArray, List.set_cons_zero, List.set_cons_succ]
    refine wpAnyH_done (by kernel_rfl) ?_ _
    refine NoPanic.normal ?_
    go_wp2_with fail
    go_meet
    case rel => exact ⟨rfl, KQ⟩
   case rest =>
    obtain ⟨rfl, k2⟩ := hcut
    rename World => W2
    have hC1 := CB1.out.lt
    have CB2 := hid (CB1.out.kp k2)
    have A2 := hid (bl_kp A1.out k2)
    have KS2 := hid (KS1.out.kpt' k2 hC1)
    have I2 := hid (I0.out.kp k2)
    have CE2 := hid (CEk.out.turn (k2.block _ (Nat.lt_of_lt_of_le hbb KS1.out.size)))
    clear k2 CB1 A1 KS1 I0 CEk
    go_wp2_with fail
    go_ret
    exact Ckd.no E.out CB2.out (by omega) (by omega) (by omega) (Nat.le_refl _) KS2.out
  have n2 : ¬ (3 : Int) < (g : Int) + 1 := by omega
  by_cases h3 : d = 6
  ·
   have E : Hid (o = none) := by show _ = _; rw [← HO.out, if_pos (Or.inr (Or.inr h3))]
   subst h3
   clear h1 n1'
   go_cut [33] (fun v wc => v = .bool true ∧ Kp W1 wc)
   case first =>
    have Q0 : Kp W1 W1.drew := (Kp.refl _).drew
    have MK : Hid (∀ W, Kp W1 W → W.cell? ⟨w.heap.size, 3, none⟩ = some (.int .i64 m) ∧ W.cell? ⟨C, 2, none⟩ = some (.int .i64 ((g : Int) + 1)) ∧ W.cell? ⟨C, 3, none⟩ = some (.int .i64 6) ∧ Hid (Kp W1 W)) := fun W k => ⟨bl_cell (bl_kp A1.out k) 3 _ rfl, (CB1.out.kp k).cells.2.2.1, (CB1.out.kp k).cells.2.2.2, k⟩
    refine wp_region_noPanic ?_
    refine wp_region_held_drew (S := (fun W => W.cell? ⟨w.heap.size, 3, none⟩ = some (.int .i64 m) ∧ W.cell? ⟨C, 2, none⟩ = some (.int .i64 ((g : Int) + 1)) ∧ W.cell? ⟨C, 3, none⟩ = some (.int .i64 6) ∧ Hid (Kp W1 W))) (by kernel_rfl) ?_ (fun hH => ?_)
    ·
     exact MK.out _ Q0
    have KQ := Q0
    refine wpAnyH_take (i := 0) (oi := { dst := some 13, op := Op.fieldAddr 27 (Operand.tmp 3) 3, type := 0, pos := "right.go:116", after := #[], guard := none }) (v := ?v0b1) rfl (by kernel_rfl) (by kernel_rfl) (by kernel_rfl) (fun _ _ _ h => h) (Or.inl ⟨by rfl, ?hy0b1⟩) hH ?r0b1
    case hy0b1 => (intro W hSw; (try dsimp only at hSw); go_simp; try (with_reducible rfl))
    try simp only [Act.put, List.setIfInBounds_toArray, List.set_cons_zero, List.set_cons_succ]
    refine wpAnyH_take (i := 1) (oi := { dst := some 14, op := Op.load 3 (Operand.tmp 13), type := 3, pos := "right.go:116", after := _, guard := none }) (v := ?v1b2) rfl (by kernel_rfl) (by kernel_rfl) (by kernel_rfl) (fun _ _ _ h => h) (Or.inl ⟨by rfl, ?hy1b2⟩) hH ?r1b2
    case hy1b2 => (intro W hSw; (try dsimp only at hSw); go_simp; try (with_reducible rfl))
    try simp only [Act.put, List.setIfInBounds_toArray, List.set_cons_zero, List.set_cons_succ]
    refine wpAnyH_take (i := 2) (oi := { dst := some 15, op := Op.move (Operand.tmp 0), type := 88, pos := "right.go:116", after := #[], guard := none }) (v := ?v2b3) rfl (by kernel_rfl) (by kernel_rfl) (by kernel_rfl) (fun _ _ _ h => h) (Or.inl ⟨by rfl, ?hy2b3⟩) hH ?r2b3
    case hy2b3 => (intro W hSw; (try dsimp only at hSw); go_simp; try (with_reducible rfl))
    try simp only [Act.put, List.setIfInBounds_toArray, List.set_cons_zero, List.set_cons_succ]
    refine wpAnyH_take (i := 3) (oi := { dst := some 16, op := Op.nilCheck (Operand.tmp 15), type := 0, pos := "right.go:116", after := _, guard := none }) (v := ?v3b4) rfl (by kernel_rfl) (by kernel_rfl) (by kernel_rfl) (fun _ _ _ h => h) (Or.inl ⟨by rfl, ?hy3b4⟩) hH ?r3b4
    case hy3b4 => (intro W hSw; (try dsimp only at hSw); go_simp; try (with_reducible rfl))
    try simp only [Act.put, List.setIfInBounds_toArray, List.set_cons_zero, List.set_cons_succ]
    refine wpAnyH_take (i := 4) (oi := { dst := some 17, op := Op.fieldAddr 70 (Operand.tmp 16) 2, type := 0, pos := "right.go:116", after := _, guard := none }) (v := ?v4b5) rfl (by kernel_rfl) (by kernel_rfl) (by kernel_rfl) (fun _ _ _ h => h) (Or.inl ⟨by rfl, ?hy4b5⟩) hH ?r4b5
    case hy4b5 => (intro W hSw; (try dsimp only at hSw); go_simp; try (with_reducible rfl))
    try simp only [Act.put, List.setIfInBounds_toArray, List.set_cons_zero, List.set_cons_succ]
    refine wpAnyH_take (i := 5) (oi := { dst := some 18, op := Op.load 3 (Operand.tmp 17), type := 3, pos := "right.go:116", after := _, guard := none }) (v := ?v5b6) rfl (by kernel_rfl) (by kernel_rfl) (by kernel_rfl) (fun _ _ _ h => h) (Or.inl ⟨by rfl, ?hy5b6⟩) hH ?r5b6
    case hy5b6 => (intro W hSw; (try dsimp only at hSw); go_simp; try (with_reducible rfl))
    try simp only [Act.put, List.setIfInBounds_toArray, List.set_cons_zero, List.set_cons_succ]
    refine wpAnyH_take (i := 6) (oi := { dst := some 19, op := Op.binOp BinOp.neq 3 (Operand.tmp 14) (Operand.tmp 18) 3, type := 4, pos := "right.go:116", after := _, guard := none }) (v := ?v6b7) rfl (by kernel_rfl) (by kernel_rfl) (by kernel_rfl) (fun _ _ _ h => h) (Or.inl ⟨by rfl, ?hy6b7⟩) hH ?r6b7
    case hy6b7 => (intro W hSw; (try dsimp only at hSw); go_simp; try (with_reducible rfl))
    try simp only [Act.put, List.setIfInBounds_toArray, List.set_cons_zero, List.set_cons_succ]
    refine wpAnyH_take (i := 7) (oi := { dst := some 20, op := Op.move (Operand.tmp 19), type := 4, pos := "right.go:116", after := _, guard := none }) (v := ?v7b8) rfl (by kernel_rfl) (by kernel_rfl) (by kernel_rfl) (fun _ _ _ h => h) (Or.inl ⟨by rfl, ?hy7b8⟩) hH ?r7b8
    case hy7b8 => (intro W hSw; (try dsimp only at hSw); go_simp; try (with_reducible rfl))
    try simp only [Act.put, List.setIfInBounds_toArray, List.set_cons_zero, List.set_cons_succ]
    refine wpAnyH_take (i := 8) (oi := { dst := some 21, op := Op.move (Operand.tmp 0), type := 88, pos := "right.go:116", after := _, guard := some (7, false) }) (v := ?v8b9) rfl (by kernel_rfl) (by kernel_rfl) (by kernel_rfl) (fun _ _ _ h => h) (Or.inl ⟨by rfl, ?hy8b9⟩) hH ?r8b9
    case hy8b9 => (intro W hSw; (try dsimp only at hSw); go_simp; try (with_reducible rfl))
    try simp only [Act.put, List.setIfInBounds_toArray, List.set_cons_zero, List.set_cons_succ]
    refine wpAnyH_take (i := 9) (oi := { dst := some 22, op := Op.nilCheck (Operand.tmp 21), type := 0, pos := "right.go:116", after := _, guard := some (7, false) }) (v := ?v9b10) rfl (by kernel_rfl) (by kernel_rfl) (by kernel_rfl) (fun _ _ _ h => h) (Or.inl ⟨by rfl, ?hy9b10⟩) hH ?r9b10
    case hy9b10 => (intro W hSw; (try dsimp only at hSw); go_simp; try (with_reducible rfl))
    try simp only [Act.put, List.setIfInBounds_toArray, List.set_cons_zero, List.set_cons_succ]
    refine wpAnyH_take (i := 10) (oi := { dst := some 23, op := Op.fieldAddr 70 (Operand.tmp 22) 2, type := 0, pos := "right.go:116", after := _, guard := some (7, false) }) (v := ?v10b11) rfl (by kernel_rfl) (by kernel_rfl) (by kernel_rfl) (fun _ _ _ h => h) (Or.inl ⟨by rfl, ?hy10b11⟩) hH ?r10b11
    case hy10b11 => (intro W hSw; (try dsimp only at hSw); go_simp; try (with_reducible rfl))
    try simp only [Act.put, List.setIfInBounds_toArray, List.set_cons_zero, List.set_cons_succ]
    refine wpAnyH_take (i := 11) (oi := { dst := some 24, op := Op.load 3 (Operand.tmp 23), type := 3, pos := "right.go:116", after := _, guard := some (7, false) }) (v := ?v11b12) rfl (by kernel_rfl) (by kernel_rfl) (by kernel_rfl) (fun _ _ _ h => h) (Or.inl ⟨by rfl, ?hy11b12⟩) hH ?r11b12
    case hy11b12 => (intro W hSw; (try dsimp only at hSw); go_simp; try (with_reducible rfl))
    try simp only [Act.put, List.setIfInBounds_toArray, List.set_cons_zero, List.set_cons_succ]
    refine wpAnyH_take (i := 12) (oi := { dst := some 25, op := Op.binOp BinOp.gtr 3 (Operand.tmp 24) (Operand.const (Value.int IntKind.i64 3)) 3, type := 4, pos := "right.go:116", after := _, guard := some (7, false) }) (v := ?v12b13) rfl (by kernel_rfl) (by kernel_rfl) (by kernel_rfl) (fun _ _ _ h => h) (Or.inl ⟨by rfl, ?hy12b13⟩) hH ?r12b13
    case hy12b13 => (intro W hSw; (try dsimp only at hSw); go_simp; try (with_reducible rfl))
    try simp only [Act.put, List.setIfInBounds_toArray, List.set_cons_zero, List.set_cons_succ]
    refine wpAnyH_take (i := 13) (oi := { dst := some 26, op := Op.pick (Operand.tmp 20) (Operand.const (Value.bool true)) (Operand.tmp 25), type := 4, pos := "right.go:116", after := _, guard := none }) (v := ?v13b14) rfl (by kernel_rfl) (by kernel_rfl) (by kernel_rfl) (fun _ _ _ h => h) (Or.inl ⟨by rfl, ?hy13b14⟩) hH ?r13b14
    case hy13b14 => (intro W hSw; (try dsimp only at hSw); go_simp; try (with_reducible rfl))
    try simp only [Act.put, List.setIfInBounds_toArray, List.set_cons_zero, List.set_cons_succ]
    refine wpAnyH_take (i := 14) (oi := { dst := some 27, op := Op.move (Operand.tmp 26), type := 4, pos := "right.go:116", after := _, guard := none }) (v := ?v14b15) rfl (by kernel_rfl) (by kernel_rfl) (by kernel_rfl) (fun _ _ _ h => h) (Or.inl ⟨by rfl, ?hy14b15⟩) hH ?r14b15
    case hy14b15 => (intro W hSw; (try dsimp only at hSw); go_simp; try (with_reducible rfl))
    try simp only [Act.put, List.setIfInBounds_toArray, List.set_cons_zero, List.set_cons_succ]
    refine wpAnyH_take (i := 15) (oi := { dst := some 28, op := Op.move (Operand.tmp 0), type := 88, pos := "right.go:116", after := _, guard := some (14, false) }) (v := ?v15b16) rfl (by kernel_rfl) (by kernel_rfl) (by kernel_rfl) (fun _ _ _ h => h) (Or.inl ⟨by rfl, ?hy15b16⟩) hH ?r15b16
    case hy15b16 => (intro W hSw; (try dsimp only at hSw); go_simp; try (with_reducible rfl))
    try simp only [Act.put, List.setIfInBounds_toArray, List.set_cons_zero, List.set_cons_succ]
    refine wpAnyH_take (i := 16) (oi := { dst := some 29, op := Op.nilCheck (Operand.tmp 28), type := 0, pos := "right.go:116", after := _, guard := some (14, false) }) (v := ?v16b17) rfl (by kernel_rfl) (by kernel_rfl) (by kernel_rfl) (fun _ _ _ h => h) (Or.inl ⟨by rfl, ?hy16b17⟩) hH ?r16b17
    case hy16b17 => (intro W hSw; (try dsimp only at hSw); go_simp; try (with_reducible rfl))
    try simp only [Act.put, List.setIfInBounds_toArray, List.set_cons_zero, List.set_cons_succ]
    refine wpAnyH_take (i := 17) (oi := { dst := some 30, op := Op.fieldAddr 70 (Operand.tmp 29) 3, type := 0, pos := "right.go:116", after := _, guard := some (14, false) }) (v := ?v17b18) rfl (by kernel_rfl) (by kernel_rfl) (by kernel_rfl) (fun _ _ _ h => h) (Or.inl ⟨by rfl, ?hy17b18⟩) hH ?r17b18
    case hy17b18 => (intro W hSw; (try dsimp only at hSw); go_simp; try (with_reducible rfl))
    try simp only [Act.put, List.setIfInBounds_toArray, List.set_cons_zero, List.set_cons_succ]
    refine wpAnyH_take (i := 18) (oi := { dst := some 31, op := Op.load 3 (Operand.tmp 30), type := 3, pos := "right.go:116", after := _, guard := some (14, false) }) (v := ?v18b19) rfl (by kernel_rfl) (by kernel_rfl) (by kernel_rfl) (fun _ _ _ h => h) (Or.inl ⟨by rfl, ?hy18b19⟩) hH ?r18b19
    case hy18b19 => (intro W hSw; (try dsimp only at hSw); go_simp; try (with_reducible rfl))
    try simp only [Act.put, List.setIfInBounds_toArray, List.set_cons_zero, List.set_cons_succ]
    refine wpAnyH_take (i := 19) (oi := { dst := some 32, op := Op.binOp BinOp.eql 3 (Operand.tmp 31) (Operand.const (Value.int IntKind.i64 6)) 3, type := 4, pos := "right.go:116", after := _, guard := some (14, false) }) (v := ?v19b20) rfl (by kernel_rfl) (by kernel_rfl) (by kernel_rfl) (fun _ _ _ h => h) (Or.inl ⟨by rfl, ?hy19b20⟩) hH ?r19b20
    case hy19b20 => (intro W hSw; (try dsimp only at hSw); go_simp; try (with_reducible rfl))
    try simp only [Act.put, List.setIfInBounds_toArray, List.set_cons_zero, List.set_cons_succ]
    refine wpAnyH_take (i := 20) (oi := { dst := some 33, op := Op.pick (Operand.tmp 27) (Operand.const (Value.bool true)) (Operand.tmp 32), type := 4, pos := "right.go:116", after := _, guard := none }) (v := ?v20b21) rfl (by kernel_rfl) (by kernel_rfl) (by kernel_rfl) (fun _ _ _ h => h) (Or.inl ⟨by rfl, ?hy20b21⟩) hH ?r20b21
    case hy20b21 => (intro W hSw; (try dsimp only at hSw); go_simp; try (with_reducible rfl))
    try simp only [Act.put, List.setIfInBounds_toArray, List.set_cons_zero, List.set_cons_succ]
    refine wpAnyH_done (by kernel_rfl) ?_ _
    refine NoPanic.normal ?_
    go_wp2_with fail
    go_meet
    case rel => exact ⟨rfl, KQ⟩
   case rest =>
    obtain ⟨rfl, k2⟩ := hcut
    rename World => W2
    have hC1 := CB1.out.lt
    have CB2 := hid (CB1.out.kp k2)
    have A2 := hid (bl_kp A1.out k2)
    have KS2 := hid (KS1.out.kpt' k2 hC1)
    have I2 := hid (I0.out.kp k2)
    have CE2 := hid (CEk.out.turn (k2.block _ (Nat.lt_of_lt_of_le hbb KS1.out.size)))
    clear k2 CB1 A1 KS1 I0 CEk
    go_wp2_with fail
    go_ret
    exact Ckd.no E.out CB2.out (by omega) (by omega) (by omega) (Nat.le_refl _) KS2.out
  have n3 : ((d : Int) == 6) = false := by simp; omega
  have n3' : ¬ (d : Int) = 6 := by omega
  have E0 : Hid (chkGroup ere [r] ⟨n, g + 1, d + 1⟩ = o) := by show _ = _; rw [← HO.out, if_neg (by omega)]
  clear h1 n1'
  go_cut [33] (fun v wc => v = .bool false ∧ Kp W1 wc)
  case first =>
   have Q0 : Kp W1 W1.drew := (Kp.refl _).drew
   have MK : Hid (∀ W, Kp W1 W → W.cell? ⟨w.heap.size, 3, none⟩ = some (.int .i64 m) ∧ W.cell? ⟨C, 2, none⟩ = some (.int .i64 ((g : Int) + 1)) ∧ W.cell? ⟨C, 3, none⟩ = some (.int .i64 (d : Int)) ∧ Hid (Kp W1 W)) := fun W k => ⟨bl_cell (bl_kp A1.out k) 3 _ rfl, (CB1.out.kp k).cells.2.2.1, (CB1.out.kp k).cells.2.2.2, k⟩
   refine wp_region_noPanic ?_
   refine wp_region_held_drew (S := (fun W => W.cell? ⟨w.heap.size, 3, none⟩ = some (.int .i64 m) ∧ W.cell? ⟨C, 2, none⟩ = some (.int .i64 ((g : Int) + 1)) ∧ W.cell? ⟨C, 3, none⟩ = some (.int .i64 (d : Int)) ∧ Hid (Kp W1 W))) (by kernel_rfl) ?_ (fun hH => ?_)
   ·
    exact MK.out _ Q0
   have KQ := Q0
   refine wpAnyH_take (i := 0) (oi := { dst := some 13, op := Op.fieldAddr 27 (Operand.tmp 3) 3, type := 0, pos := "right.go:116", after := #[], guard := none }) (v := ?v0c1) rfl (by kernel_rfl) (by kernel_rfl) (by kernel_rfl) (fun _ _ _ h => h) (Or.inl ⟨by rfl, ?hy0c1⟩) hH ?r0c1
   case hy0c1 => (intro W hSw; (try dsimp only at hSw); go_simp; try (with_reducible rfl))
   try simp only [Act.put, List.setIfInBounds_toArray, List.set_cons_zero, List.set_cons_succ]
   refine wpAnyH_take (i := 1) (oi := { dst := some 14, op := Op.load 3 (Operand.tmp 13), type := 3, pos := "right.go:116", after := _, guard := none }) (v := ?v1c2) rfl (by kernel_rfl) (by kernel_rfl) (by kernel_rfl) (fun _ _ _ h => h) (Or.inl ⟨by rfl, ?hy1c2⟩) hH ?r1c2
   case hy1c2 => (intro W hSw; (try dsimp only at hSw); go_simp; try (with_reducible rfl))
   try simp only [Act.put, List.setIfInBounds_toArray, List.set_cons_zero, List.set_cons_succ]
   refine wpAnyH_take (i := 2) (oi := { dst := some 15, op := Op.move (Operand.tmp 0), type := 88, pos := "right.go:116", after := #[], guard := none }) (v := ?v2c3) rfl (by kernel_rfl) (by kernel_rfl) (by kernel_rfl) (fun _ _ _ h => h) (Or.inl ⟨by rfl, ?hy2c3⟩) hH ?r2c3
   case hy2c3 => (intro W hSw; (try dsimp only at hSw); go_simp; try (with_reducible rfl))
   try simp only [Act.put, List.setIfInBounds_toArray, List.set_cons_zero, List.set_cons_succ]
   refine wpAnyH_take (i := 3) (oi := { dst := some 16, op := Op.nilCheck (Operand.tmp 15), type := 0, pos := "right.go:116", after := _, guard := none }) (v := ?v3c4) rfl (by kernel_rfl) (by kernel_rfl) (by kernel_rfl) (fun _ _ _ h => h) (Or.inl ⟨by rfl, ?hy3c4⟩) hH ?r3c4
   case hy3c4 => (intro W hSw; (try dsimp only at hSw); go_simp; try (with_reducible rfl))
   try simp only [Act.put, List.setIfInBounds_toArray, List.set_cons_zero, List.set_cons_succ]
   refine wpAnyH_take (i := 4) (oi := { dst := some 17, op := Op.fieldAddr 70 (Operand.tmp 16) 2, type := 0, pos := "right.go:116", after := _, guard := none }) (v := ?v4c5) rfl (by kernel_rfl) (by kernel_rfl) (by kernel_rfl) (fun _ _ _ h => h) (Or.inl ⟨by rfl, ?hy4c5⟩) hH ?r4c5
   case hy4c5 => (intro W hSw; (try dsimp only at hSw); go_simp; try (with_reducible rfl))
   try simp only [Act.put, List.setIfInBounds_toArray, List.set_cons_zero, List.set_cons_succ]
   refine wpAnyH_take (i := 5) (oi := { dst := some 18, op := Op.load 3 (Operand.tmp 17), type := 3, pos := "right.go:116", after := _, guard := none }) (v := ?v5c6) rfl (by kernel_rfl) (by kernel_rfl) (by kernel_rfl) (fun _ _ _ h => h) (Or.inl ⟨by rfl, ?hy5c6⟩) hH ?r5c6
   case hy5c6 => (intro W hSw; (try dsimp only at hSw); go_simp; try (with_reducible rfl))
   try simp only [Act.put, List.setIfInBounds_toArray, List.set_cons_zero, List.set_cons_succ]
   refine wpAnyH_take (i := 6) (oi := { dst := some 19, op := Op.binOp BinOp.neq 3 (Operand.tmp 14) (Operand.tmp 18) 3, type := 4, pos := "right.go:116", after := _, guard := none }) (v := ?v6c7) rfl (by kernel_rfl) (by kernel_rfl) (by kernel_rfl) (fun _ _ _ h => h) (Or.inl ⟨by rfl, ?hy6c7⟩) hH ?r6c7
   case hy6c7 => (intro W hSw; (try dsimp only at hSw); go_simp; try (with_reducible rfl))
   try simp only [Act.put, List.setIfInBounds_toArray, List.set_cons_zero, List.set_cons_succ]
   refine wpAnyH_take (i := 7) (oi := { dst := some 20, op := Op.move (Operand.tmp 19), type := 4, pos := "right.go:116", after := _, guard := none }) (v := ?v7c8) rfl (by kernel_rfl) (by kernel_rfl) (by kernel_rfl) (fun _ _ _ h => h) (Or.inl ⟨by rfl, ?hy7c8⟩) hH ?r7c8
   case hy7c8 => (intro W hSw; (try dsimp only at hSw); go_simp; try (with_reducible rfl))
   try simp only [Act.put, List.setIfInBounds_toArray, List.set_cons_zero, List.set_cons_succ]
   refine wpAnyH_take (i := 8) (oi := { dst := some 21, op := Op.move (Operand.tmp 0), type := 88, pos := "right.go:116", after := _, guard := some (7, false) }) (v := ?v8c9) rfl (by kernel_rfl) (by kernel_rfl) (by kernel_rfl) (fun _ _ _ h => h) (Or.inl ⟨by rfl, ?hy8c9⟩) hH ?r8c9
   case hy8c9 => (intro W hSw; (try dsimp only at hSw); go_simp; try (with_reducible rfl))
   try simp only [Act.put, List.setIfInBounds_toArray, List.set_cons_zero, List.set_cons_succ]
   refine wpAnyH_take (i := 9) (oi := { dst := some 22, op := Op.nilCheck (Operand.tmp 21), type := 0, pos := "right.go:116", after := _, guard := some (7, false) }) (v := ?v9c10) rfl (by kernel_rfl) (by kernel_rfl) (by kernel_rfl) (fun _ _ _ h => h) (Or.inl ⟨by rfl, ?hy9c10⟩) hH ?r9c10
   case hy9c10 => (intro W hSw; (try dsimp only at hSw); go_simp; try (with_reducible rfl))
   try simp only [Act.put, List.setIfInBounds_toArray, List.set_cons_zero, List.set_cons_succ]
   refine wpAnyH_take (i := 10) (oi := { dst := some 23, op := Op.fieldAddr 70 (Operand.tmp 22) 2, type := 0, pos := "right.go:116", after := _, guard := some (7, false) }) (v := ?v10c11) rfl (by kernel_rfl) (by kernel_rfl) (by kernel_rfl) (fun _ _ _ h => h) (Or.inl ⟨by rfl, ?hy10c11⟩) hH ?r10c11
   case hy10c11 => (intro W hSw; (try dsimp only at hSw); go_simp; try (with_reducible rfl))
   try simp only [Act.put, List.setIfInBounds_toArray, List.set_cons_zero, List.set_cons_succ]
   refine wpAnyH_take (i := 11) (oi := { dst := some 24, op := Op.load 3 (Operand.tmp 23), type := 3, pos := "right.go:116", after := _, guard := some (7, false) }) (v := ?v11c12) rfl (by kernel_rfl) (by kernel_rfl) (by kernel_rfl) (fun _ _ _ h => h) (Or.inl ⟨by rfl, ?hy11c12⟩) hH ?r11c12
   case hy11c12 => (intro W hSw; (try dsimp only at hSw); go_simp; try (with_reducible rfl))
   try simp only [Act.put, List.setIfInBounds_toArray, List.set_cons_zero, List.set_cons_succ]
   refine wpAnyH_take (i := 12) (oi := { dst := some 25, op := Op.binOp BinOp.gtr 3 (Operand.tmp 24) (Operand.const (Value.int IntKind.i64 3)) 3, type := 4, pos := "right.go:116", after := _, guard := some (7, false) }) (v := ?v12c13) rfl (by kernel_rfl) (by kernel_rfl) (by kernel_rfl) (fun _ _ _ h => h) (Or.inl ⟨by rfl, ?hy12c13⟩) hH ?r12c13
   case hy12c13 => (intro W hSw; (try dsimp only at hSw); go_simp; try (with_reducible rfl))
   try simp only [Act.put, List.setIfInBounds_toArray, List.set_cons_zero, List.set_cons_succ]
   refine wpAnyH_take (i := 13) (oi := { dst := some 26, op := Op.pick (Operand.tmp 20) (Operand.const (Value.bool true)) (Operand.tmp 25), type := 4, pos := "right.go:116", after := _, guard := none }) (v := ?v13c14) rfl (by kernel_rfl) (by kernel_rfl) (by kernel_rfl) (fun _ _ _ h => h) (Or.inl ⟨by rfl, ?hy13c14⟩) hH ?r13c14
   case hy13c14 => (intro W hSw; (try dsimp only at hSw); go_simp; try (with_reducible rfl))
   try simp only [Act.put, List.setIfInBounds_toArray, List.set_cons_zero, List.set_cons_succ]
   refine wpAnyH_take (i := 14) (oi := { dst := some 27, op := Op.move (Operand.tmp 26), type := 4, pos := "right.go:116", after := _, guard := none }) (v := ?v14c15) rfl (by kernel_rfl) (by kernel_rfl) (by kernel_rfl) (fun _ _ _ h => h) (Or.inl ⟨by rfl, ?hy14c15⟩) hH ?r14c15
   case hy14c15 => (intro W hSw; (try dsimp only at hSw); go_simp; try (with_reducible rfl))
   try simp only [Act.put, List.setIfInBounds_toArray, List.set_cons_zero, List.set_cons_succ]
   refine wpAnyH_take (i := 15) (oi := { dst := some 28, op := Op.move (Operand.tmp 0), type := 88, pos := "right.go:116", after := _, guard := some (14, false) }) (v := ?v15c16) rfl (by kernel_rfl) (by kernel_rfl) (by kernel_rfl) (fun _ _ _ h => h) (Or.inl ⟨by rfl, ?hy15c16⟩) hH ?r15c16
   case hy15c16 => (intro W hSw; (try dsimp only at hSw); go_simp; try (with_reducible rfl))
   try simp only [Act.put, List.setIfInBounds_toArray, List.set_cons_zero, List.set_cons_succ]
   refine wpAnyH_take (i := 16) (oi := { dst := some 29, op := Op.nilCheck (Operand.tmp 28), type := 0, pos := "right.go:116", after := _, guard := some (14, false) }) (v := ?v16c17) rfl (by kernel_rfl) (by kernel_rfl) (by kernel_rfl) (fun _ _ _ h => h) (Or.inl ⟨by rfl, ?hy16c17⟩) hH ?r16c17
   case hy16c17 => (intro W hSw; (try dsimp only at hSw); go_simp; try (with_reducible rfl))
   try simp only [Act.put, List.setIfInBounds_toArray, List.set_cons_zero, List.set_cons_succ]
   refine wpAnyH_take (i := 17) (oi := { dst := some 30, op := Op.fieldAddr 70 (Operand.tmp 29) 3, type := 0, pos := "right.go:116", after := _, guard := some (14, false) }) (v := ?v17c18) rfl (by kernel_rfl) (by kernel_rfl) (by kernel_rfl) (fun _ _ _ h => h) (Or.inl ⟨by rfl, ?hy17c18⟩) hH ?r17c18
   case hy17c18 => (intro W hSw; (try dsimp only at hSw); go_simp; try (with_reducible rfl))
   try simp only [Act.put, List.setIfInBounds_toArray, List.set_cons_zero, List.set_cons_succ]
   refine wpAnyH_take (i := 18) (oi := { dst := some 31, op := Op.load 3 (Operand.tmp 30), type := 3, pos := "right.go:116", after := _, guard := some (14, false) }) (v := ?v18c19) rfl (by kernel_rfl) (by kernel_rfl) (by kernel_rfl) (fun _ _ _ h => h) (Or.inl ⟨by rfl, ?hy18c19⟩) hH ?r18c19
   case hy18c19 => (intro W hSw; (try dsimp only at hSw); go_simp; try (with_reducible rfl))
   try simp only [Act.put, List.setIfInBounds_toArray, List.set_cons_zero, List.set_cons_succ]
   refine wpAnyH_take (i := 19) (oi := { dst := some 32, op := Op.binOp BinOp.eql 3 (Operand.tmp 31) (Operand.const (Value.int IntKind.i64 6)) 3, type := 4, pos := "right.go:116", after := _, guard := some (14, false) }) (v := ?v19c20) rfl (by kernel_rfl) (by kernel_rfl) (by kernel_rfl) (fun _ _ _ h => h) (Or.inl ⟨by rfl, ?hy19c20⟩) hH ?r19c20
   case hy19c20 => (intro W hSw; (try dsimp only at hSw); go_simp; try (with_reducible rfl))
   try simp only [Act.put, List.setIfInBounds_toArray, List.set_cons_zero, List.set_cons_succ]
   refine wpAnyH_take (i := 20) (oi := { dst := some 33, op := Op.pick (Operand.tmp 27) (Operand.const (Value.bool true)) (Operand.tmp 32), type := 4, pos := "right.go:116", after := _, guard := none }) (v := ?v20c21) rfl (by kernel_rfl) (by kernel_rfl) (by kernel_rfl) (fun _ _ _ h => h) (Or.inl ⟨by rfl, ?hy20c21⟩) hH ?r20c21
   case hy20c21 => (intro W hSw; (try dsimp only at hSw); go_simp; try (with_reducible rfl))
   try simp only [Act.put, List.setIfInBounds_toArray, List.set_cons_zero, List.set_cons_succ]
   refine wpAnyH_done (by kernel_rfl) ?_ _
   refine NoPanic.normal ?_
   go_wp2_with fail
   go_meet
   case rel => exact ⟨rfl, KQ⟩
  case rest =>
   obtain ⟨rfl, k2⟩ := hcut
   rename World => W2
   have hC1 := CB1.out.lt
   have CB2 := hid (CB1.out.kp k2)
   have A2 := hid (bl_kp A1.out k2)
   have KS2 := hid (KS1.out.kpt' k2 hC1)
   have I2 := hid (I0.out.kp k2)
   have CE2 := hid (CEk.out.turn (k2.block _ (Nat.lt_of_lt_of_le hbb KS1.out.size)))
   clear k2 CB1 A1 KS1 I0 CEk
   have c3 := CB2.out.cells.2.2.2
   have f3 := bl_frozen CB2.out 3
   have hC2 := CB2.out.lt
   go_upto_region 5 with fail
   clear c3 f3
   refine opq (fun W3 => W3.heap[w.heap.size]? = some (rxo k mn mx m t (.slice (some ⟨bb, oo, none⟩) 1 c)) ∧ Cb W3 C ere n (g + 1) (d + 1) ∧ Ks C w W3 ∧ Is W3 ok r (rxv kk mn' mx' mm' tt' (.slice ad' ll' cc')) ∧ CellsAt W3 bb oo (rxv kk mn' mx' mm' tt' (.slice ad' ll' cc'))) ⟨by exact bl_set A2.out (by omega) _, by exact CB2.out.deep (d + 1), by exact KS2.out.set 3 _, by exact I2.out.ks ((Ks.refl _ _).set 3 _) (fun x hx _ => HOK.out x hx), by exact CE2.out.turn (((Ks.refl C W2).set 3 _).block _ (Nat.lt_of_lt_of_le hbb KS2.out.size) hbC.out)⟩ ?_
   rintro W3 ⟨xA3, xCB3, xKS3, xI3, xCE3⟩
   have A3 : Hid (W3.heap[w.heap.size]? = some (rxo k mn mx m t (.slice (some ⟨bb, oo, none⟩) 1 c))) := xA3
   have CB3 : Hid (Cb W3 C ere n (g + 1) (d + 1)) := xCB3
   have KS3 : Hid (Ks C w W3) := xKS3
   have I3 : Hid (Is W3 ok r (rxv kk mn' mx' mm' tt' (.slice ad' ll' cc'))) := xI3
   have CE3 : Hid (CellsAt W3 bb oo (rxv kk mn' mx' mm' tt' (.slice ad' ll' cc'))) := xCE3
   clear xA3 xCB3 xKS3 xI3 xCE3
   clear A2 CB2 KS2 I2 CE2
   obtain ⟨a0, a1, a2, a3, a4, a5, a6, a7, a8⟩ := cells9c A3.out
   obtain ⟨x0, x1, x2, x3, x4, x5, x6, x7, x8⟩ := cells_of_is CE3.out
   go_wp2_with fail
   clear x0 x1 x2 x3 x4 x5 x6 x7 x8 a0 a1 a2 a3 a4 a5 a6 a7 a8
   refine (HH.out.all C ok _ true true n (g + 1) (d + 1) _ I3.out HOK.out CB3.out hn (by omega) (by omega)).mono ?_
   intro e W4 hcd
   rcases hcd.form with ⟨⟨c2, g2, d2⟩, ho2, rfl, hcb2, hks2⟩ | ⟨ho2, rfl, ⟨n2, g2', d2, hcb2, b1, b2, b3, b4⟩, hks2⟩
   ·
    have hck := chk_ok ere r true true ⟨n, g + 1, d + 1⟩ ⟨c2, g2, d2⟩ hn (by show g + 1 ≤ n; omega) ho2
    have b1 : c2 ≤ 40 := hck.1.n
    have b2 : g2 ≤ c2 := hck.1.g
    have b3 : d2 = d + 1 := hck.1.d
    subst b3
    have E : Hid (o = some ⟨c2, g2, d⟩) := by show _ = _; rw [← E0.out, chkGroup, ho2]; rfl
    have CB4 : Hid (Cb W4 C ere c2 g2 (d + 1)) := hcb2
    have KS4 := hid (KS3.out.trans hks2)
    have gd1 : IntKind.i64.wrap ((d : Int) + 1 - 1) = (d : Int) := by rw [IntKind.wrap_i64]; omega
    have gd2 : IntKind.i64.wrap (d : Int) = (d : Int) := by rw [IntKind.wrap_i64]; omega
    clear hcd ho2 hcb2 hks2 hck
    have c3 := CB4.out.cells.2.2.2
    have f3 := bl_frozen CB4.out 3
    go_wp2_with fail
    go_ret
    exact Ckd.yes E.out (CB4.out.deep d) (by omega) (by omega) (by omega) (Nat.le_refl _) (KS4.out.set 3 _)
   ·
    have E : Hid (o = none) := by show _ = _; rw [← E0.out, chkGroup, ho2]
    have CB4 : Hid (Cb W4 C ere n2 g2' d2) := hcb2
    have KS4 := hid (KS3.out.trans hks2)
    obtain ⟨d3, rfl⟩ : ∃ d3, d2 = d3 + 1 := ⟨d2 - 1, by omega⟩
    have gd1 : IntKind.i64.wrap ((d3 : Int) + 1 - 1) = (d3 : Int) := by rw [IntKind.wrap_i64]; omega
    have gd2 : IntKind.i64.wrap (d3 : Int) = (d3 : Int) := by rw [IntKind.wrap_i64]; omega
    clear hcd ho2 hcb2 hks2
    have c3 := CB4.out.cells.2.2.2
    have f3 := bl_frozen CB4.out 3
    go_wp2_with fail
    go_ret
    exact Ckd.no E.out (CB4.out.deep d3) b1 b2 (by omega) (by omega) (KS4.out.set 3 _)
 ·
  have n1 : (m != (g : Int) + 1) = true := by simp; omega
  have E : Hid (o = none) := by show _ = _; rw [← HO.out, if_pos (Or.inl h1)]
  go_cut [33] (fun v wc => v = .bool true ∧ Kp W1 wc)
  case first =>
   have Q0 : Kp W1 W1.drew := (Kp.refl _).drew
   have MK : Hid (∀ W, Kp W1 W → W.cell? ⟨w.heap.size, 3, none⟩ = some (.int .i64 m) ∧ W.cell? ⟨C, 2, none⟩ = some (.int .i64 ((g : Int) + 1)) ∧ W.cell? ⟨C, 3, none⟩ = some (.int .i64 (d : Int)) ∧ Hid (Kp W1 W)) := fun W k => ⟨bl_cell (bl_kp A1.out k) 3 _ rfl, (CB1.out.kp k).cells.2.2.1, (CB1.out.kp k).cells.2.2.2, k⟩
   refine wp_region_noPanic ?_
   refine wp_region_held_drew (S := (fun W => W.cell? ⟨w.heap.size, 3, none⟩ = some (.int .i64 m) ∧ W.cell? ⟨C, 2, none⟩ = some (.int .i64 ((g : Int) + 1)) ∧ W.cell? ⟨C, 3, none⟩ = some (.int .i64 (d : Int)) ∧ Hid (Kp W1 W))) (by kernel_rfl) ?_ (fun hH => ?_)
   ·
    exact MK.out _ Q0
   have KQ := Q0
   refine wpAnyH_take (i := 0) (oi := { dst := some 13, op := Op.fieldAddr 27 (Operand.tmp 3) 3, type := 0, pos := "right.go:116", after := #[], guard := none }) (v := ?v0d1) rfl (by kernel_rfl) (by kernel_rfl) (by kernel_rfl) (fun _ _ _ h => h) (Or.inl ⟨by rfl, ?hy0d1⟩) hH ?r0d1
   case hy0d1 => (intro W hSw; (try dsimp only at hSw); go_simp; try (with_reducible rfl))
   try simp only [Act.put, List.setIfInBounds_toArray, List.set_cons_zero, List.set_cons_succ]
   refine wpAnyH_take (i := 1) (oi := { dst := some 14, op := Op.load 3 (Operand.tmp 13), type := 3, pos := "right.go:116", after := _, guard := none }) (v := ?v1d2) rfl (by kernel_rfl) (by kernel_rfl) (by kernel_rfl) (fun _ _ _ h => h) (Or.inl ⟨by rfl, ?hy1d2⟩) hH ?r1d2
   case hy1d2 => (intro W hSw; (try dsimp only at hSw); go_simp; try (with_reducible rfl))
   try simp only [Act.put, List.setIfInBounds_toArray, List.set_cons_zero, List.set_cons_succ]
   refine wpAnyH_take (i := 2) (oi := { dst := some 15, op := Op.move (Operand.tmp 0), type := 88, pos := "right.go:116", after := #[], guard := none }) (v := ?v2d3) rfl (by kernel_rfl) (by kernel_rfl) (by kernel_rfl) (fun _ _ _ h => h) (Or.inl ⟨by rfl, ?hy2d3⟩) hH ?r2d3
   case hy2d3 => (intro W hSw; (try dsimp only at hSw); go_simp; try (with_reducible rfl))
   try simp only [Act.put, List.setIfInBounds_toArray, List.set_cons_zero, List.set_cons_succ]
   refine wpAnyH_take (i := 3) (oi := { dst := some 16, op := Op.nilCheck (Operand.tmp 15), type := 0, pos := "right.go:116", after := _, guard := none }) (v := ?v3d4) rfl (by kernel_rfl) (by kernel_rfl) (by kernel_rfl) (fun _ _ _ h => h) (Or.inl ⟨by rfl, ?hy3d4⟩) hH ?r3d4
   case hy3d4 => (intro W hSw; (try dsimp only at hSw); go_simp; try (with_reducible rfl))
   try simp only [Act.put, List.setIfInBounds_toArray, List.set_cons_zero, List.set_cons_succ]
   refine wpAnyH_take (i := 4) (oi := { dst := some 17, op := Op.fieldAddr 70 (Operand.tmp 16) 2, type := 0, pos := "right.go:116", after := _, guard := none }) (v := ?v4d5) rfl (by kernel_rfl) (by kernel_rfl) (by kernel_rfl) (fun _ _ _ h => h) (Or.inl ⟨by rfl, ?hy4d5⟩) hH ?r4d5
   case hy4d5 => (intro W hSw; (try dsimp only at hSw); go_simp; try (with_reducible rfl))
   try simp only [Act.put, List.setIfInBounds_toArray, List.set_cons_zero, List.set_cons_succ]
   refine wpAnyH_take (i := 5) (oi := { dst := some 18, op := Op.load 3 (Operand.tmp 17), type := 3, pos := "right.go:116", after := _, guard := none }) (v := ?v5d6) rfl (by kernel_rfl) (by kernel_rfl) (by kernel_rfl) (fun _ _ _ h => h) (Or.inl ⟨by rfl, ?hy5d6⟩) hH ?r5d6
   case hy5d6 => (intro W hSw; (try dsimp only at hSw); go_simp; try (with_reducible rfl))
   try simp only [Act.put, List.setIfInBounds_toArray, List.set_cons_zero, List.set_cons_succ]
   refine wpAnyH_take (i := 6) (oi := { dst := some 19, op := Op.binOp BinOp.neq 3 (Operand.tmp 14) (Operand.tmp 18) 3, type := 4, pos := "right.go:116", after := _, guard := none }) (v := ?v6d7) rfl (by kernel_rfl) (by kernel_rfl) (by kernel_rfl) (fun _ _ _ h => h) (Or.inl ⟨by rfl, ?hy6d7⟩) hH ?r6d7
   case hy6d7 => (intro W hSw; (try dsimp only at hSw); go_simp; try (with_reducible rfl))
   try simp only [Act.put, List.setIfInBounds_toArray, List.set_cons_zero, List.set_cons_succ]
   refine wpAnyH_take (i := 7) (oi := { dst := some 20, op := Op.move (Operand.tmp 19), type := 4, pos := "right.go:116", after := _, guard := none }) (v := ?v7d8) rfl (by kernel_rfl) (by kernel_rfl) (by kernel_rfl) (fun _ _ _ h => h) (Or.inl ⟨by rfl, ?hy7d8⟩) hH ?r7d8
   case hy7d8 => (intro W hSw; (try dsimp only at hSw); go_simp; try (with_reducible rfl))
   try simp only [Act.put, List.setIfInBounds_toArray, List.set_cons_zero, List.set_cons_succ]
   refine wpAnyH_take (i := 8) (oi := { dst := some 21, op := Op.move (Operand.tmp 0), type := 88, pos := "right.go:116", after := _, guard := some (7, false) }) (v := undef) rfl (by kernel_rfl) (by kernel_rfl) (by kernel_rfl) (fun _ _ _ h => h) (Or.inr ⟨by rfl, rfl⟩) hH ?r8d9
   try simp only [Act.put, List.setIfInBounds_toArray, List.set_cons_zero, List.set_cons_succ]
   refine wpAnyH_take (i := 9) (oi := { dst := some 22, op := Op.nilCheck (Operand.tmp 21), type := 0, pos := "right.go:116", after := _, guard := some (7, false) }) (v := undef) rfl (by kernel_rfl) (by kernel_rfl) (by kernel_rfl) (fun _ _ _ h => h) (Or.inr ⟨by rfl, rfl⟩) hH ?r9d10
   try simp only [Act.put, List.setIfInBounds_toArray, List.set_cons_zero, List.set_cons_succ]
   refine wpAnyH_take (i := 10) (oi := { dst := some 23, op := Op.fieldAddr 70 (Operand.tmp 22) 2, type := 0, pos := "right.go:116", after := _, guard := some (7, false) }) (v := undef) rfl (by kernel_rfl) (by kernel_rfl) (by kernel_rfl) (fun _ _ _ h => h) (Or.inr ⟨by rfl, rfl⟩) hH ?r10d11
   try simp only [Act.put, List.setIfInBounds_toArray, List.set_cons_zero, List.set_cons_succ]
   refine wpAnyH_take (i := 11) (oi := { dst := some 24, op := Op.load 3 (Operand.tmp 23), type := 3, pos := "right.go:116", after := _, guard := some (7, false) }) (v := undef) rfl (by kernel_rfl) (by kernel_rfl) (by kernel_rfl) (fun _ _ _ h => h) (Or.inr ⟨by rfl, rfl⟩) hH ?r11d12
   try simp only [Act.put, List.setIfInBounds_toArray, List.set_cons_zero, List.set_cons_succ]
   refine wpAnyH_take (i := 12) (oi := { dst := some 25, op := Op.binOp BinOp.gtr 3 (Operand.tmp 24) (Operand.const (Value.int IntKind.i64 3)) 3, type := 4, pos := "right.go:116", after := _, guard := some (7, false) }) (v := undef) rfl (by kernel_rfl) (by kernel_rfl) (by kernel_rfl) (fun _ _ _ h => h) (Or.inr ⟨by rfl, rfl⟩) hH ?r12d13
   try simp only [Act.put, List.setIfInBounds_toArray, List.set_cons_zero, List.set_cons_succ]
   refine wpAnyH_take (i := 13) (oi := { dst := some 26, op := Op.pick (Operand.tmp 20) (Operand.const (Value.bool true)) (Operand.tmp 25), type := 4, pos := "right.go:116", after := _, guard := none }) (v := ?v13d14) rfl (by kernel_rfl) (by kernel_rfl) (by kernel_rfl) (fun _ _ _ h => h) (Or.inl ⟨by rfl, ?hy13d14⟩) hH ?r13d14
   case hy13d14 => (intro W hSw; (try dsimp only at hSw); go_simp; try (with_reducible rfl))
   try simp only [Act.put, List.setIfInBounds_toArray, List.set_cons_zero, List.set_cons_succ]
   refine wpAnyH_take (i := 14) (oi := { dst := some 27, op := Op.move (Operand.tmp 26), type := 4, pos := "right.go:116", after := _, guard := none }) (v := ?v14d15) rfl (by kernel_rfl) (by kernel_rfl) (by kernel_rfl) (fun _ _ _ h => h) (Or.inl ⟨by rfl, ?hy14d15⟩) hH ?r14d15
   case hy14d15 => (intro W hSw; (try dsimp only at hSw); go_simp; try (with_reducible rfl))
   try simp only [Act.put, List.setIfInBounds_toArray, List.set_cons_zero, List.set_cons_succ]
   refine wpAnyH_take (i := 15) (oi := { dst := some 28, op := Op.move (Operand.tmp 0), type := 88, pos := "right.go:116", after := _, guard := some (14, false) }) (v := undef) rfl (by kernel_rfl) (by kernel_rfl) (by kernel_rfl) (fun _ _ _ h => h) (Or.inr ⟨by rfl, rfl⟩) hH ?r15d16
   try simp only [Act.put, List.setIfInBounds_toArray, List.set_cons_zero, List.set_cons_succ]
   refine wpAnyH_take (i := 16) (oi := { dst := some 29, op := Op.nilCheck (Operand.tmp 28), type := 0, pos := "right.go:116", after := _, guard := some (14, false) }) (v := undef) rfl (by kernel_rfl) (by kernel_rfl) (by kernel_rfl) (fun _ _ _ h => h) (Or.inr ⟨by rfl, rfl⟩) hH ?r16d17
   try simp only [Act.put, List.setIfInBounds_toArray, List.set_cons_zero, List.set_cons_succ]
   refine wpAnyH_take (i := 17) (oi := { dst := some 30, op := Op.fieldAddr 70 (Operand.tmp 29) 3, type := 0, pos := "right.go:116", after := _, guard := some (14, false) }) (v := undef) rfl (by kernel_rfl) (by kernel_rfl) (by kernel_rfl) (fun _ _ _ h => h) (Or.inr ⟨by rfl, rfl⟩) hH ?r17d18
   try simp only [Act.put, List.setIfInBounds_toArray, List.set_cons_zero, List.set_cons_succ]
   refine wpAnyH_take (i := 18) (oi := { dst := some 31, op := Op.load 3 (Operand.tmp 30), type := 3, pos := "right.go:116", after := _, guard := some (14, false) }) (v := undef) rfl (by kernel_rfl) (by kernel_rfl) (by kernel_rfl) (fun _ _ _ h => h) (Or.inr ⟨by rfl, rfl⟩) hH ?r18d19
   try simp only [Act.put, List.setIfInBounds_toArray, List.set_cons_zero, List.set_cons_succ]
   refine wpAnyH_take (i := 19) (oi := { dst := some 32, op := Op.binOp BinOp.eql 3 (Operand.tmp 31) (Operand.const (Value.int IntKind.i64 6)) 3, type := 4, pos := "right.go:116", after := _, guard := some (14, false) }) (v := undef) rfl (by kernel_rfl) (by kernel_rfl) (by kernel_rfl) (fun _ _ _ h => h) (Or.inr ⟨by rfl, rfl⟩) hH ?r19d20
   try simp only [Act.put, List.setIfInBounds_toArray, List.set_cons_zero, List.set_cons_succ]
   refine wpAnyH_take (i := 20) (oi := { dst := some 33, op := Op.pick (Operand.tmp 27) (Operand.const (Value.bool true)) (Operand.tmp 32), type := 4, pos := "right.go:116", after := _, guard := none }) (v := ?v20d21) rfl (by kernel_rfl) (by kernel_rfl) (by kernel_rfl) (fun _ _ _ h => h) (Or.inl ⟨by rfl, ?hy20d21⟩) hH ?r20d21
   case hy20d21 => (intro W hSw; (try dsimp only at hSw); go_simp; try (with_reducible rfl))
   try simp only [Act.put, List.setIfInBounds_toArray, List.set_cons_zero, List.set_cons_succ]
   refine wpAnyH_done (by kernel_rfl) ?_ _
   refine NoPanic.normal ?_
   go_wp2_with fail
   go_meet
   case rel => exact ⟨rfl, KQ⟩
  case rest =>
   obtain ⟨rfl, k2⟩ := hcut
   rename World => W2
   have hC1 := CB1.out.lt
   have CB2 := hid (CB1.out.kp k2)
   have A2 := hid (bl_kp A1.out k2)
   have KS2 := hid (KS1.out.kpt' k2 hC1)
   have I2 := hid (I0.out.kp k2)
   have CE2 := hid (CEk.out.turn (k2.block _ (Nat.lt_of_lt_of_le hbb KS1.out.size)))
   clear k2 CB1 A1 KS1 I0 CEk
   go_wp2_with fail
   go_ret
   exact Ckd.no E.out CB2.out (by omega) (by omega) (by omega) (Nat.le_refl _) KS2.out
end Go.Proofs.YtikmgckefbjbkaaGreatDoor

/-! ### Right4 -/

namespace Go.Proofs.YtikmgckefbjbkaaGreatDoor
open Go.RowKit

theorem chkAlt_cons (ere : Bool) (r : Rx) (rs : List Rx) (c : Ck) : chkAlt ere (r :: rs) c = if r.k = 3 then none else (chk ere r false false c).bind fun c' => chkAlt ere rs c' := by
 rw [chkAlt]
 split
 ·
  rfl
 ·
  cases chk ere r false false c <;> rfl

/-- One of a choice: is it not as it should be? -/
structure NotD (C : Nat) (ere : Bool) (d0 : Nat) (o : Option Ck) (w : World) (e : Ending) (w' : World) : Prop where
 ex : ∃ b, e = .returned (.bool (!b)) ∧ Ckd C ere d0 o w (.returned (.bool b)) w'
theorem Ckd.from {C : Nat} {ere : Bool} {d0 : Nat} {o : Option Ck} {w w1 w' : World} {e : Ending} (h : Ckd C ere d0 o w1 e w') (k : Ks C w w1) : Ckd C ere d0 o w e w' := by
 obtain ⟨b, h1, h2, h3, h4⟩ := h.ex
 exact ⟨b, h1, h2, h3, k.trans h4⟩

set_option maxHeartbeats 2000000 in
set_option maxRecDepth 100000 in
theorem alt1_any (ere : Bool) (r : Rx) (H : RightSaid ere r) (C V : Nat) (ok : Nat → Prop) (k mn mx m : Int) (t : W4) (ad : Option Addr) (l c : Nat) (n g d : Nat) (w : World) (hI : Is w ok r (rxv k mn mx m t (.slice ad l c))) (hok : ∀ x, ok x → x ≠ C) (hc : Cb w C ere n g d) (hV : w.heap[V]? = some (.cells #[.pointer (some ⟨C, 0, none⟩)] 88)) (hn : n ≤ 40) (hg : g ≤ n) (hd : d ≤ 6) :
  Calls Tryz.prog 65 #[rxv k mn mx m t (.slice ad l c), .pointer (some ⟨V, 0, none⟩)] w fun e w' => NotD C ere d (if k = 3 then none else chk ere r false false ⟨n, g, d⟩) w e w' := by
 have HI := hid hI
 have HOK := hid hok
 have HC := hid hc
 have HV := hid hV
 have hCw := hc.lt
 have HH := hid H
 clear hI hok hc hV H
 go_enter Tryz.func65, Tryz.ntmps65
 go_upto_region 1 with fail
 refine opq (fun W0 => W0.heap[w.heap.size]? = some (rxo k mn mx m t (.slice ad l c)) ∧ Cb W0 C ere n g d ∧ W0.heap[V]? = some (.cells #[.pointer (some ⟨C, 0, none⟩)] 88) ∧ Is W0 ok r (rxv k mn mx m t (.slice ad l c)) ∧ Ks C w W0) ⟨by (first | exact last_at _ _ _ (by simp) | (refine bl_alloc ?_ _; first | exact last_at _ _ _ (by simp) | (refine bl_alloc ?_ _; first | exact last_at _ _ _ (by simp) | (refine bl_alloc ?_ _; exact last_at _ _ _ (by simp))))), by exact HC.out.kp (by repeat (first | exact Kp.refl _ | refine Kp.alloc ?_ _ | refine Kp.drew ?_ | refine Kp.drewN _ ?_)), by exact bl_kp HV.out (by repeat (first | exact Kp.refl _ | refine Kp.alloc ?_ _ | refine Kp.drew ?_ | refine Kp.drewN _ ?_)), by exact HI.out.kp (by repeat (first | exact Kp.refl _ | refine Kp.alloc ?_ _ | refine Kp.drew ?_ | refine Kp.drewN _ ?_)), by exact Kp.ks (by repeat (first | exact Kp.refl _ | refine Kp.alloc ?_ _ | refine Kp.drew ?_ | refine Kp.drewN _ ?_)) (Nat.le_of_lt hCw)⟩ ?_
 rintro W0 ⟨xA0, xCB0, xV0, xI0, xKS0⟩
 have A0 : Hid (W0.heap[w.heap.size]? = some (rxo k mn mx m t (.slice ad l c))) := xA0
 have CB0 : Hid (Cb W0 C ere n g d) := xCB0
 have V0 : Hid (W0.heap[V]? = some (.cells #[.pointer (some ⟨C, 0, none⟩)] 88)) := xV0
 have I0 : Hid (Is W0 ok r (rxv k mn mx m t (.slice ad l c))) := xI0
 have KS0 : Hid (Ks C w W0) := xKS0
 clear xA0 xCB0 xV0 xI0 xKS0
 obtain ⟨a0, a1, a2, a3, a4, a5, a6, a7, a8⟩ := cells9c A0.out
 have v0 := bl_cell V0.out 0 _ rfl
 by_cases h3 : k = 3
 ·
  subst h3
  go_wp2_with fail
  go_ret
  exact ⟨false, rfl, Ckd.no rfl CB0.out (by omega) (by omega) (by omega) (Nat.le_refl _) KS0.out⟩
 have g3 : (k == 3) = false := by simp [h3]
 go_wp2_with fail
 clear a0 a1 a2 a3 a4 a5 a6 a7 a8 v0
 refine (HH.out.all C ok _ false false n g d _ I0.out HOK.out CB0.out hn hg hd).mono ?_
 intro e W2 hcd
 obtain ⟨b, rfl, hb⟩ : ∃ b, e = .returned (.bool b) ∧ True := by
  obtain ⟨b, h1, _⟩ := hcd.ex
  exact ⟨b, h1, trivial⟩
 have CD := hid (hcd.from KS0.out)
 clear hcd hb
 go_wp2_with fail
 go_ret
 exact ⟨b, rfl, CD.out⟩

/-- In the loop of a choice's check. -/
structure Aw (ere : Bool) (C V : Nat) (d0 : Nat) (w : World) (ts : List Rx) (o : Option Ck) (k : Nat) (wr : World) (c : Ck) : Prop where
 cb : Cb wr C ere c.n c.g c.d
 v : wr.heap[V]? = some (.cells #[.pointer (some ⟨C, 0, none⟩)] 88)
 n : c.n ≤ 40
 g : c.g ≤ c.n
 d : c.d = d0
 eq : chkAlt ere (ts.drop k) c = o
 ks : Ks C w wr
/-- Which of them is not right: below nought, if none. -/
structure IdxD (C : Nat) (ere : Bool) (d0 : Nat) (o : Option Ck) (w : World) (e : Ending) (w' : World) : Prop where
 ex : ∃ (i : Int) (b : Bool), e = .returned (.int .i64 i) ∧ decide (0 ≤ i) = !b ∧ Ckd C ere d0 o w (.returned (.bool b)) w'

set_option maxHeartbeats 2000000 in
set_option maxRecDepth 100000 in
theorem indexFunc_any (ere : Bool) (ts : List Rx) (H : ∀ r, r ∈ ts → RightSaid ere r) (C V : Nat) (ok : Nat → Prop) (ad : Option Addr) (l c : Nat) (n g d : Nat) (w : World) (hr : RowAt w ok ts ad l c) (hok : ∀ x, ok x → x ≠ C) (hc : Cb w C ere n g d) (hV : w.heap[V]? = some (.cells #[.pointer (some ⟨C, 0, none⟩)] 88)) (hVC : V ≠ C) (hn : n ≤ 40) (hg : g ≤ n) (hd : d ≤ 6) (hl : ts.length ≤ 1000000) :
  Calls Tryz.prog 78 #[.slice ad l c, .func (.func 65) #[] #[.pointer (some ⟨V, 0, none⟩)]] w fun e w' => IdxD C ere d (chkAlt ere ts ⟨n, g, d⟩) w e w' := by
 have hle := hr.ln
 have hlc := hr.cp
 subst hle
 obtain ⟨L, hL⟩ : ∃ L, ts.length = L := ⟨_, rfl⟩
 rw [hL] at hr hlc hl ⊢
 have HL := hid hL
 have RR := hid hr
 have HC := hid hc
 have HV := hid hV
 have HH := hid H
 have HOK := hid hok
 clear hL hr hc H hok hV
 obtain ⟨o, ho⟩ : ∃ o, chkAlt ere ts ⟨n, g, d⟩ = o := ⟨_, rfl⟩
 rw [ho]
 have HO := hid ho
 clear ho
 go_enter Tryz.func78, Tryz.ntmps78
 go_wp2_with fail
 go_loopg [8] L (fun gg v wr => ∃ (k : Nat) (c : Ck), k + gg = L ∧ v = .int .i64 (k : Int) ∧ Aw ere C V d w ts o k wr c)
 case atStart => exact ⟨0, ⟨n, g, d⟩, by omega, rfl, HC.out, HV.out, hn, hg, rfl, HO.out, Ks.refl _ _⟩
 case round =>
  obtain ⟨k, ⟨n1, g1, d1⟩, hk, rfl, hw⟩ := hrel
  have KW := hid hw
  have hn1 : n1 ≤ 40 := hw.n
  have hg1 : g1 ≤ n1 := hw.g
  have hd1 : d1 = d := hw.d
  subst hd1
  clear hw
  by_cases hlt : k < L
  ·
   have gkw : IntKind.i64.wrap ((k : Int) + 1) = (k : Int) + 1 := by rw [IntKind.wrap_i64]; omega
   have ga : (k : Int) < (L : Int) := by omega
   have g0 : (0 : Int) ≤ (k : Int) := by omega
   obtain ⟨r, hr⟩ : ∃ r, ts[k]? = some r := ⟨_, List.getElem?_eq_getElem (by rw [HL.out]; exact hlt)⟩
   have hdrop : ts.drop k = r :: ts.drop (k + 1) := List.drop_eq_getElem_cons (by rw [HL.out]; exact hlt) ▸ by
    have := (List.getElem?_eq_some_iff.1 hr).2
    rw [this]
   have RW := hid (RR.out.ks KW.out.ks HOK.out)
   obtain ⟨bb, oo, kk, mn, mx, mm, tt, ad', ll, cc, e1, hbb, i1, ce1⟩ := RW.out.at k r hr
   subst e1
   have RS := hid (HH.out r (List.mem_of_getElem? hr))
   have hkk : r.k = kk := i1.kind'
   have I1 := hid i1
   have CE1 := hid ce1
   have E0 : Hid (o = if kk = 3 then none else (chk ere r false false ⟨n1, g1, d1⟩).bind fun c' => chkAlt ere (ts.drop (k + 1)) c') := by
    show _ = _
    rw [← KW.out.eq, hdrop, chkAlt_cons, hkk]
   clear hr i1 ce1 hkk hdrop
   obtain ⟨x0, x1, x2, x3, x4, x5, x6, x7, x8⟩ := cells_of_is CE1.out
   go_wp2_with fail
   clear x0 x1 x2 x3 x4 x5 x6 x7 x8
   refine (alt1_any ere r RS.out C V ok kk mn mx mm tt ad' ll cc n1 g1 d1 _ I1.out HOK.out KW.out.cb KW.out.v hn1 hg1 hd).mono ?_
   intro e W2 hnd
   obtain ⟨b, rfl, hcd⟩ := hnd.ex
   clear hnd
   rcases hcd.form with ⟨c2, ho2, hb, hcb2, hks2⟩ | ⟨ho2, hb, ⟨n2, g2', d2, hcb2, b1, b2, b3, b4⟩, hks2⟩
   ·
    have hb' : b = true := by injection hb with hb; injection hb
    subst hb'
    have h3 : ¬ kk = 3 := by intro h; rw [if_pos h] at ho2; cases ho2
    rw [if_neg h3] at ho2
    have hck := chk_ok ere r false false ⟨n1, g1, d1⟩ c2 hn1 hg1 ho2
    have CB2 := hid hcb2
    have V2 := hid (bl_ks KW.out.v hVC hks2)
    have KS2 := hid (KW.out.ks.trans hks2)
    have E2 : Hid (chkAlt ere (ts.drop (k + 1)) c2 = o) := by show _ = _; rw [E0.out, if_neg h3, ho2]; rfl
    have b1 : c2.n ≤ 40 := hck.1.n
    have b2 : c2.g ≤ c2.n := hck.1.g
    have b3 : c2.d = d1 := hck.1.d
    have B3 := hid b3
    clear b3 hcd hcb2 hks2 ho2 hck hb
    go_wp2_with fail
    go_roundg (gk - 1)
    case measure => omega
    case rel => exact ⟨k + 1, c2, by omega, by go_num, CB2.out, V2.out, b1, b2, B3.out, E2.out, KS2.out⟩
   ·
    have hb' : b = false := by injection hb with hb; injection hb
    subst hb'
    have CB2 := hid hcb2
    have KS2 := hid (KW.out.ks.trans hks2)
    have E : Hid (o = none) := by
     show _ = _
     rw [E0.out]
     by_cases h3 : kk = 3
     ·
      rw [if_pos h3]
     ·
      rw [if_neg h3] at ho2 ⊢; rw [ho2]; rfl
    clear hcd hcb2 hks2 ho2 hb
    go_wp2_with fail
    go_ret
    exact ⟨(k : Int), false, rfl, by simp, Ckd.no E.out CB2.out b1 b2 b3 b4 KS2.out⟩
  ·
   have ga : ¬ (k : Int) < (L : Int) := by omega
   have E : Hid (o = some ⟨n1, g1, d1⟩) := by
    have := KW.out.eq
    rw [List.drop_eq_nil_of_le (by rw [HL.out]; omega)] at this
    unfold chkAlt at this
    exact this.symm
   go_wp2
   go_ret
   exact ⟨-1, true, rfl, by decide, Ckd.yes E.out KW.out.cb (by omega) (by omega) (by omega) (Nat.le_refl _) KW.out.ks⟩

set_option maxHeartbeats 2000000 in
set_option maxRecDepth 100000 in
theorem containsFunc_any (ere : Bool) (ts : List Rx) (H : ∀ r, r ∈ ts → RightSaid ere r) (C V : Nat) (ok : Nat → Prop) (ad : Option Addr) (l c : Nat) (n g d : Nat) (w : World) (hr : RowAt w ok ts ad l c) (hok : ∀ x, ok x → x ≠ C) (hc : Cb w C ere n g d) (hV : w.heap[V]? = some (.cells #[.pointer (some ⟨C, 0, none⟩)] 88)) (hVC : V ≠ C) (hn : n ≤ 40) (hg : g ≤ n) (hd : d ≤ 6) (hl : ts.length ≤ 1000000) :
  Calls Tryz.prog 64 #[.slice ad l c, .func (.func 65) #[] #[.pointer (some ⟨V, 0, none⟩)]] w fun e w' => NotD C ere d (chkAlt ere ts ⟨n, g, d⟩) w e w' := by
 have IX := hid (indexFunc_any ere ts H C V ok ad l c n g d w hr hok hc hV hVC hn hg hd hl)
 clear hr hok hc hV H
 go_enter Tryz.func64, Tryz.ntmps64
 go_wp2_with fail
 refine IX.out.mono ?_
 intro e W1 hx
 obtain ⟨i, b, rfl, hi, hcd⟩ := hx.ex
 have CD := hid hcd
 have HI := hid hi
 clear hx hcd hi IX
 go_wp2_with fail
 go_ret
 exact ⟨b, by rw [← HI.out]; rfl, CD.out⟩

set_option maxHeartbeats 2000000 in
set_option maxRecDepth 100000 in
theorem alt_any (ere : Bool) (ts : List Rx) (H : ∀ r, r ∈ ts → RightSaid ere r) (C : Nat) (ok : Nat → Prop) (ad : Option Addr) (l c : Nat) (n g d : Nat) (w : World) (hr : RowAt w ok ts ad l c) (hok : ∀ x, ok x → x ≠ C) (hc : Cb w C ere n g d) (hn : n ≤ 40) (hg : g ≤ n) (hd : d ≤ 6) (hl : ts.length ≤ 1000000) :
  Calls Tryz.prog 46 #[.pointer (some ⟨C, 0, none⟩), .slice ad l c] w fun e w' => Ckd C ere d (chkAlt ere ts ⟨n, g, d⟩) w e w' := by
 have RR := hid hr
 have HC := hid hc
 have HOK := hid hok
 have HH := hid H
 have hCw := hc.lt
 clear hr hc hok H
 go_enter Tryz.func46, Tryz.ntmps46
 go_upto_region 1 with fail
 refine opq (fun W0 => W0.heap[w.heap.size]? = some (.cells #[.pointer (some ⟨C, 0, none⟩)] 88) ∧ Cb W0 C ere n g d ∧ RowAt W0 ok ts ad l c ∧ Ks C w W0) ⟨by (first | exact last_at _ _ _ (by simp) | (refine bl_alloc ?_ _; first | exact last_at _ _ _ (by simp) | (refine bl_alloc ?_ _; first | exact last_at _ _ _ (by simp) | (refine bl_alloc ?_ _; exact last_at _ _ _ (by simp))))), by exact HC.out.kp (by repeat (first | exact Kp.refl _ | refine Kp.alloc ?_ _ | refine Kp.drew ?_ | refine Kp.drewN _ ?_)), by exact RR.out.kp (by repeat (first | exact Kp.refl _ | refine Kp.alloc ?_ _ | refine Kp.drew ?_ | refine Kp.drewN _ ?_)), by exact Kp.ks (by repeat (first | exact Kp.refl _ | refine Kp.alloc ?_ _ | refine Kp.drew ?_ | refine Kp.drewN _ ?_)) (Nat.le_of_lt hCw)⟩ ?_
 rintro W0 ⟨xV0, xCB0, xR0, xKS0⟩
 have V0 : Hid (W0.heap[w.heap.size]? = some (.cells #[.pointer (some ⟨C, 0, none⟩)] 88)) := xV0
 have CB0 : Hid (Cb W0 C ere n g d) := xCB0
 have R0 : Hid (RowAt W0 ok ts ad l c) := xR0
 have KS0 : Hid (Ks C w W0) := xKS0
 clear xV0 xCB0 xR0 xKS0
 go_wp2_with fail
 refine (containsFunc_any ere ts HH.out C w.heap.size ok ad l c n g d _ R0.out HOK.out CB0.out V0.out (by omega) hn hg hd hl).mono ?_
 intro e W1 hnd
 obtain ⟨b, rfl, hcd⟩ := hnd.ex
 have CD := hid (hcd.from KS0.out)
 clear hnd hcd
 go_wp2_with fail
 go_ret
 cases b <;> exact CD.out
end Go.Proofs.YtikmgckefbjbkaaGreatDoor
