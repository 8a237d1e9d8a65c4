/-
  What bset.Only, bset.Class and its helpers do.
-/
import Derived.Test.YtikmgckefbjbkaaGreatDoorBytes
namespace Go.Proofs.YtikmgckefbjbkaaGreatDoor
open Go.RowKit

def none8 : Nat → Bool := fun _ => false
def cUpper : Nat → Bool := rng 65 90
def cLower : Nat → Bool := rng 97 122
def cAlpha : Nat → Bool := orB (rng 65 90) (rng 97 122)
def cDigit : Nat → Bool := rng 48 57
def cAlnum : Nat → Bool := orB cAlpha cDigit
def cSpace : Nat → Bool := orB (addB (fun _ => false) 32) (rng 9 13)
def cBlank : Nat → Bool := addB (addB (fun _ => false) 32) 9
def cGraph : Nat → Bool := rng 33 126
def less (s t : Nat → Bool) : Nat → Bool := notB (orB (notB s) t)
def cPunct : Nat → Bool := less cGraph cAlnum
def cPrint : Nat → Bool := orB (addB (fun _ => false) 32) cGraph
def cCntrl : Nat → Bool := orB (rng 0 31) (addB (fun _ => false) 127)
def cXdigit : Nat → Bool := orB (orB cDigit (rng 65 70)) (rng 97 102)

theorem ret2_at {fn : Func} {p u : Tmp} (h : fn.results = #[.cell p 24, .tmp u]) (tmps : Array Value) (w : World) (S : Nat) (q : Nat → Bool)
    (hp : tmps.getD p undef = .pointer (some ⟨S, 0, none⟩)) (hA : At w S q) : (results fn tmps).run Tryz.prog w = .ok (.tuple #[sv q, tmps.getD u undef]) w := by
  have hp' : tmps[p]?.getD undef = .pointer (some ⟨S, 0, none⟩) := by simpa using hp
  have hl := run_loadVar_row (P := Tryz.prog) w S 24 24 _ (0, 0) _ hA Tryz.underlying24 rfl (by kernel_rfl)
  simp [results, h, hp', asAddr, hl]

theorem set4_kp {w wN : World} {B : Nat} (hB : w.heap.size ≤ B) (K : Kp w wN) (a b c d : Value) :
    Kp w ((((wN.setCell ⟨B, 0, none⟩ a).setCell ⟨B, 1, none⟩ b).setCell ⟨B, 2, none⟩ c).setCell ⟨B, 3, none⟩ d) :=
  (((K.setCell hB _).setCell hB _).setCell hB _).setCell hB _

theorem only_no (p : Nat → Bool) (h : cnt p 256 ≠ 1) (w : World) :
    Calls Tryz.prog 53 #[sv p] w fun e w' => e = .returned (.tuple #[.int .u8 0, .bool false]) ∧ Kp w w' := by
  have hc : ((cnt p 256 : Int) != 1) = true := by simp; omega
  clear h
  go_enter Tryz.func53, Tryz.ntmps53
  go_wp2_with fail
  refine (count_any p _).mono ?_
  rintro e w1 ⟨rfl, k1⟩
  go_wp2_with fail
  go_ret2
  exact ⟨rfl, ((Kp.refl _).alloc _).trans k1⟩

theorem only_yes (p : Nat → Bool) (x : Nat) (h : lst p 256 = [x]) (w : World) :
    Calls Tryz.prog 53 #[sv p] w fun e w' => e = .returned (.tuple #[.int .u8 (x : Int), .bool true]) ∧ Kp w w' := by
  have hc : cnt p 256 = 1 := by rw [← lst_length, h]; rfl
  have HL : Hid (lst p 256 = [x]) := h
  clear h
  go_enter Tryz.func53, Tryz.ntmps53
  go_wp2_with fail
  refine (count_any p _).mono ?_
  rintro e w1 ⟨rfl, k1⟩
  obtain ⟨c0, c1, c2, c3⟩ := (k1.at (At.new w p)).cells
  have K1 : Hid (Kp w w1) := ((Kp.refl _).alloc _).trans k1
  clear k1
  go_wp2_with fail
  refine (bytes_any p _).mono ?_
  rintro e w2 ⟨v, rfl, hO, k2⟩
  rw [HL.out] at hO
  have K2 : Hid (Kp w w2) := K1.out.trans k2
  clear k2
  obtain ⟨g, cap, rfl, hcell⟩ : ∃ g cap, v = .slice (some ⟨g, 0, none⟩) 1 cap ∧ w2.cell? ⟨g, 0, none⟩ = some (.int .u8 (x : Int)) := by
    rcases hO.2 with ⟨_, h0⟩ | ⟨g, cap, cur, hv, _⟩
    · simp at h0
    · have e1 : v = .slice (some ⟨g, 0, none⟩) 1 cap := hv
      subst e1
      have := World.ownsRow.cellAt hO 0 (by simp)
      exact ⟨g, cap, rfl, this⟩
  clear hO
  go_wp2_with fail
  go_ret2
  exact ⟨rfl, K2.out⟩

theorem alpha_any (w : World) : Calls Tryz.prog 117 #[] w fun e w' => e = .returned (sv cAlpha) ∧ Kp w w' := by
  go_enter Tryz.func117, Tryz.ntmps117
  go_wp2_with fail
  refine (range_any 65 90 _ (by omega) (by omega)).mono ?_
  rintro e w1 ⟨rfl, k⟩
  have K1 : Hid (Kp (w.alloc zero4) w1) := (((Kp.refl _))).trans k
  clear k
  go_wp2_with fail
  refine (range_any 97 122 _ (by omega) (by omega)).mono ?_
  rintro e w2 ⟨rfl, k⟩
  have K2 : Hid (Kp (w.alloc zero4) w2) := ((K1.out)).trans k
  clear k
  go_wp2_with fail
  refine (join2 (rng 65 90) (rng 97 122) _ _ (by simp) (last_of _ _)).mono ?_
  rintro e w3 ⟨rfl, k⟩
  have K3 : Hid (Kp (w.alloc zero4) w3) := ((K2.out).alloc _).trans k
  clear k
  have z := K3.out.at (At.zero w)
  obtain ⟨d0, d1, d2, d3⟩ := z.cells
  have f0 := z.frozen 0; have f1 := z.frozen 1; have f2 := z.frozen 2; have f3 := z.frozen 3
  have Z : Hid (At w3 w.heap.size (fun _ => false)) := z
  clear z
  go_wp2
  refine bodyPost_ret (v := sv cAlpha) (ret_at Tryz.results117 _ _ w.heap.size _ rfl (Z.out.set4 cAlpha)) rfl ⟨rfl, ?_⟩
  exact set4_kp (Nat.le_refl _) (((Kp.refl _).alloc _).trans K3.out) _ _ _ _

theorem digit_any (w : World) : Calls Tryz.prog 118 #[] w fun e w' => e = .returned (sv cDigit) ∧ Kp w w' := by
  go_enter Tryz.func118, Tryz.ntmps118
  go_wp2_with fail
  refine (range_any 48 57 _ (by omega) (by omega)).mono ?_
  rintro e w1 ⟨rfl, k⟩
  have K1 : Hid (Kp (w.alloc zero4) w1) := (((Kp.refl _))).trans k
  clear k
  have z := K1.out.at (At.zero w)
  obtain ⟨d0, d1, d2, d3⟩ := z.cells
  have f0 := z.frozen 0; have f1 := z.frozen 1; have f2 := z.frozen 2; have f3 := z.frozen 3
  have Z : Hid (At w1 w.heap.size (fun _ => false)) := z
  clear z
  go_wp2
  refine bodyPost_ret (v := sv cDigit) (ret_at Tryz.results118 _ _ w.heap.size _ rfl (Z.out.set4 cDigit)) rfl ⟨rfl, ?_⟩
  exact set4_kp (Nat.le_refl _) (((Kp.refl _).alloc _).trans K1.out) _ _ _ _

theorem alnum_any (w : World) : Calls Tryz.prog 119 #[] w fun e w' => e = .returned (sv cAlnum) ∧ Kp w w' := by
  go_enter Tryz.func119, Tryz.ntmps119
  go_wp2_with fail
  refine (alpha_any _).mono ?_
  rintro e w1 ⟨rfl, k⟩
  have K1 : Hid (Kp (w.alloc zero4) w1) := (((Kp.refl _))).trans k
  clear k
  go_wp2_with fail
  refine (digit_any _).mono ?_
  rintro e w2 ⟨rfl, k⟩
  have K2 : Hid (Kp (w.alloc zero4) w2) := ((K1.out)).trans k
  clear k
  go_wp2_with fail
  refine (join2 cAlpha cDigit _ _ (by simp) (last_of _ _)).mono ?_
  rintro e w3 ⟨rfl, k⟩
  have K3 : Hid (Kp (w.alloc zero4) w3) := ((K2.out).alloc _).trans k
  clear k
  have z := K3.out.at (At.zero w)
  obtain ⟨d0, d1, d2, d3⟩ := z.cells
  have f0 := z.frozen 0; have f1 := z.frozen 1; have f2 := z.frozen 2; have f3 := z.frozen 3
  have Z : Hid (At w3 w.heap.size (fun _ => false)) := z
  clear z
  go_wp2
  refine bodyPost_ret (v := sv cAlnum) (ret_at Tryz.results119 _ _ w.heap.size _ rfl (Z.out.set4 cAlnum)) rfl ⟨rfl, ?_⟩
  exact set4_kp (Nat.le_refl _) (((Kp.refl _).alloc _).trans K3.out) _ _ _ _

theorem graph_any (w : World) : Calls Tryz.prog 121 #[] w fun e w' => e = .returned (sv cGraph) ∧ Kp w w' := by
  go_enter Tryz.func121, Tryz.ntmps121
  go_wp2_with fail
  refine (range_any 33 126 _ (by omega) (by omega)).mono ?_
  rintro e w1 ⟨rfl, k⟩
  have K1 : Hid (Kp (w.alloc zero4) w1) := (((Kp.refl _))).trans k
  clear k
  have z := K1.out.at (At.zero w)
  obtain ⟨d0, d1, d2, d3⟩ := z.cells
  have f0 := z.frozen 0; have f1 := z.frozen 1; have f2 := z.frozen 2; have f3 := z.frozen 3
  have Z : Hid (At w1 w.heap.size (fun _ => false)) := z
  clear z
  go_wp2
  refine bodyPost_ret (v := sv cGraph) (ret_at Tryz.results121 _ _ w.heap.size _ rfl (Z.out.set4 cGraph)) rfl ⟨rfl, ?_⟩
  exact set4_kp (Nat.le_refl _) (((Kp.refl _).alloc _).trans K1.out) _ _ _ _

end Go.Proofs.YtikmgckefbjbkaaGreatDoor
