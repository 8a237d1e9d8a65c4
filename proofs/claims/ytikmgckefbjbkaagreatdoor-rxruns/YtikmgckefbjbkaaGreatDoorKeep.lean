/-
  keep: one more behind the others, unless there are too many nodes; does a row end here; how many times.
-/
import Derived.Test.YtikmgckefbjbkaaGreatDoorRet
import Derived.OwnWalk
namespace Go.Proofs.YtikmgckefbjbkaaGreatDoor
open Go.RowKit
attribute [local go_sem] field91

set_option maxRecDepth 100000 in
theorem keep_any (base : Nat) (v : Value) (ts : List Rx) (r : Rx) (k mn mx m : Int) (t : W4) (ad : Option Addr) (l c : Nat) (s : ByteArray) (ere : Bool) (i n g d P : Nat) (w : World) (h : Rd w P s ere i n g d) (hK : RKids base w v ts) (hI : Is w (fun b => base ≤ b ∧ v.ownBlock ≠ some b) r (rxv k mn mx m t (.slice ad l c))) (hb : base ≤ w.heap.size) (ht : ts.length ≤ 1000) :
    Calls Tryz.prog 51 #[.pointer (some ⟨P, 0, none⟩), v, rxv k mn mx m t (.slice ad l c)] w fun e w' => ∃ v', e = .returned v' ∧ RKids base w' v' (keepL n ts r) ∧ w.grownBy w' v.ownBlock := by
  have R : Hid (Rd w P s ere i n g d) := h
  have HK : Hid (RKids base w v ts) := hK
  have HI : Hid (Is w (fun b => base ≤ b ∧ v.ownBlock ≠ some b) r (rxv k mn mx m t (.slice ad l c))) := hI
  clear h hK hI
  by_cases hc : n > 40
  · have E : Hid (keepL n ts r = ts) := by show _ = _; unfold keepL; rw [if_pos hc]
    have c1 : (40 : Int) < (n : Int) := by omega
    go_enter Tryz.func51, Tryz.ntmps51
    go_upto_region 1 with fail
    refine opq (fun W0 => Rd W0 P s ere i n g d ∧ W0.heap[w.heap.size]? = some (rxo k mn mx m t (.slice ad l c)) ∧ RKids base W0 v ts ∧ Is W0 (fun b => base ≤ b ∧ v.ownBlock ≠ some b) r (rxv k mn mx m t (.slice ad l c)) ∧ Kp w W0) ⟨by exact R.out.kp (by repeat (first | exact Kp.refl _ | refine Kp.alloc ?_ _ | refine Kp.drew ?_ | refine Kp.drewN _ ?_)), by (first | exact last_at _ _ _ (by simp) | (refine bl_alloc ?_ _; first | exact last_at _ _ _ (by simp) | (refine bl_alloc ?_ _; first | exact last_at _ _ _ (by simp) | (refine bl_alloc ?_ _; exact last_at _ _ _ (by simp))))), by exact HK.out.kp (by repeat (first | exact Kp.refl _ | refine Kp.alloc ?_ _ | refine Kp.drew ?_ | refine Kp.drewN _ ?_)), by exact HI.out.kp (by repeat (first | exact Kp.refl _ | refine Kp.alloc ?_ _ | refine Kp.drew ?_ | refine Kp.drewN _ ?_)), by exact (by repeat (first | exact Kp.refl _ | refine Kp.alloc ?_ _ | refine Kp.drew ?_ | refine Kp.drewN _ ?_))⟩ ?_
    rintro W0 ⟨xR0, xA0, xHK0, xHI0, xK0⟩
    have R0 : Hid (Rd W0 P s ere i n g d) := xR0
    have A0 : Hid (W0.heap[w.heap.size]? = some (rxo k mn mx m t (.slice ad l c))) := xA0
    have HK0 : Hid (RKids base W0 v ts) := xHK0
    have HI0 : Hid (Is W0 (fun b => base ≤ b ∧ v.ownBlock ≠ some b) r (rxv k mn mx m t (.slice ad l c))) := xHI0
    have K0 : Hid (Kp w W0) := xK0
    clear xR0 xA0 xHK0 xHI0 xK0
    have p3 := R0.out.cells.2.2.2.1
    have hs0 := K0.out.size
    go_wp2
    go_ret
    exact ⟨_, rfl, by rw [E.out]; exact HK0.out, K0.out.grown _⟩
  · have E : Hid (keepL n ts r = ts ++ [r]) := by show _ = _; unfold keepL; rw [if_neg hc]
    have c1 : ¬ (40 : Int) < (n : Int) := by omega
    go_enter Tryz.func51, Tryz.ntmps51
    go_upto_region 1 with fail
    refine opq (fun W0 => Rd W0 P s ere i n g d ∧ W0.heap[w.heap.size]? = some (rxo k mn mx m t (.slice ad l c)) ∧ RKids base W0 v ts ∧ Is W0 (fun b => base ≤ b ∧ v.ownBlock ≠ some b) r (rxv k mn mx m t (.slice ad l c)) ∧ Kp w W0) ⟨by exact R.out.kp (by repeat (first | exact Kp.refl _ | refine Kp.alloc ?_ _ | refine Kp.drew ?_ | refine Kp.drewN _ ?_)), by (first | exact last_at _ _ _ (by simp) | (refine bl_alloc ?_ _; first | exact last_at _ _ _ (by simp) | (refine bl_alloc ?_ _; first | exact last_at _ _ _ (by simp) | (refine bl_alloc ?_ _; exact last_at _ _ _ (by simp))))), by exact HK.out.kp (by repeat (first | exact Kp.refl _ | refine Kp.alloc ?_ _ | refine Kp.drew ?_ | refine Kp.drewN _ ?_)), by exact HI.out.kp (by repeat (first | exact Kp.refl _ | refine Kp.alloc ?_ _ | refine Kp.drew ?_ | refine Kp.drewN _ ?_)), by exact (by repeat (first | exact Kp.refl _ | refine Kp.alloc ?_ _ | refine Kp.drew ?_ | refine Kp.drewN _ ?_))⟩ ?_
    rintro W0 ⟨xR0, xA0, xHK0, xHI0, xK0⟩
    have R0 : Hid (Rd W0 P s ere i n g d) := xR0
    have A0 : Hid (W0.heap[w.heap.size]? = some (rxo k mn mx m t (.slice ad l c))) := xA0
    have HK0 : Hid (RKids base W0 v ts) := xHK0
    have HI0 : Hid (Is W0 (fun b => base ≤ b ∧ v.ownBlock ≠ some b) r (rxv k mn mx m t (.slice ad l c))) := xHI0
    have K0 : Hid (Kp w W0) := xK0
    clear xR0 xA0 xHK0 xHI0 xK0
    have p3 := R0.out.cells.2.2.2.1
    have hs0 := K0.out.size
    have a0 := bl_cell (A0.out) 0 _ rfl
    have a1 := bl_cell (A0.out) 1 _ rfl
    have a2 := bl_cell (A0.out) 2 _ rfl
    have a3 := bl_cell (A0.out) 3 _ rfl
    have a4 := bl_cell (A0.out) 4 _ rfl
    have a5 := bl_cell (A0.out) 5 _ rfl
    have a6 := bl_cell (A0.out) 6 _ rfl
    have a7 := bl_cell (A0.out) 7 _ rfl
    have a8 := bl_cell (A0.out) 8 _ rfl
    go_wp2_with (at_builtin; go_must (refine wpList_append_rx W0 (by rfl) _ _ (by rfl) base v ts r (by rfl) HK0 k mn mx m t ad l c HI0 _ (by rfl) (by rfl) ?h1 ?h2 ?_))
    case h1 => omega
    case h2 => omega
    intro v' w' hk' hg'
    have HK' : Hid (RKids base w' v' (ts ++ [r])) := hk'
    have HG' : Hid (w.grownBy w' v.ownBlock) := ⟨hg'.os.trans K0.out.os, hg'.tape.trans K0.out.tape, hg'.output.trans K0.out.output, Nat.le_trans K0.out.size hg'.size, fun b hb hne => (hg'.block b (Nat.lt_of_lt_of_le hb K0.out.size) hne).trans (K0.out.block b hb)⟩
    clear hk' hg'
    go_wp2_with fail
    go_ret
    exact ⟨_, rfl, by rw [E.out]; exact HK'.out, HG'.out⟩

set_option maxRecDepth 100000 in
theorem rowEnds_any (s : ByteArray) (ere : Bool) (i n g d P : Nat) (w : World) (h : Rd w P s ere i n g d) (hi : i ≤ s.size) (hs : s.size ≤ 1000000) :
    Calls Tryz.prog 68 #[.pointer (some ⟨P, 0, none⟩)] w fun e w' => e = .returned (.bool (ends (sgn s ere i).1)) ∧ Kp w w' := by
  have R : Hid (Rd w P s ere i n g d) := h
  clear h
  obtain ⟨x, y, z, hg⟩ : ∃ x y z, sgn s ere i = (x, y, z) := ⟨_, _, _, rfl⟩
  have HG : Hid (sgn s ere i = (x, y, z)) := hg
  rw [hg]
  clear hg
  show Calls _ _ _ _ fun e w' => e = .returned (.bool (ends x)) ∧ _
  by_cases h1 : x = 1
  · subst h1
    go_enter Tryz.func68, Tryz.ntmps68
    go_wp2_with fail
    refine (sign_any s ere i n g d P _ R.out hi hs).mono ?_
    rintro e w1 ⟨rfl, kq⟩
    rw [HG.out, sg3]
    have KQ : Hid (Kp w w1) := kq
    clear kq
    go_wp2_with fail
    go_ret
    exact ⟨rfl, KQ.out⟩
  by_cases h9 : x = 9
  · subst h9
    go_enter Tryz.func68, Tryz.ntmps68
    go_wp2_with fail
    refine (sign_any s ere i n g d P _ R.out hi hs).mono ?_
    rintro e w1 ⟨rfl, kq⟩
    rw [HG.out, sg3]
    have KQ : Hid (Kp w w1) := kq
    clear kq
    go_wp2_with fail
    go_ret
    exact ⟨rfl, KQ.out⟩
  by_cases h8 : x = 8
  · subst h8
    go_enter Tryz.func68, Tryz.ntmps68
    go_wp2_with fail
    refine (sign_any s ere i n g d P _ R.out hi hs).mono ?_
    rintro e w1 ⟨rfl, kq⟩
    rw [HG.out, sg3]
    have KQ : Hid (Kp w w1) := kq
    clear kq
    go_wp2_with fail
    go_ret
    exact ⟨rfl, KQ.out⟩
  have g1 : ((x : Int) == 1) = false := by simp; omega
  have g9 : ((x : Int) == 9) = false := by simp; omega
  have g8 : ((x : Int) == 8) = false := by simp; omega
  have E : Hid (ends x = false) := by show _ = _; unfold ends; simp [h1, h9, h8]
  go_enter Tryz.func68, Tryz.ntmps68
  go_wp2_with fail
  refine (sign_any s ere i n g d P _ R.out hi hs).mono ?_
  rintro e w1 ⟨rfl, kq⟩
  rw [HG.out, sg3]
  have KQ : Hid (Kp w w1) := kq
  clear kq
  go_wp2_with fail
  go_ret
  exact ⟨ret_bool E.out.symm, KQ.out⟩

set_option maxRecDepth 100000 in
theorem timesFit_any (a b : Int) (w : World) : Calls Tryz.prog 66 #[.int .i64 a, .int .i64 b] w fun e w' => e = .returned (.bool (timesFit a b)) ∧ w' = w := by
  by_cases h0 : a < 0
  · have E : Hid (timesFit a b = false) := by show _ = _; unfold timesFit; rw [if_pos (Or.inl h0)]
    go_enter Tryz.func66, Tryz.ntmps66
    go_wp2
    go_ret
    exact ⟨ret_bool E.out.symm, rfl⟩
  by_cases h1 : a > 20
  · have E : Hid (timesFit a b = false) := by show _ = _; unfold timesFit; rw [if_pos (Or.inr h1)]
    have h1' : (20 : Int) < a := h1
    go_enter Tryz.func66, Tryz.ntmps66
    go_wp2
    go_ret
    exact ⟨ret_bool E.out.symm, rfl⟩
  have h1' : ¬ (20 : Int) < a := h1
  by_cases h2 : b = -1
  · subst h2
    have E : Hid (timesFit a (-1) = true) := by show _ = _; unfold timesFit; rw [if_neg (by omega)]; rfl
    go_enter Tryz.func66, Tryz.ntmps66
    go_wp2
    go_ret
    exact ⟨ret_bool E.out.symm, rfl⟩
  have g2 : (b == -1) = false := by simp [h2]
  by_cases h3 : max a 1 ≤ b
  · by_cases h4 : b ≤ 20
    · have E : Hid (timesFit a b = true) := by show _ = _; unfold timesFit; rw [if_neg (by omega), g2, decide_eq_true h3, decide_eq_true h4]; rfl
      go_enter Tryz.func66, Tryz.ntmps66
      go_wp2
      go_ret
      exact ⟨ret_bool E.out.symm, rfl⟩
    · have E : Hid (timesFit a b = false) := by show _ = _; unfold timesFit; rw [if_neg (by omega), g2, decide_eq_true h3, decide_eq_false h4]; rfl
      go_enter Tryz.func66, Tryz.ntmps66
      go_wp2
      go_ret
      exact ⟨ret_bool E.out.symm, rfl⟩
  · have E : Hid (timesFit a b = false) := by show _ = _; unfold timesFit; rw [if_neg (by omega), g2, decide_eq_false h3]; rfl
    go_enter Tryz.func66, Tryz.ntmps66
    go_wp2
    go_ret
    exact ⟨ret_bool E.out.symm, rfl⟩
end Go.Proofs.YtikmgckefbjbkaaGreatDoor
