/-
  Texts of this claim: Lean2, Right1, Right2.
-/
import Derived.Test.YtigdmebijbaofaaGreatDoorReadDM4
import Derived.Test.YtigdmebijbaofaaGreatDoorReadDM9
import Derived.Test.YtigdmebijbaofaaGreatDoorReadDM6
import Derived.Deep.LoopGhost
/-! ### Lean2 -/
namespace Go.Proofs.YtigdmebijbaofaaGreatDoor
set_option maxHeartbeats 2000000
set_option maxRecDepth 100000
open Go.RowKit
theorem fit_nil (k mn mx n : Int) (s : W4) : RxFit (.mk k mn mx n s []) := by
 unfold RxFit
 exact ⟨by simp, fun a ha => by simp at ha⟩
theorem same_bare (k mn mx n mn' mx' n' : Int) (s s' : W4) (q : Bool) (hq : (mn == mn' && mx == mx' && n == n' && s == s') = q) (w : World) : Calls Tryz.prog 58 #[rxv k mn mx n s (.slice none 0 0), rxv k mn' mx' n' s' (.slice none 0 0)] w fun e w' => e = .returned (.bool q) ∧ Kp w w' := by
 have := same_any (.mk k mn mx n s []) (.mk k mn' mx' n' s' []) _ _ w (fun _ => True) (fun _ => True) (fit_nil _ _ _ _ _) (Is.leaf _ _ _ _ _ _ _) (Is.leaf _ _ _ _ _ _ _)
 rw [sameR, sameL] at this
 rw [show (k == k && mn == mn' && mx == mx' && n == n' && s == s' && true) = q by rw [← hq]; simp] at this
 exact this
theorem lean_any (k mn mx m : Int) (t : W4) (kids : List Rx) (ad : Option Addr) (l c : Nat) (w : World) (hl : l = kids.length) :
  Calls Tryz.prog 149 #[rxv k mn mx m t (.slice ad l c)] w fun e w' => e = .returned (.bool (leanB (.mk k mn mx m t kids))) ∧ Kp w w' := by
 have E0 : Hid (leanB (.mk k mn mx m t kids) = ((if k = 4 then true else mn == 0 && mx == 0) && (if k = 5 ∨ k = 6 then true else m == 0) && (if k = 1 then true else t == W4.z) && kidsFit k l)) := by show _ = _; rw [hl]; rfl
 clear hl
 obtain ⟨kf, hkf⟩ : ∃ kf, kidsFit k l = kf := ⟨_, rfl⟩
 have KF : Hid (∀ w, Calls Tryz.prog 184 #[.int .i64 k, .int .i64 (l : Int)] w fun e w' => e = .returned (.bool kf) ∧ w' = w) := fun w => by have := kidsFit_any k l w; rw [hkf] at this; exact this
 rw [hkf] at E0
 clear hkf
 go_enter Tryz.func149, Tryz.ntmps149
 go_upto_region 1 with fail
 refine opq (fun V0 => V0.heap[w.heap.size]? = some (rxo k mn mx m t (.slice ad l c)) ∧ Kp w V0) ⟨by (first | exact last_at _ _ _ (by simp) | (refine bl_alloc ?_ _; first | exact last_at _ _ _ (by simp) | (refine bl_alloc ?_ _; first | exact last_at _ _ _ (by simp) | (refine bl_alloc ?_ _; exact last_at _ _ _ (by simp))))), by exact kpt⟩ ?_
 rintro V0 ⟨xA, xK⟩
 have A := hidT xA
 have K := hidT xK
 clear xA xK
 obtain ⟨a0, a1, a2, a3, a4, a5, a6, a7, a8⟩ := cells9 (A.out)
 go_upto_region 2 with fail
 clear a0 a1 a2 a3 a4 a5 a6 a7 a8
 refine opq (fun W0 => W0.heap[w.heap.size]? = some (rxo k mn mx m t (.slice ad l c)) ∧ W0.heap[V0.heap.size]? = some (rxo k 0 0 0 W4.z (.slice none 0 0)) ∧ Kp w W0) ⟨by exact bl_kp A.out kpt, by exact last_at _ _ _ (by simp), by exact K.out.trans kpt⟩ ?_
 rintro W0 ⟨xA0, xB0, xK0⟩
 have A0 := hidT xA0
 have B0 := hidT xB0
 have K0 := hidT xK0
 clear xA0 xB0 xK0
 have hsV : w.heap.size < V0.heap.size := bl_lt A.out
 clear A K
 by_cases k1 : k = 1
 ·
  subst k1
  obtain ⟨sm, hsm⟩ : ∃ sm, (mn == 0 && mx == 0 && m == 0 && t == t) = sm := ⟨_, rfl⟩
  have SB := hid (same_bare 1 mn mx m 0 0 0 t t sm hsm)
  have E : Hid (leanB (.mk 1 mn mx m t kids) = (sm && kf)) := by show _ = _; rw [E0.out, ← hsm]; (first | (simp; done) | (simp; cases mn == 0 <;> cases mx == 0 <;> cases m == 0 <;> rfl))
  clear hsm
  obtain ⟨a0, a1, a2, a3, a4, a5, a6, a7, a8⟩ := cells9 (A0.out)
  obtain ⟨b0, fb0, b1, fb1, b2, fb2, b3, fb3, b4, fb4, b5, fb5, b6, fb6, b7, fb7, b8, fb8⟩ := cellf9 (B0.out)
  go_upto_region 10 with fail
  clear a0 a1 a2 a3 a4 a5 a6 a7 a8 b0 fb0 b1 fb1 b2 fb2 b3 fb3 b4 fb4 b5 fb5 b6 fb6 b7 fb7 b8 fb8
  refine opq (fun W1 => W1.heap[w.heap.size]? = some (rxo 1 mn mx m t (.slice ad l c)) ∧ W1.heap[V0.heap.size]? = some (rxo 1 0 0 0 t (.slice none 0 0)) ∧ Kp w W1) ⟨by exact bl_set (bl_set (bl_set (bl_set A0.out (by omega) _) (by omega) _) (by omega) _) (by omega) _, by exact bl_put (bl_put (bl_put (bl_put B0.out _) _) _) _, by exact (((K0.out.setCell (Nat.le_of_lt hsV) _).setCell (Nat.le_of_lt hsV) _).setCell (Nat.le_of_lt hsV) _).setCell (Nat.le_of_lt hsV) _⟩ ?_
  rintro W1 ⟨xA1, xB1, xK1⟩
  have A1 := hidT xA1
  have B1 := hidT xB1
  have K1 := hidT xK1
  clear xA1 xB1 xK1
  clear A0 B0 K0
  have A0 := A1
  have K0 := K1
  clear A1 K1
  obtain ⟨a0, fa0, a1, fa1, a2, fa2, a3, fa3, a4, fa4, a5, fa5, a6, fa6, a7, fa7, a8, fa8⟩ := cellf9 (A0.out)
  go_upto_region 12 with fail
  clear a0 fa0 a1 fa1 a2 fa2 a3 fa3 a4 fa4 a5 fa5 a6 fa6 a7 fa7 a8 fa8
  refine opq (fun W2 => W2.heap[w.heap.size]? = some (rxo 1 mn mx m t (.slice none 0 0)) ∧ W2.heap[V0.heap.size]? = some (rxo 1 0 0 0 t (.slice none 0 0)) ∧ Kp w W2) ⟨by exact bl_put A0.out _, by exact bl_set B1.out (by omega) _, by exact K0.out.setCell (Nat.le_refl _) _⟩ ?_
  rintro W2 ⟨xA2, xB2, xK2⟩
  have A2 := hidT xA2
  have B2 := hidT xB2
  have K2 := hidT xK2
  clear xA2 xB2 xK2
  obtain ⟨a0, a1, a2, a3, a4, a5, a6, a7, a8⟩ := cells9 (A2.out)
  obtain ⟨b0, b1, b2, b3, b4, b5, b6, b7, b8⟩ := cells9 (B2.out)
  go_wp2_with fail
  refine (SB.out _).mono ?_
  rintro e W3 ⟨rfl, k3⟩
  have A3 := hid (bl_kp A2.out k3)
  have K3 := hid (K2.out.trans k3)
  clear k3 a0 a1 a2 a3 a4 a5 a6 a7 a8 b0 b1 b2 b3 b4 b5 b6 b7 b8
  have x0 := bl_cell A3.out 0 _ rfl
  cases sm with
  | false =>
   go_wp2_with fail
   go_ret
   exact ⟨ret_bool (by rw [E.out]; rfl), K3.out⟩
  | true =>
   go_wp2_with fail
   refine (KF.out _).mono ?_
   rintro e W3 ⟨rfl, rfl⟩
   go_wp2_with fail
   go_ret
   exact ⟨ret_bool (by rw [E.out]; rfl), K3.out⟩
 by_cases k4 : k = 4
 ·
  subst k4
  obtain ⟨sm, hsm⟩ : ∃ sm, (mn == mn && mx == mx && m == 0 && t == W4.z) = sm := ⟨_, rfl⟩
  have SB := hid (same_bare 4 mn mx m mn mx 0 t W4.z sm hsm)
  have E : Hid (leanB (.mk 4 mn mx m t kids) = (sm && kf)) := by show _ = _; rw [E0.out, ← hsm]; simp
  clear hsm
  obtain ⟨a0, a1, a2, a3, a4, a5, a6, a7, a8⟩ := cells9 (A0.out)
  go_upto_region 6 with fail
  clear a0 a1 a2 a3 a4 a5 a6 a7 a8
  have BB := hid B0.out
  have Q0 : Ks V0.heap.size W0 W0.drew := (Ks.refl _ _).drew
  have MK : Hid (∀ W, Ks V0.heap.size W0 W → W.cell? ⟨w.heap.size, 1, none⟩ = some (.int .i64 mn) ∧ W.cell? ⟨w.heap.size, 2, none⟩ = some (.int .i64 mx) ∧ Hid (Ks V0.heap.size W0 W)) := fun W k => ⟨bl_cell (bl_ks A0.out (by omega) k) 1 _ rfl, bl_cell (bl_ks A0.out (by omega) k) 2 _ rfl, k⟩
  refine wp_region_noPanic ?_
  refine hdrew MK Q0 (fun hH => ?_)
  have KQ := Q0
  refine tk 0 (some 17) (.fieldAddr 27 (.tmp 1) 1) 0 (v := ?v0a1) rfl ?h0a1 hH ?_
  case h0a1 => intro _ _; go_simp; try with_reducible rfl
  try simp only [ps]
  refine tk 1 (some 18) (.load 3 (.tmp 17)) 3 (v := ?v1a2) rfl ?h1a2 hH ?_
  case h1a2 => intro _ _; go_simp; try with_reducible rfl
  try simp only [ps]
  refine tk 2 (some 19) (.fieldAddr 27 (.tmp 1) 2) 0 (v := ?v2a3) rfl ?h2a3 hH ?_
  case h2a3 => intro _ _; go_simp; try with_reducible rfl
  try simp only [ps]
  refine tk 3 (some 20) (.load 3 (.tmp 19)) 3 (v := ?v3a4) rfl ?h3a4 hH ?_
  case h3a4 => intro _ _; go_simp; try with_reducible rfl
  try simp only [ps]
  refine tk 4 (some 21) (.fieldAddr 27 (.tmp 3) 1) 0 (v := ?v4a5) rfl ?h4a5 hH ?_
  case h4a5 => intro _ _; go_simp; try with_reducible rfl
  try simp only [ps]
  refine wpAnyH_ready (rs := [5]) (by kernel_rfl) (by simp) ?_
  refine AllReadyH.cons (o := { dst := none, op := .store 3 (.tmp 21) (.tmp 18), type := 0, pos := "right.go:61", after := _, guard := none }) rfl (fun K hKq => ?_) AllReadyH.nil
  have c1 := bl_cell BB.out 1 _ rfl
  have f1 := bl_frozen BB.out 1
  go_simp
  refine hKq.out _ _ (MK.out _ (KQ.set 1 _)) (fun hN => ?_)
  have BN := hid (bl_put (j := 1) BB.out (.int .i64 mn))
  clear BB c1 f1
  have BB := BN
  clear BN
  clear hKq K hH KQ
  have hH := hN
  clear hN
  have KQ := hH.2.2.out
  try simp only [ps]
  refine tk 6 (some 22) (.fieldAddr 27 (.tmp 3) 2) 0 (v := ?v6a6) rfl ?h6a6 hH ?_
  case h6a6 => intro _ _; go_simp; try with_reducible rfl
  try simp only [ps]
  refine wpAnyH_ready (rs := [7]) (by kernel_rfl) (by simp) ?_
  refine AllReadyH.cons (o := { dst := none, op := .store 3 (.tmp 22) (.tmp 20), type := 0, pos := "right.go:61", after := _, guard := none }) rfl (fun K hKq => ?_) AllReadyH.nil
  have c2 := bl_cell BB.out 2 _ rfl
  have f2 := bl_frozen BB.out 2
  go_simp
  refine hKq.out _ _ (MK.out _ (KQ.set 2 _)) (fun hN => ?_)
  have BN := hid (bl_put (j := 2) BB.out (.int .i64 mx))
  clear BB c2 f2
  have BB := BN
  clear BN
  clear hKq K hH KQ
  have hH := hN
  clear hN
  have KQ := hH.2.2.out
  try simp only [ps]
  refine wpAnyH_done (by kernel_rfl) ?_ _
  refine NoPanic.normal ?_
  go_upto_region 10 with fail
  refine opq (fun W1 => W1.heap[w.heap.size]? = some (rxo 4 mn mx m t (.slice ad l c)) ∧ W1.heap[V0.heap.size]? = some (rxo 4 mn mx 0 W4.z (.slice none 0 0)) ∧ Kp w W1) ⟨by exact bl_ks A0.out (by omega) KQ, by exact bl_drew BB.out, by exact KQ.up K0.out (Nat.le_of_lt hsV)⟩ ?_
  rintro W1 ⟨xA1, xB1, xK1⟩
  have A1 := hidT xA1
  have B1 := hidT xB1
  have K1 := hidT xK1
  clear xA1 xB1 xK1
  clear A0 B0 K0 BB hH KQ Q0 MK
  have A0 := A1
  have K0 := K1
  clear A1 K1
  obtain ⟨a0, fa0, a1, fa1, a2, fa2, a3, fa3, a4, fa4, a5, fa5, a6, fa6, a7, fa7, a8, fa8⟩ := cellf9 (A0.out)
  go_upto_region 12 with fail
  clear a0 fa0 a1 fa1 a2 fa2 a3 fa3 a4 fa4 a5 fa5 a6 fa6 a7 fa7 a8 fa8
  refine opq (fun W2 => W2.heap[w.heap.size]? = some (rxo 4 mn mx m t (.slice none 0 0)) ∧ W2.heap[V0.heap.size]? = some (rxo 4 mn mx 0 W4.z (.slice none 0 0)) ∧ Kp w W2) ⟨by exact bl_put A0.out _, by exact bl_set B1.out (by omega) _, by exact K0.out.setCell (Nat.le_refl _) _⟩ ?_
  rintro W2 ⟨xA2, xB2, xK2⟩
  have A2 := hidT xA2
  have B2 := hidT xB2
  have K2 := hidT xK2
  clear xA2 xB2 xK2
  obtain ⟨a0, a1, a2, a3, a4, a5, a6, a7, a8⟩ := cells9 (A2.out)
  obtain ⟨b0, b1, b2, b3, b4, b5, b6, b7, b8⟩ := cells9 (B2.out)
  go_wp2_with fail
  refine (SB.out _).mono ?_
  rintro e W3 ⟨rfl, k3⟩
  have A3 := hid (bl_kp A2.out k3)
  have K3 := hid (K2.out.trans k3)
  clear k3 a0 a1 a2 a3 a4 a5 a6 a7 a8 b0 b1 b2 b3 b4 b5 b6 b7 b8
  have x0 := bl_cell A3.out 0 _ rfl
  cases sm with
  | false =>
   go_wp2_with fail
   go_ret
   exact ⟨ret_bool (by rw [E.out]; rfl), K3.out⟩
  | true =>
   go_wp2_with fail
   refine (KF.out _).mono ?_
   rintro e W3 ⟨rfl, rfl⟩
   go_wp2_with fail
   go_ret
   exact ⟨ret_bool (by rw [E.out]; rfl), K3.out⟩
 by_cases k5 : k = 5
 ·
  subst k5
  obtain ⟨sm, hsm⟩ : ∃ sm, (mn == 0 && mx == 0 && m == m && t == W4.z) = sm := ⟨_, rfl⟩
  have SB := hid (same_bare 5 mn mx m 0 0 m t W4.z sm hsm)
  have E : Hid (leanB (.mk 5 mn mx m t kids) = (sm && kf)) := by show _ = _; rw [E0.out, ← hsm]; (first | (simp; done) | (simp; cases mn == 0 <;> cases mx == 0 <;> cases t == W4.z <;> rfl))
  clear hsm
  obtain ⟨a0, a1, a2, a3, a4, a5, a6, a7, a8⟩ := cells9 (A0.out)
  obtain ⟨b0, fb0, b1, fb1, b2, fb2, b3, fb3, b4, fb4, b5, fb5, b6, fb6, b7, fb7, b8, fb8⟩ := cellf9 (B0.out)
  go_upto_region 10 with fail
  clear a0 a1 a2 a3 a4 a5 a6 a7 a8 b0 fb0 b1 fb1 b2 fb2 b3 fb3 b4 fb4 b5 fb5 b6 fb6 b7 fb7 b8 fb8
  refine opq (fun W1 => W1.heap[w.heap.size]? = some (rxo 5 mn mx m t (.slice ad l c)) ∧ W1.heap[V0.heap.size]? = some (rxo 5 0 0 m W4.z (.slice none 0 0)) ∧ Kp w W1) ⟨by exact bl_set A0.out (by omega) _, by exact bl_put B0.out _, by exact K0.out.setCell (Nat.le_of_lt hsV) _⟩ ?_
  rintro W1 ⟨xA1, xB1, xK1⟩
  have A1 := hidT xA1
  have B1 := hidT xB1
  have K1 := hidT xK1
  clear xA1 xB1 xK1
  clear A0 B0 K0
  have A0 := A1
  have K0 := K1
  clear A1 K1
  obtain ⟨a0, fa0, a1, fa1, a2, fa2, a3, fa3, a4, fa4, a5, fa5, a6, fa6, a7, fa7, a8, fa8⟩ := cellf9 (A0.out)
  go_upto_region 12 with fail
  clear a0 fa0 a1 fa1 a2 fa2 a3 fa3 a4 fa4 a5 fa5 a6 fa6 a7 fa7 a8 fa8
  refine opq (fun W2 => W2.heap[w.heap.size]? = some (rxo 5 mn mx m t (.slice none 0 0)) ∧ W2.heap[V0.heap.size]? = some (rxo 5 0 0 m W4.z (.slice none 0 0)) ∧ Kp w W2) ⟨by exact bl_put A0.out _, by exact bl_set B1.out (by omega) _, by exact K0.out.setCell (Nat.le_refl _) _⟩ ?_
  rintro W2 ⟨xA2, xB2, xK2⟩
  have A2 := hidT xA2
  have B2 := hidT xB2
  have K2 := hidT xK2
  clear xA2 xB2 xK2
  obtain ⟨a0, a1, a2, a3, a4, a5, a6, a7, a8⟩ := cells9 (A2.out)
  obtain ⟨b0, b1, b2, b3, b4, b5, b6, b7, b8⟩ := cells9 (B2.out)
  go_wp2_with fail
  refine (SB.out _).mono ?_
  rintro e W3 ⟨rfl, k3⟩
  have A3 := hid (bl_kp A2.out k3)
  have K3 := hid (K2.out.trans k3)
  clear k3 a0 a1 a2 a3 a4 a5 a6 a7 a8 b0 b1 b2 b3 b4 b5 b6 b7 b8
  have x0 := bl_cell A3.out 0 _ rfl
  cases sm with
  | false =>
   go_wp2_with fail
   go_ret
   exact ⟨ret_bool (by rw [E.out]; rfl), K3.out⟩
  | true =>
   go_wp2_with fail
   refine (KF.out _).mono ?_
   rintro e W3 ⟨rfl, rfl⟩
   go_wp2_with fail
   go_ret
   exact ⟨ret_bool (by rw [E.out]; rfl), K3.out⟩
 by_cases k6 : k = 6
 ·
  subst k6
  obtain ⟨sm, hsm⟩ : ∃ sm, (mn == 0 && mx == 0 && m == m && t == W4.z) = sm := ⟨_, rfl⟩
  have SB := hid (same_bare 6 mn mx m 0 0 m t W4.z sm hsm)
  have E : Hid (leanB (.mk 6 mn mx m t kids) = (sm && kf)) := by show _ = _; rw [E0.out, ← hsm]; (first | (simp; done) | (simp; cases mn == 0 <;> cases mx == 0 <;> cases t == W4.z <;> rfl))
  clear hsm
  obtain ⟨a0, a1, a2, a3, a4, a5, a6, a7, a8⟩ := cells9 (A0.out)
  obtain ⟨b0, fb0, b1, fb1, b2, fb2, b3, fb3, b4, fb4, b5, fb5, b6, fb6, b7, fb7, b8, fb8⟩ := cellf9 (B0.out)
  go_upto_region 10 with fail
  clear a0 a1 a2 a3 a4 a5 a6 a7 a8 b0 fb0 b1 fb1 b2 fb2 b3 fb3 b4 fb4 b5 fb5 b6 fb6 b7 fb7 b8 fb8
  refine opq (fun W1 => W1.heap[w.heap.size]? = some (rxo 6 mn mx m t (.slice ad l c)) ∧ W1.heap[V0.heap.size]? = some (rxo 6 0 0 m W4.z (.slice none 0 0)) ∧ Kp w W1) ⟨by exact bl_set A0.out (by omega) _, by exact bl_put B0.out _, by exact K0.out.setCell (Nat.le_of_lt hsV) _⟩ ?_
  rintro W1 ⟨xA1, xB1, xK1⟩
  have A1 := hidT xA1
  have B1 := hidT xB1
  have K1 := hidT xK1
  clear xA1 xB1 xK1
  clear A0 B0 K0
  have A0 := A1
  have K0 := K1
  clear A1 K1
  obtain ⟨a0, fa0, a1, fa1, a2, fa2, a3, fa3, a4, fa4, a5, fa5, a6, fa6, a7, fa7, a8, fa8⟩ := cellf9 (A0.out)
  go_upto_region 12 with fail
  clear a0 fa0 a1 fa1 a2 fa2 a3 fa3 a4 fa4 a5 fa5 a6 fa6 a7 fa7 a8 fa8
  refine opq (fun W2 => W2.heap[w.heap.size]? = some (rxo 6 mn mx m t (.slice none 0 0)) ∧ W2.heap[V0.heap.size]? = some (rxo 6 0 0 m W4.z (.slice none 0 0)) ∧ Kp w W2) ⟨by exact bl_put A0.out _, by exact bl_set B1.out (by omega) _, by exact K0.out.setCell (Nat.le_refl _) _⟩ ?_
  rintro W2 ⟨xA2, xB2, xK2⟩
  have A2 := hidT xA2
  have B2 := hidT xB2
  have K2 := hidT xK2
  clear xA2 xB2 xK2
  obtain ⟨a0, a1, a2, a3, a4, a5, a6, a7, a8⟩ := cells9 (A2.out)
  obtain ⟨b0, b1, b2, b3, b4, b5, b6, b7, b8⟩ := cells9 (B2.out)
  go_wp2_with fail
  refine (SB.out _).mono ?_
  rintro e W3 ⟨rfl, k3⟩
  have A3 := hid (bl_kp A2.out k3)
  have K3 := hid (K2.out.trans k3)
  clear k3 a0 a1 a2 a3 a4 a5 a6 a7 a8 b0 b1 b2 b3 b4 b5 b6 b7 b8
  have x0 := bl_cell A3.out 0 _ rfl
  cases sm with
  | false =>
   go_wp2_with fail
   go_ret
   exact ⟨ret_bool (by rw [E.out]; rfl), K3.out⟩
  | true =>
   go_wp2_with fail
   refine (KF.out _).mono ?_
   rintro e W3 ⟨rfl, rfl⟩
   go_wp2_with fail
   go_ret
   exact ⟨ret_bool (by rw [E.out]; rfl), K3.out⟩
 have g1 : (k == 1) = false := by simp [k1]
 have g4 : (k == 4) = false := by simp [k4]
 have g5 : (k == 5) = false := by simp [k5]
 have g6 : (k == 6) = false := by simp [k6]
 obtain ⟨sm, hsm⟩ : ∃ sm, (mn == 0 && mx == 0 && m == 0 && t == W4.z) = sm := ⟨_, rfl⟩
 have SB := hid (same_bare k mn mx m 0 0 0 t W4.z sm hsm)
 have E : Hid (leanB (.mk k mn mx m t kids) = (sm && kf)) := by show _ = _; rw [E0.out, ← hsm]; rw [if_neg k4, if_neg (by omega), if_neg k1]; first | done | (cases mn == 0 <;> cases mx == 0 <;> cases m == 0 <;> cases t == W4.z <;> rfl)
 clear hsm
 obtain ⟨a0, fa0, a1, fa1, a2, fa2, a3, fa3, a4, fa4, a5, fa5, a6, fa6, a7, fa7, a8, fa8⟩ := cellf9 (A0.out)
 go_upto_region 12 with fail
 clear a0 fa0 a1 fa1 a2 fa2 a3 fa3 a4 fa4 a5 fa5 a6 fa6 a7 fa7 a8 fa8
 refine opq (fun W2 => W2.heap[w.heap.size]? = some (rxo k mn mx m t (.slice none 0 0)) ∧ W2.heap[V0.heap.size]? = some (rxo k 0 0 0 W4.z (.slice none 0 0)) ∧ Kp w W2) ⟨by exact bl_put A0.out _, by exact bl_set B0.out (by omega) _, by exact K0.out.setCell (Nat.le_refl _) _⟩ ?_
 rintro W2 ⟨xA2, xB2, xK2⟩
 have A2 := hidT xA2
 have B2 := hidT xB2
 have K2 := hidT xK2
 clear xA2 xB2 xK2
 obtain ⟨a0, a1, a2, a3, a4, a5, a6, a7, a8⟩ := cells9 (A2.out)
 obtain ⟨b0, b1, b2, b3, b4, b5, b6, b7, b8⟩ := cells9 (B2.out)
 go_wp2_with fail
 refine (SB.out _).mono ?_
 rintro e W3 ⟨rfl, k3⟩
 have A3 := hid (bl_kp A2.out k3)
 have K3 := hid (K2.out.trans k3)
 clear k3 a0 a1 a2 a3 a4 a5 a6 a7 a8 b0 b1 b2 b3 b4 b5 b6 b7 b8
 have x0 := bl_cell A3.out 0 _ rfl
 cases sm with
 | false =>
  go_wp2_with fail
  go_ret
  exact ⟨ret_bool (by rw [E.out]; rfl), K3.out⟩
 | true =>
  go_wp2_with fail
  refine (KF.out _).mono ?_
  rintro e W3 ⟨rfl, rfl⟩
  go_wp2_with fail
  go_ret
  exact ⟨ret_bool (by rw [E.out]; rfl), K3.out⟩
theorem RowAt.ks {P : Nat} {w w' : World} {ok : Nat → Prop} {ts : List Rx} {ad : Option Addr} {l c : Nat} (h : RowAt w ok ts ad l c) (k : Ks P w w') (hP : ∀ x, ok x → x ≠ P) : RowAt w' ok ts ad l c :=
 ⟨h.ln, h.cp, fun hn => by
  obtain ⟨b, o, h1, h2, h3, h4⟩ := h.ex hn
  exact ⟨b, o, h1, h2, Nat.lt_of_lt_of_le h3 k.size, IsL.turn k.size (fun b hb hl => ⟨hb, k.block b hl (hP b hb)⟩) ts b o (k.block b h3 (hP b h2)) h4⟩⟩
theorem Cb.lt {w : World} {C : Nat} {ere : Bool} {n g d : Nat} (h : Cb w C ere n g d) : C < w.heap.size := bl_lt h
theorem Ckd.no {C : Nat} {ere : Bool} {o : Option Ck} {w w' : World} {d0 n g d : Nat} (ho : o = none) (hc : Cb w' C ere n g d) (hn : n ≤ 41) (hg : g ≤ 41) (hd : d ≤ 7) (h0 : d0 ≤ d) (k : Ks C w w') : Ckd C ere d0 o w (.returned (.bool false)) w' :=
 ⟨false, rfl, by rw [ho]; rfl, ⟨n, g, d, hc, hn, hg, hd, h0, fun c h => by rw [ho] at h; cases h⟩, k⟩
theorem Ckd.yes {C : Nat} {ere : Bool} {o : Option Ck} {w w' : World} {d0 n g d : Nat} (ho : o = some ⟨n, g, d⟩) (hc : Cb w' C ere n g d) (hn : n ≤ 41) (hg : g ≤ 41) (hd : d ≤ 7) (h0 : d0 ≤ d) (k : Ks C w w') : Ckd C ere d0 o w (.returned (.bool true)) w' :=
 ⟨true, rfl, by rw [ho]; rfl, ⟨n, g, d, hc, hn, hg, hd, h0, fun c h => by rw [ho] at h; injection h with h; subst h; exact ⟨rfl, rfl, rfl⟩⟩, k⟩
structure CkOk (c c' : Ck) : Prop where
 n : c'.n ≤ 40
 g : c'.g ≤ c'.n
 d : c'.d = c.d
mutual
theorem chk_ok (ere : Bool) : ∀ (r : Rx) (b e : Bool) (c c' : Ck), c.n ≤ 40 → c.g ≤ c.n → chk ere r b e c = some c' → CkOk c c' ∧ c.n < c'.n
 | .mk k mn mx n s kids, b, e, c, c', hn, hg, h => by
  unfold chk at h
  split at h
  ·
   cases h
  ·
   rename_i h0
   have h40 : c.n + 1 ≤ 40 := by omega
   have one : some (⟨c.n + 1, c.g, c.d⟩ : Ck) = some c' → CkOk c c' ∧ c.n < c'.n := fun h => by
    injection h with h; subst h
    exact ⟨⟨h40, by show c.g ≤ c.n + 1; omega, rfl⟩, by show c.n < c.n + 1; omega⟩
   split at h
   ·
    split at h
    ·
     exact one h
    ·
     cases h
   split at h
   ·
    have := chkCat_ok ere kids true ⟨c.n + 1, c.g, c.d⟩ c' h40 (by show c.g ≤ c.n + 1; omega) h
    exact ⟨⟨this.1.n, this.1.g, this.1.d⟩, by have := this.2; simp only at this; omega⟩
   split at h
   ·
    split at h
    ·
     have := chkAlt_ok ere kids ⟨c.n + 1, c.g, c.d⟩ c' h40 (by show c.g ≤ c.n + 1; omega) h
     exact ⟨⟨this.1.n, this.1.g, this.1.d⟩, by have := this.2; simp only at this; omega⟩
    ·
     cases h
   split at h
   ·
    split at h
    ·
     have := chkRep_ok ere kids ⟨c.n + 1, c.g, c.d⟩ c' h40 (by show c.g ≤ c.n + 1; omega) h
     exact ⟨⟨this.1.n, this.1.g, this.1.d⟩, by have := this.2; simp only at this; omega⟩
    ·
     cases h
   split at h
   ·
    split at h
    ·
     cases h
    ·
     have := chkGroup_ok ere kids ⟨c.n + 1, c.g + 1, c.d + 1⟩ c' h40 (by show c.g + 1 ≤ c.n + 1; omega) h
     exact ⟨⟨this.1, this.2.1, by have := this.2.2.1; simp only at this; omega⟩, by have := this.2.2.2; simp only at this; omega⟩
   split at h
   ·
    split at h
    ·
     exact one h
    ·
     cases h
   split at h
   ·
    split at h
    ·
     exact one h
    ·
     cases h
   split at h
   ·
    split at h
    ·
     exact one h
    ·
     cases h
   ·
    cases h
theorem chkCat_ok (ere : Bool) : ∀ (rs : List Rx) (f : Bool) (c c' : Ck), c.n ≤ 40 → c.g ≤ c.n → chkCat ere rs f c = some c' → CkOk c c' ∧ c.n ≤ c'.n
 | [], f, c, c', hn, hg, h => by
  unfold chkCat at h
  injection h with h; subst h
  exact ⟨⟨hn, hg, rfl⟩, Nat.le_refl _⟩
 | r :: rs, f, c, c', hn, hg, h => by
  unfold chkCat at h
  split at h
  ·
   cases h
  ·
   split at h
   ·
    cases h
   ·
    rename_i c1 hc1
    have h1 := chk_ok ere r f rs.isEmpty c c1 hn hg hc1
    have h2 := chkCat_ok ere rs false c1 c' h1.1.n h1.1.g h
    exact ⟨⟨h2.1.n, h2.1.g, h2.1.d.trans h1.1.d⟩, by omega⟩
theorem chkAlt_ok (ere : Bool) : ∀ (rs : List Rx) (c c' : Ck), c.n ≤ 40 → c.g ≤ c.n → chkAlt ere rs c = some c' → CkOk c c' ∧ c.n ≤ c'.n
 | [], c, c', hn, hg, h => by
  unfold chkAlt at h
  injection h with h; subst h
  exact ⟨⟨hn, hg, rfl⟩, Nat.le_refl _⟩
 | r :: rs, c, c', hn, hg, h => by
  unfold chkAlt at h
  split at h
  ·
   cases h
  ·
   split at h
   ·
    cases h
   ·
    rename_i c1 hc1
    have h1 := chk_ok ere r false false c c1 hn hg hc1
    have h2 := chkAlt_ok ere rs c1 c' h1.1.n h1.1.g h
    exact ⟨⟨h2.1.n, h2.1.g, h2.1.d.trans h1.1.d⟩, by omega⟩
theorem chkRep_ok (ere : Bool) : ∀ (rs : List Rx) (c c' : Ck), c.n ≤ 40 → c.g ≤ c.n → chkRep ere rs c = some c' → CkOk c c' ∧ c.n ≤ c'.n
 | [], c, c', hn, hg, h => by unfold chkRep at h; cases h
 | r :: rs, c, c', hn, hg, h => by
  unfold chkRep at h
  split at h
  ·
   have h1 := chk_ok ere r false false c c' hn hg h
   exact ⟨h1.1, by omega⟩
  ·
   cases h
theorem chkGroup_ok (ere : Bool) : ∀ (rs : List Rx) (c c' : Ck), c.n ≤ 40 → c.g ≤ c.n → chkGroup ere rs c = some c' → c'.n ≤ 40 ∧ c'.g ≤ c'.n ∧ c'.d = c.d - 1 ∧ c.n ≤ c'.n
 | [], c, c', hn, hg, h => by unfold chkGroup at h; cases h
 | r :: rs, c, c', hn, hg, h => by
  unfold chkGroup at h
  split at h
  ·
   cases h
  ·
   rename_i c1 hc1
   injection h with h; subst h
   have h1 := chk_ok ere r true true c c1 hn hg hc1
   exact ⟨h1.1.n, h1.1.g, by show c1.d - 1 = c.d - 1; rw [h1.1.d], by show c.n ≤ c1.n; omega⟩
end
theorem chkCat_cons (ere : Bool) (r : Rx) (rs : List Rx) (f : Bool) (c : Ck) : chkCat ere (r :: rs) f c = if r.k = 2 ∨ r.k = 3 then none else (chk ere r f rs.isEmpty c).bind fun c' => chkCat ere rs false c' := by
 rw [chkCat]
 split
 ·
  rfl
 ·
  cases chk ere r f rs.isEmpty c <;> rfl
theorem Is.kind' {w : World} {ok : Nat → Prop} {r : Rx} {k mn mx n : Int} {s : W4} {ks : Value} (h : Is w ok r (rxv k mn mx n s ks)) : r.k = k := by
 cases r with
 | mk k' mn' mx' n' s' kids =>
  unfold Is at h
  obtain ⟨ad, l, c, he, _⟩ := h
  injection he with he
  injection he with he
  simp at he
  exact he.1.symm
theorem Ks.kpt' {P : Nat} {a b c : World} (h : Ks P a b) (k : Kp b c) (hP : P < b.heap.size) : Ks P a c := h.kp k (Nat.le_of_lt hP)
structure Kw (ere : Bool) (C : Nat) (d0 : Nat) (w : World) (ts : List Rx) (o : Option Ck) (k : Nat) (wr : World) (c : Ck) : Prop where
 cb : Cb wr C ere c.n c.g c.d
 n : c.n ≤ 40
 g : c.g ≤ c.n
 d : c.d = d0
 eq : chkCat ere (ts.drop k) (k == 0) c = o
 ks : Ks C w wr
theorem Ckd.form {C : Nat} {ere : Bool} {d0 : Nat} {o : Option Ck} {w w' : World} {e : Ending} (h : Ckd C ere d0 o w e w') : (∃ c, o = some c ∧ e = .returned (.bool true) ∧ Cb w' C ere c.n c.g c.d ∧ Ks C w w') ∨ (o = none ∧ e = .returned (.bool false) ∧ (∃ n g d, Cb w' C ere n g d ∧ n ≤ 41 ∧ g ≤ 41 ∧ d ≤ 7 ∧ d0 ≤ d) ∧ Ks C w w') := by
 obtain ⟨b, he, hb, ⟨n, g, d, hc, h1, h2, h3, h3', h4⟩, hk⟩ := h.ex
 cases o with
 | none =>
  refine Or.inr ⟨rfl, ?_, ⟨n, g, d, hc, h1, h2, h3, h3'⟩, hk⟩
  rw [he, hb]; rfl
 | some c =>
  obtain ⟨e1, e2, e3⟩ := h4 c rfl
  subst e1; subst e2; subst e3
  refine Or.inl ⟨c, rfl, ?_, hc, hk⟩
  rw [he, hb]; rfl
theorem cat_any (ere : Bool) (ts : List Rx) (H : ∀ r, r ∈ ts → RightSaid ere r) (C : Nat) (ok : Nat → Prop) (ad : Option Addr) (l c : Nat) (n g d : Nat) (w : World) (hr : RowAt w ok ts ad l c) (hok : ∀ x, ok x → x ≠ C) (hc : Cb w C ere n g d) (hn : n ≤ 40) (hg : g ≤ n) (hd : d ≤ 6) (hl : ts.length ≤ 1000000) :
  Calls Tryz.prog 151 #[.pointer (some ⟨C, 0, none⟩), .slice ad l c] w fun e w' => Ckd C ere d (chkCat ere ts true ⟨n, g, d⟩) w e w' := by
 have hle := hr.ln
 have hlc := hr.cp
 subst hle
 obtain ⟨L, hL⟩ : ∃ L, ts.length = L := ⟨_, rfl⟩
 rw [hL] at hr hlc hl ⊢
 have HL := hid hL
 have RR := hid hr
 have HC := hid hc
 have HH := hid H
 have HOK := hid hok
 clear hL hr hc H hok
 obtain ⟨o, ho⟩ : ∃ o, chkCat ere ts true ⟨n, g, d⟩ = o := ⟨_, rfl⟩
 rw [ho]
 have HO := hid ho
 clear ho
 go_enter Tryz.func151, Tryz.ntmps151
 go_wp2_with fail
 go_loopg [9] L (fun gg v wr => ∃ (k : Nat) (c : Ck), k + gg = L ∧ v = .int .i64 (k : Int) ∧ Kw ere C d w ts o k wr c)
 case atStart => exact ⟨0, ⟨n, g, d⟩, by omega, rfl, HC.out, hn, hg, rfl, HO.out, Ks.refl _ _⟩
 case round =>
  obtain ⟨k, ⟨n1, g1, d1⟩, hk, rfl, hw⟩ := hrel
  have KW := hid hw
  have hn1 : n1 ≤ 40 := hw.n
  have hg1 : g1 ≤ n1 := hw.g
  have hd1 : d1 = d := hw.d
  subst hd1
  clear hw
  by_cases hlt : k < L
  ·
   have gkw : IntKind.i64.wrap ((k : Int) + 1) = (k : Int) + 1 := by rw [IntKind.wrap_i64]; omega
   have ga : (k : Int) < (L : Int) := by omega
   have g0 : (0 : Int) ≤ (k : Int) := by omega
   have gl : IntKind.i64.wrap ((L : Int) - 1) = (L : Int) - 1 := by rw [IntKind.wrap_i64]; omega
   obtain ⟨r, hr⟩ : ∃ r, ts[k]? = some r := ⟨_, List.getElem?_eq_getElem (by rw [HL.out]; exact hlt)⟩
   have hdrop : ts.drop k = r :: ts.drop (k + 1) := List.drop_eq_getElem_cons (by rw [HL.out]; exact hlt) ▸ by
    have := (List.getElem?_eq_some_iff.1 hr).2
    rw [this]
   have RW := hid (RR.out.ks KW.out.ks HOK.out)
   obtain ⟨bb, oo, kk, mn, mx, mm, tt, ad', ll, cc, e1, hbb, i1, ce1⟩ := RW.out.at k r hr
   subst e1
   have RS := hid (HH.out r (List.mem_of_getElem? hr))
   have I1 := hid i1
   have hkk : r.k = kk := i1.kind'
   have HKK := hid hkk
   have CE1 := hid ce1
   have HD := hid hdrop
   have lastB : (ts.drop (k + 1)).isEmpty = ((k : Int) == (L : Int) - 1) := by
    rw [Bool.eq_iff_iff]
    simp
    rw [HL.out]
    omega
   have HLB := hid lastB
   have E0 : Hid (o = if kk = 2 ∨ kk = 3 then none else (chk ere r ((k : Int) == 0) ((k : Int) == (L : Int) - 1) ⟨n1, g1, d1⟩).bind fun c' => chkCat ere (ts.drop (k + 1)) false c') := by
    show _ = _
    rw [← KW.out.eq, hdrop, chkCat_cons, hkk, lastB]
    rw [show (k == 0) = ((k : Int) == 0) by rw [Bool.eq_iff_iff]; simp]
   obtain ⟨zb, hzb⟩ : ∃ zb, ((k : Int) == 0) = zb := ⟨_, rfl⟩
   obtain ⟨zl, hzl⟩ : ∃ zl, ((k : Int) == (L : Int) - 1) = zl := ⟨_, rfl⟩
   rw [hzb, hzl] at E0
   clear hr i1 ce1 hkk hdrop lastB
   obtain ⟨x0, x1, x2, x3, x4, x5, x6, x7, x8⟩ := cells_of_is CE1.out
   go_upto_region 4 with fail
   clear x0 x1 x2 x3 x4 x5 x6 x7 x8
   refine opq (fun W => W.heap[wr.heap.size]? = some (rxo kk mn mx mm tt (.slice ad' ll cc)) ∧ Kp wr W) ⟨by exact last_at _ _ _ (by simp), by exact (Kp.refl _).alloc _⟩ ?_
   rintro W1 ⟨y1, y2⟩
   have A1 := hid y1
   have K1 := hid y2
   clear y1 y2
   obtain ⟨a0, a1, a2, a3, a4, a5, a6, a7, a8⟩ := cells9 (A1.out)
   have hCw := KW.out.cb.lt
   have CB1 := hid (KW.out.cb.kp K1.out)
   have KS1 := hid (KW.out.ks.kpt' K1.out hCw)
   by_cases h2 : kk = 2
   ·
    subst h2
    have E : Hid (o = none) := by show _ = _; rw [E0.out]; rfl
    go_wp2_with fail
    go_ret
    exact Ckd.no E.out CB1.out (by show n1 ≤ 41; omega) (by show g1 ≤ 41; omega) (by show d1 ≤ 7; omega) (Nat.le_refl _) KS1.out
   by_cases h3 : kk = 3
   ·
    subst h3
    have E : Hid (o = none) := by show _ = _; rw [E0.out]; rfl
    go_wp2_with fail
    go_ret
    exact Ckd.no E.out CB1.out (by show n1 ≤ 41; omega) (by show g1 ≤ 41; omega) (by show d1 ≤ 7; omega) (Nat.le_refl _) KS1.out
   have g2 : (kk == 2) = false := by simp [h2]
   have g3 : (kk == 3) = false := by simp [h3]
   have E1 : Hid (o = (chk ere r zb zl ⟨n1, g1, d1⟩).bind fun c' => chkCat ere (ts.drop (k + 1)) false c') := by show _ = _; rw [E0.out, if_neg (by omega)]
   go_wp2_with fail
   clear a0 a1 a2 a3 a4 a5 a6 a7 a8
   refine (RS.out.all C ok _ zb zl n1 g1 d1 _ (I1.out.kp K1.out) HOK.out CB1.out hn1 hg1 hd).mono ?_
   intro e W2 hcd
   rcases hcd.form with ⟨c2, ho2, rfl, hcb2, hks2⟩ | ⟨ho2, rfl, ⟨n2, g2', d2, hcb2, b1, b2, b3, b4⟩, hks2⟩
   ·
    have hck := chk_ok ere r zb zl ⟨n1, g1, d1⟩ c2 hn1 hg1 ho2
    have CB2 := hid hcb2
    have KS2 := hid (KS1.out.trans hks2)
    have E2 : Hid (chkCat ere (ts.drop (k + 1)) (k + 1 == 0) c2 = o) := by show _ = _; rw [E1.out, ho2]; rfl
    have b1 : c2.n ≤ 40 := hck.1.n
    have b2 : c2.g ≤ c2.n := hck.1.g
    have b3 : c2.d = d1 := hck.1.d
    have B3 := hid b3
    clear b3
    clear hcd hcb2 hks2 ho2 hck
    go_wp2_with fail
    go_roundg (gk - 1)
    case measure => omega
    case rel => exact ⟨k + 1, c2, by omega, by go_num, CB2.out, b1, b2, B3.out, E2.out, KS2.out⟩
   ·
    have CB2 := hid hcb2
    have KS2 := hid (KS1.out.trans hks2)
    have E : Hid (o = none) := by show _ = _; rw [E1.out, ho2]; rfl
    clear hcd hcb2 hks2 ho2
    go_wp2_with fail
    go_ret
    exact Ckd.no E.out CB2.out b1 b2 b3 b4 KS2.out
  ·
   have ga : ¬ (k : Int) < (L : Int) := by omega
   have E : Hid (o = some ⟨n1, g1, d1⟩) := by
    have := KW.out.eq
    rw [List.drop_eq_nil_of_le (by rw [HL.out]; omega)] at this
    unfold chkCat at this
    exact this.symm
   go_wp2
   go_ret
   exact Ckd.yes E.out KW.out.cb (by omega) (by omega) (by omega) (Nat.le_refl _) KW.out.ks
end Go.Proofs.YtigdmebijbaofaaGreatDoor
