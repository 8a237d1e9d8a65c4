/-
  Texts of this claim: CmE, Talk2, CmF, Cm9.
-/
import Derived.Test.YtigdmebijbaofaaGreatDoorReadDM4
import Derived.Test.YtigdmebijbaofaaGreatDoorReadDM22
import Derived.Test.YtigdmebijbaofaaGreatDoorReadDM23
import Derived.Test.YtigdmebijbaofaaGreatDoorReadDM21
import Derived.Test.YtigdmebijbaofaaGreatDoorReadDM20
import Derived.Test.YtigdmebijbaofaaGreatDoorReadDM8
/-! ### CmE -/
namespace Go.Proofs.YtigdmebijbaofaaGreatDoor
set_option maxHeartbeats 2000000
set_option maxRecDepth 100000
open Go.RowKit
theorem e_str (s : ByteArray) : (s.data.toList == ([] : List UInt8)) = decide (s.size = 0) := by
 rw [← str_nil, ByteArray.toList_eq]
 cases s.data.toList <;> rfl
theorem e_pcs (P : List Pc) : pcsEq P [] = P.isEmpty := by cases P <;> rfl
abbrev cz (op : Nat) : Cv := ⟨Av.z, Av.z, false, op, ⟨#[]⟩, Rv.z, none, 0, 0, false, false, 0, ⟨#[]⟩, ⟨#[]⟩⟩
theorem cz_is (op : Nat) (w : World) : CIs w (cz op) zR zR zR [] := ⟨zR_is w, zR_is w, zR_is w, PcAt.nil w⟩
theorem zR_same : sameR zR zR = true := by decide
abbrev Cv.s0 (c : Cv) : Cv := ⟨Av.z, Av.z, false, c.op, c.tx, c.r, c.pa, c.pl, c.pc, c.g, c.s, c.nth, c.y, c.z⟩
abbrev Cv.s2 (c : Cv) : Cv := ⟨Av.z, Av.z, false, c.op, ⟨#[]⟩, c.r, c.pa, c.pl, c.pc, c.g, c.s, c.nth, c.y, c.z⟩
abbrev Cv.s5 (c : Cv) : Cv := ⟨Av.z, Av.z, false, c.op, ⟨#[]⟩, Rv.z, none, 0, 0, false, false, 0, c.y, c.z⟩
abbrev Cv.s6 (c : Cv) : Cv := ⟨Av.z, Av.z, false, c.op, c.tx, c.r, c.pa, c.pl, c.pc, c.g, c.s, c.nth, ⟨#[]⟩, ⟨#[]⟩⟩
theorem kind_le {op n : Nat} (h : kindN op = n) : n ≤ 6 := by
 rw [← h]
 unfold kindN
 repeat' split
 all_goals omega
theorem lean_s2 (c : Cv) (R : Rx) (P : List Pc) (h : kindN c.op = 2 ∨ kindN c.op = 3 ∨ kindN c.op = 4) : sameC (Cv.s2 c) (cz c.op) zR zR R zR zR zR P [] = leanR c R P := by
 unfold sameC leanR adEq
 have e1 := e_str c.tx
 have e2 := e_str c.y
 have e3 := e_str c.z
 have e4 : sameR R zR = noR R := rfl
 cases hg : c.g <;> cases hs : c.s <;> (first | (rcases h with h | h | h) | skip) <;> simp [h, e2, e3, e4, zR_same, e_pcs, Bool.and_assoc]
theorem lean_s5 (c : Cv) (R : Rx) (P : List Pc) (h : kindN c.op = 5) : sameC (Cv.s5 c) (cz c.op) zR zR zR zR zR zR [] [] = leanR c R P := by
 unfold sameC leanR adEq
 have e1 := e_str c.tx
 have e2 := e_str c.y
 have e3 := e_str c.z
 have e4 : sameR R zR = noR R := rfl
 cases hg : c.g <;> cases hs : c.s <;> (first | (rcases h with h | h | h) | skip) <;> simp [h, e2, e3, zR_same, pcsEq]
theorem lean_s6 (c : Cv) (R : Rx) (P : List Pc) (h : kindN c.op = 6) : sameC (Cv.s6 c) (cz c.op) zR zR R zR zR zR P [] = leanR c R P := by
 unfold sameC leanR adEq
 have e1 := e_str c.tx
 have e2 := e_str c.y
 have e3 := e_str c.z
 have e4 : sameR R zR = noR R := rfl
 cases hg : c.g <;> cases hs : c.s <;> (first | (rcases h with h | h | h) | skip) <;> simp [h, e1, e4, zR_same, e_pcs, Bool.and_assoc]
theorem lean_s0 (c : Cv) (R : Rx) (P : List Pc) (h : kindN c.op = 0 ∨ kindN c.op = 1 ∨ kindN c.op = 1) : sameC (Cv.s0 c) (cz c.op) zR zR R zR zR zR P [] = leanR c R P := by
 unfold sameC leanR adEq
 have e1 := e_str c.tx
 have e2 := e_str c.y
 have e3 := e_str c.z
 have e4 : sameR R zR = noR R := rfl
 cases hg : c.g <;> cases hs : c.s <;> (first | (rcases h with h | h | h) | skip) <;> simp [h, e1, e2, e3, e4, zR_same, e_pcs, Bool.and_assoc]
theorem sets_a (c : Cv) : ((putL (putL c.cs 0 z11) 11 z11).setIfInBounds 22 (.bool false)) = (Cv.s0 c).cs := by
 simp only [putL, List.setIfInBounds_toArray, List.set_cons_zero, List.set_cons_succ] <;> rfl
theorem sets_b (c : Cv) : ((Cv.s0 c).cs.setIfInBounds 24 (.string ⟨#[]⟩)) = (Cv.s2 c).cs := by
 simp only [List.setIfInBounds_toArray, List.set_cons_zero, List.set_cons_succ] <;> rfl
theorem sets_c (c : Cv) : ((((((putL (Cv.s0 c).cs 25 z9).setIfInBounds 34 (.slice none 0 0)).setIfInBounds 24 (.string ⟨#[]⟩)).setIfInBounds 35 (.bool false)).setIfInBounds 36 (.bool false)).setIfInBounds 37 (.int .i64 0)) = (Cv.s5 c).cs := by
 simp only [putL, List.setIfInBounds_toArray, List.set_cons_zero, List.set_cons_succ] <;> rfl
theorem sets_d (c : Cv) : (((Cv.s0 c).cs.setIfInBounds 38 (.string ⟨#[]⟩)).setIfInBounds 39 (.string ⟨#[]⟩)) = (Cv.s6 c).cs := by
 simp only [List.setIfInBounds_toArray, List.set_cons_zero, List.set_cons_succ] <;> rfl
theorem clean_tail (c d : Cv) (R' : Rx) (P' : List Pc) (E : Bool) (hO : COk d zR zR R' P') (hE : sameC d (cz c.op) zR zR R' zR zR zR P' [] = E) (w : World) (h : CIs w d zR zR R' P') : Calls Tryz.prog 24 #[Cv.v d, Cv.v (cz c.op)] w fun e w' => e = .returned (.bool E) ∧ Kp w w' := by
 have := cmdSame_any d (cz c.op) zR zR R' zR zR zR P' [] hO w h (cz_is _ _)
 rw [hE] at this
 exact this
set_option maxHeartbeats 8000000 in
theorem cleanC_any (c : Cv) (A B R : Rx) (P : List Pc) (hO : COk c A B R P) (w : World) (hc : CIs w c A B R P) : Calls Tryz.prog 55 #[c.v] w fun e w' => e = .returned (.bool (leanR c R P)) ∧ Kp w w' := by
 obtain ⟨E, hE⟩ : ∃ E, leanR c R P = E := ⟨_, rfl⟩
 rw [hE]
 have HE := hid hE
 obtain ⟨n, hn⟩ : ∃ n, kindN c.op = n := ⟨_, rfl⟩
 have C1 : Hid (∀ w, Calls Tryz.prog 95 #[.int .u8 (c.op : Int)] w fun e w' => e = .returned (.int .i64 (n : Int)) ∧ w' = w) := fun w => by rw [← hn]; exact kind_any c.op w
 have HN := hid hn
 have HC := hid hc
 have hnn : n ≤ 6 := kind_le hn
 clear hE hn hc
 go_enter Tryz.func55, Tryz.ntmps55
 go_upto_region 1 with fail
 refine opq (fun W0 => W0.heap[w.heap.size]? = some c.o ∧ Kp w W0) ⟨by (first | exact last_at _ _ _ (by simp) | (refine bl_alloc ?_ _; first | exact last_at _ _ _ (by simp) | (refine bl_alloc ?_ _; first | exact last_at _ _ _ (by simp) | (refine bl_alloc ?_ _; exact last_at _ _ _ (by simp))))), by exact kpt⟩ ?_
 rintro W0 ⟨xA0, xK0⟩
 have A0 := hidT xA0
 have K0 := hidT xK0
 clear xA0 xK0
 go_upto_region 2 with ((refine wpList_store_blk rfl rfl rfl z11 rfl A0.out (by (repeat first | rw [putL_size] | rw [Array.size_setIfInBounds]); exact Nat.le_of_ble_eq_true rfl) (by kernel_rfl) rfl ?_); intro Wa x1 x2; have Waa := hid x1; have Wak := hid x2; clear x1 x2; simp only [Act.put]; go_step; go_step; go_step; (refine wpList_store_blk rfl rfl rfl z11 rfl Waa.out (by (repeat first | rw [putL_size] | rw [Array.size_setIfInBounds]); exact Nat.le_of_ble_eq_true rfl) (by kernel_rfl) rfl ?_); intro Wb x1 x2; have Wba := hid x1; have Wbk := hid x2; clear x1 x2; simp only [Act.put]; go_step; go_step; go_step; (refine wpList_store_cell (v := .bool false) rfl rfl rfl rfl Wba.out (by (repeat first | rw [putL_size] | rw [Array.size_setIfInBounds]); exact Nat.le_of_ble_eq_true rfl) rfl rfl (by kernel_rfl) ?_); intro Wc x1 x2; have Wca := hid x1; have Wck := hid x2; clear x1 x2; simp only [Act.put])
 refine opq (fun W1 => W1.heap[w.heap.size]? = some (Cv.o (Cv.s0 c)) ∧ Kp w W1 ∧ CIs W1 (Cv.s0 c) zR zR R P) ⟨by have := Wca.out; rw [sets_a c] at this; exact this, by exact (((Wak.out.trans Wbk.out).trans Wck.out).up K0.out (Nat.le_refl _)), by exact ⟨zR_is _, zR_is _, (HC.out.kp (((Wak.out.trans Wbk.out).trans Wck.out).up K0.out (Nat.le_refl _))).r, (HC.out.kp (((Wak.out.trans Wbk.out).trans Wck.out).up K0.out (Nat.le_refl _))).p⟩⟩ ?_
 rintro W1 ⟨xA1, xK1, xI1⟩
 have A1 := hidT xA1
 have K1 := hidT xK1
 have I1 := hidT xI1
 clear xA1 xK1 xI1
 clear A0 K0 Waa Wak Wba Wbk Wca Wck
 have a23 := bl_cell A1.out 23 (.int .u8 ((Cv.s0 c).op : Int)) rfl
 go_wp2_with fail
 refine (C1.out _).mono ?_
 rintro e W1 ⟨rfl, rfl⟩
 clear a23
 by_cases h0 : n = 0
 ·
  subst h0
  as_aux_lemma =>
  have a23 := bl_cell A1.out 23 (.int .u8 (c.op : Int)) rfl
  go_wp2_with (refine wpList_load_cv rfl rfl (Cv.s0 c) A1.out (by rfl) ?_; simp only [Act.put, List.setIfInBounds_toArray, List.set_cons_zero, List.set_cons_succ])
  refine (clean_tail c (Cv.s0 c) R P E ⟨zR_ok, zR_ok, hO.r, hO.p, hO.op, hO.tx, hO.y, hO.z⟩ ((lean_s0 c R P (.inl HN.out)).trans HE.out) _ I1.out).mono ?_
  rintro e W3 ⟨rfl, k1⟩
  have K3 := hid (K1.out.trans k1)
  clear k1
  go_wp2_with fail
  go_ret
  exact ⟨rfl, K3.out⟩
 by_cases h1 : n = 1
 ·
  subst h1
  as_aux_lemma =>
  have a23 := bl_cell A1.out 23 (.int .u8 (c.op : Int)) rfl
  go_wp2_with (refine wpList_load_cv rfl rfl (Cv.s0 c) A1.out (by rfl) ?_; simp only [Act.put, List.setIfInBounds_toArray, List.set_cons_zero, List.set_cons_succ])
  refine (clean_tail c (Cv.s0 c) R P E ⟨zR_ok, zR_ok, hO.r, hO.p, hO.op, hO.tx, hO.y, hO.z⟩ ((lean_s0 c R P (.inr (.inl HN.out))).trans HE.out) _ I1.out).mono ?_
  rintro e W3 ⟨rfl, k1⟩
  have K3 := hid (K1.out.trans k1)
  clear k1
  go_wp2_with fail
  go_ret
  exact ⟨rfl, K3.out⟩
 by_cases h2 : n = 2
 ·
  subst h2
  as_aux_lemma =>
  go_upto_region 12 with ((refine wpList_store_cell (v := .string ⟨#[]⟩) rfl rfl rfl rfl A1.out (by (repeat first | rw [putL_size] | rw [Array.size_setIfInBounds]); exact Nat.le_of_ble_eq_true rfl) rfl rfl (by kernel_rfl) ?_); intro Wa x1 x2; have Waa := hid x1; have Wak := hid x2; clear x1 x2; simp only [Act.put])
  refine opq (fun W2 => W2.heap[w.heap.size]? = some (Cv.o (Cv.s2 c)) ∧ Kp w W2 ∧ CIs W2 (Cv.s2 c) zR zR R P) ⟨by have := Waa.out; rw [sets_b c] at this; exact this, by exact (Wak.out.up K1.out (Nat.le_refl _)), by exact ⟨zR_is _, zR_is _, (HC.out.kp (Wak.out.up K1.out (Nat.le_refl _))).r, (HC.out.kp (Wak.out.up K1.out (Nat.le_refl _))).p⟩⟩ ?_
  rintro W2 ⟨xA2, xK2, xI2⟩
  have A2 := hidT xA2
  have K2 := hidT xK2
  have I2 := hidT xI2
  clear xA2 xK2 xI2
  have a23 := bl_cell A2.out 23 (.int .u8 (c.op : Int)) rfl
  go_wp2_with (refine wpList_load_cv rfl rfl (Cv.s2 c) A2.out (by rfl) ?_; simp only [Act.put, List.setIfInBounds_toArray, List.set_cons_zero, List.set_cons_succ])
  refine (clean_tail c (Cv.s2 c) R P E ⟨zR_ok, zR_ok, hO.r, hO.p, hO.op, (by show (0 : Nat) ≤ 1000000; omega), hO.y, hO.z⟩ ((lean_s2 c R P (.inl HN.out)).trans HE.out) _ I2.out).mono ?_
  rintro e W3 ⟨rfl, k1⟩
  have K3 := hid (K2.out.trans k1)
  clear k1
  go_wp2_with fail
  go_ret
  exact ⟨rfl, K3.out⟩
 by_cases h3 : n = 3
 ·
  subst h3
  as_aux_lemma =>
  go_upto_region 12 with ((refine wpList_store_cell (v := .string ⟨#[]⟩) rfl rfl rfl rfl A1.out (by (repeat first | rw [putL_size] | rw [Array.size_setIfInBounds]); exact Nat.le_of_ble_eq_true rfl) rfl rfl (by kernel_rfl) ?_); intro Wa x1 x2; have Waa := hid x1; have Wak := hid x2; clear x1 x2; simp only [Act.put])
  refine opq (fun W2 => W2.heap[w.heap.size]? = some (Cv.o (Cv.s2 c)) ∧ Kp w W2 ∧ CIs W2 (Cv.s2 c) zR zR R P) ⟨by have := Waa.out; rw [sets_b c] at this; exact this, by exact (Wak.out.up K1.out (Nat.le_refl _)), by exact ⟨zR_is _, zR_is _, (HC.out.kp (Wak.out.up K1.out (Nat.le_refl _))).r, (HC.out.kp (Wak.out.up K1.out (Nat.le_refl _))).p⟩⟩ ?_
  rintro W2 ⟨xA2, xK2, xI2⟩
  have A2 := hidT xA2
  have K2 := hidT xK2
  have I2 := hidT xI2
  clear xA2 xK2 xI2
  have a23 := bl_cell A2.out 23 (.int .u8 (c.op : Int)) rfl
  go_wp2_with (refine wpList_load_cv rfl rfl (Cv.s2 c) A2.out (by rfl) ?_; simp only [Act.put, List.setIfInBounds_toArray, List.set_cons_zero, List.set_cons_succ])
  refine (clean_tail c (Cv.s2 c) R P E ⟨zR_ok, zR_ok, hO.r, hO.p, hO.op, (by show (0 : Nat) ≤ 1000000; omega), hO.y, hO.z⟩ ((lean_s2 c R P (.inr (.inl HN.out))).trans HE.out) _ I2.out).mono ?_
  rintro e W3 ⟨rfl, k1⟩
  have K3 := hid (K2.out.trans k1)
  clear k1
  go_wp2_with fail
  go_ret
  exact ⟨rfl, K3.out⟩
 by_cases h4 : n = 4
 ·
  subst h4
  as_aux_lemma =>
  go_upto_region 12 with ((refine wpList_store_cell (v := .string ⟨#[]⟩) rfl rfl rfl rfl A1.out (by (repeat first | rw [putL_size] | rw [Array.size_setIfInBounds]); exact Nat.le_of_ble_eq_true rfl) rfl rfl (by kernel_rfl) ?_); intro Wa x1 x2; have Waa := hid x1; have Wak := hid x2; clear x1 x2; simp only [Act.put])
  refine opq (fun W2 => W2.heap[w.heap.size]? = some (Cv.o (Cv.s2 c)) ∧ Kp w W2 ∧ CIs W2 (Cv.s2 c) zR zR R P) ⟨by have := Waa.out; rw [sets_b c] at this; exact this, by exact (Wak.out.up K1.out (Nat.le_refl _)), by exact ⟨zR_is _, zR_is _, (HC.out.kp (Wak.out.up K1.out (Nat.le_refl _))).r, (HC.out.kp (Wak.out.up K1.out (Nat.le_refl _))).p⟩⟩ ?_
  rintro W2 ⟨xA2, xK2, xI2⟩
  have A2 := hidT xA2
  have K2 := hidT xK2
  have I2 := hidT xI2
  clear xA2 xK2 xI2
  have a23 := bl_cell A2.out 23 (.int .u8 (c.op : Int)) rfl
  go_wp2_with (refine wpList_load_cv rfl rfl (Cv.s2 c) A2.out (by rfl) ?_; simp only [Act.put, List.setIfInBounds_toArray, List.set_cons_zero, List.set_cons_succ])
  refine (clean_tail c (Cv.s2 c) R P E ⟨zR_ok, zR_ok, hO.r, hO.p, hO.op, (by show (0 : Nat) ≤ 1000000; omega), hO.y, hO.z⟩ ((lean_s2 c R P (.inr (.inr HN.out))).trans HE.out) _ I2.out).mono ?_
  rintro e W3 ⟨rfl, k1⟩
  have K3 := hid (K2.out.trans k1)
  clear k1
  go_wp2_with fail
  go_ret
  exact ⟨rfl, K3.out⟩
 by_cases h5 : n = 5
 ·
  subst h5
  as_aux_lemma =>
  go_upto_region 9 with ((refine wpList_store_blk rfl rfl rfl z9 rfl A1.out (by (repeat first | rw [putL_size] | rw [Array.size_setIfInBounds]); exact Nat.le_of_ble_eq_true rfl) (by kernel_rfl) rfl ?_); intro Wa x1 x2; have Waa := hid x1; have Wak := hid x2; clear x1 x2; simp only [Act.put]; go_step; go_step; go_step; (refine wpList_store_cell (v := .slice none 0 0) rfl rfl rfl rfl Waa.out (by (repeat first | rw [putL_size] | rw [Array.size_setIfInBounds]); exact Nat.le_of_ble_eq_true rfl) rfl rfl (by kernel_rfl) ?_); intro Wb x1 x2; have Wba := hid x1; have Wbk := hid x2; clear x1 x2; simp only [Act.put]; go_step; go_step; go_step; (refine wpList_store_cell (v := .string ⟨#[]⟩) rfl rfl rfl rfl Wba.out (by (repeat first | rw [putL_size] | rw [Array.size_setIfInBounds]); exact Nat.le_of_ble_eq_true rfl) rfl rfl (by kernel_rfl) ?_); intro Wc x1 x2; have Wca := hid x1; have Wck := hid x2; clear x1 x2; simp only [Act.put])
  go_upto_region 12 with ((refine wpList_store_cell (v := .bool false) rfl rfl rfl rfl Wca.out (by (repeat first | rw [putL_size] | rw [Array.size_setIfInBounds]); exact Nat.le_of_ble_eq_true rfl) rfl rfl (by kernel_rfl) ?_); intro Wd x1 x2; have Wda := hid x1; have Wdk := hid x2; clear x1 x2; simp only [Act.put]; go_step; go_step; go_step; (refine wpList_store_cell (v := .bool false) rfl rfl rfl rfl Wda.out (by (repeat first | rw [putL_size] | rw [Array.size_setIfInBounds]); exact Nat.le_of_ble_eq_true rfl) rfl rfl (by kernel_rfl) ?_); intro We x1 x2; have Wea := hid x1; have Wek := hid x2; clear x1 x2; simp only [Act.put]; go_step; go_step; go_step; (refine wpList_store_cell (v := .int .i64 0) rfl rfl rfl rfl Wea.out (by (repeat first | rw [putL_size] | rw [Array.size_setIfInBounds]); exact Nat.le_of_ble_eq_true rfl) rfl rfl (by kernel_rfl) ?_); intro Wf x1 x2; have Wfa := hid x1; have Wfk := hid x2; clear x1 x2; simp only [Act.put])
  refine opq (fun W2 => W2.heap[w.heap.size]? = some (Cv.o (Cv.s5 c)) ∧ Kp w W2 ∧ CIs W2 (Cv.s5 c) zR zR zR []) ⟨by have := Wfa.out; rw [sets_c c] at this; exact this, by exact ((((((Wak.out.trans Wbk.out).trans Wck.out).trans Wdk.out).trans Wek.out).trans Wfk.out).up K1.out (Nat.le_refl _)), by exact ⟨zR_is _, zR_is _, zR_is _, PcAt.nil _⟩⟩ ?_
  rintro W2 ⟨xA2, xK2, xI2⟩
  have A2 := hidT xA2
  have K2 := hidT xK2
  have I2 := hidT xI2
  clear xA2 xK2 xI2
  have a23 := bl_cell A2.out 23 (.int .u8 (c.op : Int)) rfl
  go_wp2_with (refine wpList_load_cv rfl rfl (Cv.s5 c) A2.out (by rfl) ?_; simp only [Act.put, List.setIfInBounds_toArray, List.set_cons_zero, List.set_cons_succ])
  refine (clean_tail c (Cv.s5 c) zR [] E ⟨zR_ok, zR_ok, zR_ok, (by simp), hO.op, (by show (0 : Nat) ≤ 1000000; omega), hO.y, hO.z⟩ ((lean_s5 c R P HN.out).trans HE.out) _ I2.out).mono ?_
  rintro e W3 ⟨rfl, k1⟩
  have K3 := hid (K2.out.trans k1)
  clear k1
  go_wp2_with fail
  go_ret
  exact ⟨rfl, K3.out⟩
 by_cases h6 : n = 6
 ·
  subst h6
  as_aux_lemma =>
  go_upto_region 12 with ((refine wpList_store_cell (v := .string ⟨#[]⟩) rfl rfl rfl rfl A1.out (by (repeat first | rw [putL_size] | rw [Array.size_setIfInBounds]); exact Nat.le_of_ble_eq_true rfl) rfl rfl (by kernel_rfl) ?_); intro Wa x1 x2; have Waa := hid x1; have Wak := hid x2; clear x1 x2; simp only [Act.put]; go_step; go_step; go_step; (refine wpList_store_cell (v := .string ⟨#[]⟩) rfl rfl rfl rfl Waa.out (by (repeat first | rw [putL_size] | rw [Array.size_setIfInBounds]); exact Nat.le_of_ble_eq_true rfl) rfl rfl (by kernel_rfl) ?_); intro Wb x1 x2; have Wba := hid x1; have Wbk := hid x2; clear x1 x2; simp only [Act.put])
  refine opq (fun W2 => W2.heap[w.heap.size]? = some (Cv.o (Cv.s6 c)) ∧ Kp w W2 ∧ CIs W2 (Cv.s6 c) zR zR R P) ⟨by have := Wba.out; rw [sets_d c] at this; exact this, by exact ((Wak.out.trans Wbk.out).up K1.out (Nat.le_refl _)), by exact ⟨zR_is _, zR_is _, (HC.out.kp ((Wak.out.trans Wbk.out).up K1.out (Nat.le_refl _))).r, (HC.out.kp ((Wak.out.trans Wbk.out).up K1.out (Nat.le_refl _))).p⟩⟩ ?_
  rintro W2 ⟨xA2, xK2, xI2⟩
  have A2 := hidT xA2
  have K2 := hidT xK2
  have I2 := hidT xI2
  clear xA2 xK2 xI2
  have a23 := bl_cell A2.out 23 (.int .u8 (c.op : Int)) rfl
  go_wp2_with (refine wpList_load_cv rfl rfl (Cv.s6 c) A2.out (by rfl) ?_; simp only [Act.put, List.setIfInBounds_toArray, List.set_cons_zero, List.set_cons_succ])
  refine (clean_tail c (Cv.s6 c) R P E ⟨zR_ok, zR_ok, hO.r, hO.p, hO.op, hO.tx, (by show (0 : Nat) ≤ 1000000; omega), (by show (0 : Nat) ≤ 1000000; omega)⟩ ((lean_s6 c R P HN.out).trans HE.out) _ I2.out).mono ?_
  rintro e W3 ⟨rfl, k1⟩
  have K3 := hid (K2.out.trans k1)
  clear k1
  go_wp2_with fail
  go_ret
  exact ⟨rfl, K3.out⟩
 omega
theorem print_len (ere : Bool) (T : Rx) (hO : RxOk T) : (bs (printT ere T)).size ≤ 84000 := by
 rw [bs_size]
 unfold printT
 split
 ·
  rename_i h
  exact (Trip.right_fit ere T hO h).2
 ·
  simp
theorem asked_any (c : Cv) (A B R : Rx) (P : List Pc) (ere : Bool) (hO : COk c A B R P) (w : World) (hc : CIs w c A B R P) : Calls Tryz.prog 56 #[c.v, .bool ere] w fun e w' => e = .returned (.bool (askedR c R P ere)) ∧ Kp w w' := by
 obtain ⟨E, hE⟩ : ∃ E, askedR c R P ere = E := ⟨_, rfl⟩
 rw [hE]
 obtain ⟨n, hn⟩ : ∃ n, kindN c.op = n := ⟨_, rfl⟩
 unfold askedR at hE
 rw [hn] at hE
 have C1 : Hid (∀ w, Calls Tryz.prog 95 #[.int .u8 (c.op : Int)] w fun e w' => e = .returned (.int .i64 (n : Int)) ∧ w' = w) := fun w => by rw [← hn]; exact kind_any c.op w
 have HE := hid hE
 have HC := hid hc
 have hnn : n ≤ 6 := by
  rw [← hn]
  unfold kindN
  repeat' split
  all_goals omega
 clear hE hn hc
 go_enter Tryz.func56, Tryz.ntmps56
 go_upto_region 1 with fail
 refine opq (fun W0 => W0.heap[w.heap.size]? = some c.o ∧ Kp w W0 ∧ CIs W0 c A B R P) ⟨by (first | exact last_at _ _ _ (by simp) | (refine bl_alloc ?_ _; first | exact last_at _ _ _ (by simp) | (refine bl_alloc ?_ _; first | exact last_at _ _ _ (by simp) | (refine bl_alloc ?_ _; exact last_at _ _ _ (by simp))))), by exact kpt, by exact HC.out.kp kpt⟩ ?_
 rintro W0 ⟨xA0, xK0, xI0⟩
 have A0 := hidT xA0
 have K0 := hidT xK0
 have I0 := hidT xI0
 clear xA0 xK0 xI0
 clear HC
 have a23 := bl_cell A0.out 23 (.int .u8 (c.op : Int)) rfl
 go_wp2_with fail
 refine (C1.out _).mono ?_
 rintro e w' ⟨rfl, rfl⟩
 clear a23
 by_cases h1 : n = 1
 ·
  subst h1
  have E2 : Hid (E = true) := HE.out.symm
  go_wp2_with fail
  go_ret
  exact ⟨by rw [E2.out]; rfl, K0.out⟩
 by_cases h2 : n = 2
 ·
  subst h2
  have a24 := bl_cell A0.out 24 (.string c.tx) rfl
  have E2 : Hid (E = decide ((c.tx.size : Int) ≤ 400)) := by show _ = _; rw [← HE.out]; exact decide_eq_decide.2 (by omega)
  go_wp2_with fail
  go_ret
  exact ⟨by rw [E2.out]; rfl, K0.out⟩
 by_cases h3 : n = 3
 ·
  subst h3
  as_aux_lemma =>
  obtain ⟨q, hq⟩ : ∃ q, labO c.tx = q := ⟨_, rfl⟩
  have CQ := hid (fun w => labelOrNone_any c.tx w hO.tx)
  have E2 : Hid (E = q) := by show _ = _; rw [← HE.out, ← hq]; rfl
  rw [hq] at CQ
  clear hq HE
  have a24 := bl_cell A0.out 24 (.string c.tx) rfl
  go_wp2_with fail
  clear a24
  refine (CQ.out _ ).mono ?_
  rintro e W1 ⟨rfl, k1⟩
  have K1 := hid (K0.out.trans k1)
  clear k1
  go_wp2_with fail
  go_ret
  exact ⟨by rw [E2.out]; rfl, K1.out⟩
 by_cases h4 : n = 4
 ·
  subst h4
  as_aux_lemma =>
  obtain ⟨q, hq⟩ : ∃ q, labB c.tx = q := ⟨_, rfl⟩
  have CQ := hid (fun w => label_any c.tx w hO.tx)
  have E2 : Hid (E = q) := by show _ = _; rw [← HE.out, ← hq]; rfl
  rw [hq] at CQ
  clear hq HE
  have a24 := bl_cell A0.out 24 (.string c.tx) rfl
  go_wp2_with fail
  clear a24
  refine (CQ.out _ ).mono ?_
  rintro e W1 ⟨rfl, k1⟩
  have K1 := hid (K0.out.trans k1)
  clear k1
  go_wp2_with fail
  go_ret
  exact ⟨by rw [E2.out]; rfl, K1.out⟩
 by_cases h5 : n = 5
 ·
  subst h5
  as_aux_lemma =>
  obtain ⟨q, hq⟩ : ∃ q, substR c R P ere = q := ⟨_, rfl⟩
  have CQ := hid (fun w => substRight_any c A B R P ere hO w)
  have E2 : Hid (E = q) := by show _ = _; rw [← HE.out, ← hq]; rfl
  rw [hq] at CQ
  clear hq HE
  go_wp2_with (refine wpList_load_cv rfl rfl c A0.out (by rfl) ?_; simp only [Act.put, List.setIfInBounds_toArray, List.set_cons_zero, List.set_cons_succ])
  skip
  refine (CQ.out _ I0.out).mono ?_
  rintro e W1 ⟨rfl, k1⟩
  have K1 := hid (K0.out.trans k1)
  clear k1
  go_wp2_with fail
  go_ret
  exact ⟨by rw [E2.out]; rfl, K1.out⟩
 by_cases h6 : n = 6
 ·
  subst h6
  as_aux_lemma =>
  obtain ⟨q, hq⟩ : ∃ q, tabR c.y c.z = q := ⟨_, rfl⟩
  have CQ := hid (fun w => tableRight_any c.y c.z w hO.y hO.z)
  have E2 : Hid (E = q) := by show _ = _; rw [← HE.out, ← hq]; rfl
  rw [hq] at CQ
  clear hq HE
  have a38 := bl_cell A0.out 38 (.string c.y) rfl
  have a39 := bl_cell A0.out 39 (.string c.z) rfl
  go_wp2_with fail
  clear a38 a39
  refine (CQ.out _ ).mono ?_
  rintro e W1 ⟨rfl, k1⟩
  have K1 := hid (K0.out.trans k1)
  clear k1
  go_wp2_with fail
  go_ret
  exact ⟨by rw [E2.out]; rfl, K1.out⟩
 have h0 : n = 0 := by omega
 subst h0
 have E2 : Hid (E = false) := HE.out.symm
 go_wp2_with fail
 go_ret
 exact ⟨by rw [E2.out]; rfl, K0.out⟩
theorem bs_nil (s : ByteArray) : s ++ bs [] = s := by
 have := bs_app s.data.toList []
 simpa [bs] using this
theorem adT_len (k ln : Int) (A : Rx) (ere : Bool) (hO : RxOk A) : (adT k ln A ere).length ≤ 100000 := by
 unfold adT
 split
 ·
  rename_i h
  split
  ·
   rename_i hk
   subst hk
   unfold adR at h
   simp at h
   have := dec_len4 ln.toNat (by omega)
   omega
  ·
   split
   ·
    simp
   ·
    split
    ·
     have := print_len ere A hO
     rw [bs_size] at this
     simp; omega
    ·
     simp
 ·
  simp
theorem place_any (c : Cv) (A B R : Rx) (P : List Pc) (ere : Bool) (hO : COk c A B R P) (w : World) (hc : CIs w c A B R P) (hT : Tb w) : Calls Tryz.prog 52 #[c.v, .bool ere] w fun e w' => e = .returned (.string (bs (placeT c A B ere))) ∧ Kp w w' := by
 obtain ⟨X, hX⟩ : ∃ X, bs (adT c.a.k c.a.ln A ere) = X := ⟨_, rfl⟩
 obtain ⟨Y, hY⟩ : ∃ Y, bs (adT c.b.k c.b.ln B ere) = Y := ⟨_, rfl⟩
 obtain ⟨E, hE⟩ : ∃ E, bs (placeT c A B ere) = E := ⟨_, rfl⟩
 rw [hE]
 have hzx : X.size ≤ 100000 := by rw [← hX, bs_size]; exact adT_len _ _ _ _ hO.a
 have hzy : Y.size ≤ 100000 := by rw [← hY, bs_size]; exact adT_len _ _ _ _ hO.b
 have C1 : Hid (∀ w, c.a.r.is w A → Tb w → Calls Tryz.prog 31 #[c.a.v, .bool ere] w fun e w' => e = .returned (.string X) ∧ Kp w w') := fun w h t => by rw [← hX]; exact addr_any c.a A ere hO.a w h t
 have C2 : Hid (∀ w, c.b.r.is w B → Tb w → Calls Tryz.prog 31 #[c.b.v, .bool ere] w fun e w' => e = .returned (.string Y) ∧ Kp w w') := fun w h t => by rw [← hY]; exact addr_any c.b B ere hO.b w h t
 obtain ⟨y, hy⟩ : ∃ x, decide (c.b.k = 0) = x := ⟨_, rfl⟩
 obtain ⟨z, hz⟩ : ∃ z, c.nt = z := ⟨_, rfl⟩
 have HE : Hid (E = X ++ (if y then bs [] else bs [44] ++ Y) ++ (if z then bs [33] else bs [])) := by
  show _ = _
  rw [← hE, ← hX, ← hY, ← hz]
  unfold placeT
  rw [← bs_app, ← bs_app]
  by_cases h : c.b.k = 0
  ·
   obtain rfl : true = y := by rw [← hy, decide_eq_true h]
   rw [if_pos h]
   cases c.nt <;> rfl
  ·
   obtain rfl : false = y := by rw [← hy, decide_eq_false h]
   rw [if_neg h, ← bs_app]
   cases c.nt <;> rfl
 have gy : Hid ((c.b.k != 0) = !y) := by show _ = _; rw [← hy]; by_cases h : c.b.k = 0 <;> simp [h]
 have gz := hid hz
 have HC := hid hc
 have HT := hid hT
 clear hX hY hE hy hz hc hT
 have n0 : (bs []).size = 0 := rfl
 have n1 : (bs [44]).size = 1 := rfl
 have n2 : (bs [33]).size = 1 := rfl
 go_enter Tryz.func52, Tryz.ntmps52
 go_upto_region 1 with fail
 refine opq (fun W0 => W0.heap[w.heap.size]? = some c.o ∧ Kp w W0 ∧ CIs W0 c A B R P) ⟨by (first | exact last_at _ _ _ (by simp) | (refine bl_alloc ?_ _; first | exact last_at _ _ _ (by simp) | (refine bl_alloc ?_ _; first | exact last_at _ _ _ (by simp) | (refine bl_alloc ?_ _; exact last_at _ _ _ (by simp))))), by exact kpt, by exact HC.out.kp kpt⟩ ?_
 rintro W0 ⟨xA0, xK0, xI0⟩
 have A0 := hidT xA0
 have K0 := hidT xK0
 have I0 := hidT xI0
 clear xA0 xK0 xI0
 have T0 := hid (HT.out.kp K0.out)
 clear HC HT
 have a0 := bl_cell A0.out 0 (.int .i64 c.a.k) rfl
 have a1 := bl_cell A0.out 1 (.int .i64 c.a.ln) rfl
 have a2 := bl_cell A0.out 2 (.int .i64 c.a.r.k) rfl
 have a3 := bl_cell A0.out 3 (.int .i64 c.a.r.mn) rfl
 have a4 := bl_cell A0.out 4 (.int .i64 c.a.r.mx) rfl
 have a5 := bl_cell A0.out 5 (.int .i64 c.a.r.m) rfl
 have a6 := bl_cell A0.out 6 (.int .u64 (c.a.r.t.a : Int)) rfl
 have a7 := bl_cell A0.out 7 (.int .u64 (c.a.r.t.b : Int)) rfl
 have a8 := bl_cell A0.out 8 (.int .u64 (c.a.r.t.c : Int)) rfl
 have a9 := bl_cell A0.out 9 (.int .u64 (c.a.r.t.d : Int)) rfl
 have a10 := bl_cell A0.out 10 (.slice c.a.r.ad c.a.r.l c.a.r.c) rfl
 go_wp2_with fail
 clear a0 a1 a2 a3 a4 a5 a6 a7 a8 a9 a10
 refine (C1.out _ I0.out.a T0.out).mono ?_
 rintro e W1 ⟨rfl, k1⟩
 have A1 := hid (bl_kp A0.out k1)
 have I1 := hid (I0.out.kp k1)
 have T1 := hid (T0.out.kp k1)
 have K1 := hid (K0.out.trans k1)
 clear k1
 have hy := gy.out
 have a11 := bl_cell A1.out 11 (.int .i64 c.b.k) rfl
 cases y
 ·
  have a12 := bl_cell A1.out 12 (.int .i64 c.b.ln) rfl
  have a13 := bl_cell A1.out 13 (.int .i64 c.b.r.k) rfl
  have a14 := bl_cell A1.out 14 (.int .i64 c.b.r.mn) rfl
  have a15 := bl_cell A1.out 15 (.int .i64 c.b.r.mx) rfl
  have a16 := bl_cell A1.out 16 (.int .i64 c.b.r.m) rfl
  have a17 := bl_cell A1.out 17 (.int .u64 (c.b.r.t.a : Int)) rfl
  have a18 := bl_cell A1.out 18 (.int .u64 (c.b.r.t.b : Int)) rfl
  have a19 := bl_cell A1.out 19 (.int .u64 (c.b.r.t.c : Int)) rfl
  have a20 := bl_cell A1.out 20 (.int .u64 (c.b.r.t.d : Int)) rfl
  have a21 := bl_cell A1.out 21 (.slice c.b.r.ad c.b.r.l c.b.r.c) rfl
  go_wp2_with fail
  clear a11 a12 a13 a14 a15 a16 a17 a18 a19 a20 a21
  refine (C2.out _ I1.out.b T1.out).mono ?_
  rintro e W2 ⟨rfl, k1⟩
  have A2 := hid (bl_kp A1.out k1)
  have K2 := hid (K1.out.trans k1)
  clear k1
  have a22 := bl_cell A2.out 22 (.bool c.nt) rfl
  have hz := gz.out
  rw [hz] at a22
  cases z
  ·
   have E2 : Hid (E = X ++ (bs [44] ++ Y)) := by show _ = _; rw [HE.out]; simp [bs_nil]
   clear HE
   go_wp2_with fail
   go_ret
   exact ⟨by rw [E2.out]; rfl, K2.out⟩
  ·
   have E2 : Hid (E = X ++ (bs [44] ++ Y) ++ bs [33]) := by show _ = _; rw [HE.out]; simp
   clear HE
   go_wp2_with fail
   go_ret
   exact ⟨by rw [E2.out]; rfl, K2.out⟩
 ·
  have a22 := bl_cell A1.out 22 (.bool c.nt) rfl
  have hz := gz.out
  rw [hz] at a22
  cases z
  ·
   have E2 : Hid (E = X) := by show _ = _; rw [HE.out]; simp [bs_nil]
   clear HE
   go_wp2_with fail
   go_ret
   exact ⟨by rw [E2.out]; rfl, K1.out⟩
  ·
   have E2 : Hid (E = X ++ bs [33]) := by show _ = _; rw [HE.out]; simp [bs_nil]
   clear HE
   go_wp2_with fail
   go_ret
   exact ⟨by rw [E2.out]; rfl, K1.out⟩
theorem e_str0 (s : ByteArray) : (s.data.toList == ([] : List UInt8)) = decide (s.size = 0) := by
 rw [← str_nil, ByteArray.toList_eq]
 cases s.data.toList <;> rfl
theorem flags_any (c : Cv) (A B R : Rx) (P : List Pc) (hO : COk c A B R P) (hn0 : 0 ≤ c.nth) (hn9 : c.nth ≤ 99) (w : World) (hc : CIs w c A B R P) : Calls Tryz.prog 99 #[c.v] w fun e w' => e = .returned (.string (bs (flagsT c))) ∧ Kp w w' := by
 obtain ⟨E, hE⟩ : ∃ E, bs (flagsT c) = E := ⟨_, rfl⟩
 rw [hE]
 obtain ⟨m, hm⟩ : ∃ m : Nat, c.nth = m := ⟨c.nth.toNat, by omega⟩
 obtain ⟨g, hg⟩ : ∃ z, c.g = z := ⟨_, rfl⟩
 obtain ⟨s, hs⟩ : ∃ z, c.s = z := ⟨_, rfl⟩
 obtain ⟨X, hX⟩ : ∃ X, bs (if g then [103] else []) = X := ⟨_, rfl⟩
 obtain ⟨D, hD⟩ : ∃ X, bs (dec m) = X := ⟨_, rfl⟩
 obtain ⟨N, hN⟩ : ∃ X, bs (nameT c.tx.data.toList) = X := ⟨_, rfl⟩
 obtain ⟨z, hz⟩ : ∃ z, decide (c.tx.size = 0) = z := ⟨_, rfl⟩
 have hm9 : m ≤ 99 := by omega
 have hzd : D.size ≤ 2 := by rw [← hD, bs_size]; exact dec_len m (by omega)
 have hzn : N.size ≤ 1000001 := by
  rw [← hN, bs_size]
  unfold nameT
  have := hO.tx
  have e : c.tx.data.toList.length = c.tx.size := Array.length_toList
  split <;> simp <;> omega
 have HE : Hid (E = (if g then bs [103] else bs []) ++ (if s then bs [112] else bs []) ++ (if m = 0 then bs [] else D) ++ (if z then bs [] else bs [119] ++ N)) := by
  show _ = _
  rw [← hE, ← hD, ← hN]
  unfold flagsT
  rw [← bs_app, ← bs_app, ← bs_app, hg, hs, hm, Int.toNat_natCast]
  have e1 : (c.tx.data.toList = []) ↔ z = true := by rw [← hz, ← beq_iff_eq, e_str0]
  congr 1
  ·
   congr 1
   ·
    cases g <;> cases s <;> rfl
   ·
    by_cases h : m = 0
    ·
     subst h; rfl
    ·
     rw [if_neg h, if_neg (by omega)]
  ·
   cases z
   ·
    rw [if_neg (fun h => by simp [e1] at h), ← bs_app]; rfl
   ·
    rw [if_pos (e1.2 rfl)]; rfl
 have ID : Hid (∀ w, Calls Tryz.prog 76 #[.int .i64 (m : Int)] w fun e w' => e = .returned (.string D) ∧ w' = w) := fun w => by rw [← hD]; exact itoa_any m (by omega) w
 have NM : Hid (∀ w, Calls Tryz.prog 97 #[.string c.tx] w fun e w' => e = .returned (.string N) ∧ w' = w) := fun w => by rw [← hN]; exact nameText_any c.tx w hO.tx
 have en : c.tx.toList.isEmpty = z := (str_nil _).trans hz
 have HC := hid hc
 have b0 : (bs []).size = 0 := rfl
 have b1 : (bs [103]).size = 1 := rfl
 have b2 : (bs [112]).size = 1 := rfl
 have b3 : (bs [119]).size = 1 := rfl
 clear hE hX hD hN hz hc
 go_enter Tryz.func99, Tryz.ntmps99
 go_upto_region 1 with fail
 refine opq (fun W0 => W0.heap[w.heap.size]? = some c.o ∧ Kp w W0 ∧ CIs W0 c A B R P) ⟨by (first | exact last_at _ _ _ (by simp) | (refine bl_alloc ?_ _; first | exact last_at _ _ _ (by simp) | (refine bl_alloc ?_ _; first | exact last_at _ _ _ (by simp) | (refine bl_alloc ?_ _; exact last_at _ _ _ (by simp))))), by exact kpt, by exact HC.out.kp kpt⟩ ?_
 rintro W0 ⟨xA0, xK0, xI0⟩
 have A0 := hidT xA0
 have K0 := hidT xK0
 have I0 := hidT xI0
 clear xA0 xK0 xI0
 clear HC
 have a24 := bl_cell A0.out 24 (.string c.tx) rfl
 have a35 := bl_cell A0.out 35 (.bool c.g) rfl
 have a36 := bl_cell A0.out 36 (.bool c.s) rfl
 have a37 := bl_cell A0.out 37 (.int .i64 c.nth) rfl
 rw [hg] at a35
 rw [hs] at a36
 rw [hm] at a37
 clear hm hg hs hn0 hn9
 obtain ⟨V, hV⟩ : ∃ V, (if g then bs [103] else bs []) ++ (if s then bs [112] else bs []) = V := ⟨_, rfl⟩
 rw [hV] at HE
 have HV := hid hV
 have hv2 : V.size ≤ 2 := by rw [← hV]; cases g <;> cases s <;> decide
 clear hV
 cases g <;> cases s
 ·
  obtain rfl : bs [] = V := HV.out.symm ▸ rfl
  by_cases h0 : m = 0
  ·
   subst h0
   cases z
   ·
    have E2 : Hid (E = bs [] ++ (bs [119] ++ N)) := by show _ = _; rw [HE.out]; simp [bs_nil]
    go_wp2_with fail
    refine (NM.out _).mono ?_
    rintro e w' ⟨rfl, rfl⟩
    go_wp2_with fail
    go_ret
    exact ⟨by rw [E2.out]; rfl, K0.out⟩
   ·
    have E2 : Hid (E = bs []) := by show _ = _; rw [HE.out]; simp [bs_nil]
    go_wp2_with fail
    go_ret
    exact ⟨by rw [E2.out]; rfl, K0.out⟩
  ·
   have gm : ((m : Int) != 0) = true := by simp; omega
   cases z
   ·
    have E2 : Hid (E = bs [] ++ D ++ (bs [119] ++ N)) := by show _ = _; rw [HE.out]; simp [h0]
    go_wp2_with fail
    refine (ID.out _).mono ?_
    rintro e w' ⟨rfl, rfl⟩
    go_wp2_with fail
    refine (NM.out _).mono ?_
    rintro e w' ⟨rfl, rfl⟩
    go_wp2_with fail
    go_ret
    exact ⟨by rw [E2.out]; rfl, K0.out⟩
   ·
    have E2 : Hid (E = bs [] ++ D) := by show _ = _; rw [HE.out]; simp [bs_nil, h0]
    go_wp2_with fail
    refine (ID.out _).mono ?_
    rintro e w' ⟨rfl, rfl⟩
    go_wp2_with fail
    go_ret
    exact ⟨by rw [E2.out]; rfl, K0.out⟩
 ·
  obtain rfl : bs [112] = V := HV.out.symm ▸ rfl
  by_cases h0 : m = 0
  ·
   subst h0
   cases z
   ·
    have E2 : Hid (E = bs [112] ++ (bs [119] ++ N)) := by show _ = _; rw [HE.out]; simp [bs_nil]
    go_wp2_with fail
    refine (NM.out _).mono ?_
    rintro e w' ⟨rfl, rfl⟩
    go_wp2_with fail
    go_ret
    exact ⟨by rw [E2.out]; rfl, K0.out⟩
   ·
    have E2 : Hid (E = bs [112]) := by show _ = _; rw [HE.out]; simp [bs_nil]
    go_wp2_with fail
    go_ret
    exact ⟨by rw [E2.out]; rfl, K0.out⟩
  ·
   have gm : ((m : Int) != 0) = true := by simp; omega
   cases z
   ·
    have E2 : Hid (E = bs [112] ++ D ++ (bs [119] ++ N)) := by show _ = _; rw [HE.out]; simp [h0]
    go_wp2_with fail
    refine (ID.out _).mono ?_
    rintro e w' ⟨rfl, rfl⟩
    go_wp2_with fail
    refine (NM.out _).mono ?_
    rintro e w' ⟨rfl, rfl⟩
    go_wp2_with fail
    go_ret
    exact ⟨by rw [E2.out]; rfl, K0.out⟩
   ·
    have E2 : Hid (E = bs [112] ++ D) := by show _ = _; rw [HE.out]; simp [bs_nil, h0]
    go_wp2_with fail
    refine (ID.out _).mono ?_
    rintro e w' ⟨rfl, rfl⟩
    go_wp2_with fail
    go_ret
    exact ⟨by rw [E2.out]; rfl, K0.out⟩
 ·
  obtain rfl : bs [103] = V := HV.out.symm ▸ rfl
  by_cases h0 : m = 0
  ·
   subst h0
   cases z
   ·
    have E2 : Hid (E = bs [103] ++ (bs [119] ++ N)) := by show _ = _; rw [HE.out]; simp [bs_nil]
    go_wp2_with fail
    refine (NM.out _).mono ?_
    rintro e w' ⟨rfl, rfl⟩
    go_wp2_with fail
    go_ret
    exact ⟨by rw [E2.out]; rfl, K0.out⟩
   ·
    have E2 : Hid (E = bs [103]) := by show _ = _; rw [HE.out]; simp [bs_nil]
    go_wp2_with fail
    go_ret
    exact ⟨by rw [E2.out]; rfl, K0.out⟩
  ·
   have gm : ((m : Int) != 0) = true := by simp; omega
   cases z
   ·
    have E2 : Hid (E = bs [103] ++ D ++ (bs [119] ++ N)) := by show _ = _; rw [HE.out]; simp [h0]
    go_wp2_with fail
    refine (ID.out _).mono ?_
    rintro e w' ⟨rfl, rfl⟩
    go_wp2_with fail
    refine (NM.out _).mono ?_
    rintro e w' ⟨rfl, rfl⟩
    go_wp2_with fail
    go_ret
    exact ⟨by rw [E2.out]; rfl, K0.out⟩
   ·
    have E2 : Hid (E = bs [103] ++ D) := by show _ = _; rw [HE.out]; simp [bs_nil, h0]
    go_wp2_with fail
    refine (ID.out _).mono ?_
    rintro e w' ⟨rfl, rfl⟩
    go_wp2_with fail
    go_ret
    exact ⟨by rw [E2.out]; rfl, K0.out⟩
 ·
  obtain rfl : bs [103, 112] = V := HV.out.symm ▸ rfl
  by_cases h0 : m = 0
  ·
   subst h0
   cases z
   ·
    have E2 : Hid (E = bs [103, 112] ++ (bs [119] ++ N)) := by show _ = _; rw [HE.out]; simp [bs_nil]
    go_wp2_with fail
    refine (NM.out _).mono ?_
    rintro e w' ⟨rfl, rfl⟩
    go_wp2_with fail
    go_ret
    exact ⟨by rw [E2.out]; rfl, K0.out⟩
   ·
    have E2 : Hid (E = bs [103, 112]) := by show _ = _; rw [HE.out]; simp [bs_nil]
    go_wp2_with fail
    go_ret
    exact ⟨by rw [E2.out]; rfl, K0.out⟩
  ·
   have gm : ((m : Int) != 0) = true := by simp; omega
   cases z
   ·
    have E2 : Hid (E = bs [103, 112] ++ D ++ (bs [119] ++ N)) := by show _ = _; rw [HE.out]; simp [h0]
    go_wp2_with fail
    refine (ID.out _).mono ?_
    rintro e w' ⟨rfl, rfl⟩
    go_wp2_with fail
    refine (NM.out _).mono ?_
    rintro e w' ⟨rfl, rfl⟩
    go_wp2_with fail
    go_ret
    exact ⟨by rw [E2.out]; rfl, K0.out⟩
   ·
    have E2 : Hid (E = bs [103, 112] ++ D) := by show _ = _; rw [HE.out]; simp [bs_nil, h0]
    go_wp2_with fail
    refine (ID.out _).mono ?_
    rintro e w' ⟨rfl, rfl⟩
    go_wp2_with fail
    go_ret
    exact ⟨by rw [E2.out]; rfl, K0.out⟩
theorem writtenP_any (p : Pc) (w : World) (hs : p.s.size ≤ 1000000) : Calls Tryz.prog 138 #[.agg #[.int .i64 p.g, .string p.s]] w fun e w' => e = .returned (.string (bs (pcT p))) ∧ Kp w w' := by
 obtain ⟨g, s⟩ := p
 obtain ⟨S, hS⟩ : ∃ S, pcT ⟨g, s⟩ = S := ⟨_, rfl⟩
 rw [hS]
 have HS : Hid (pcT ⟨g, s⟩ = S) := hS
 have hs' : s.size ≤ 1000000 := hs
 clear hS hs
 show Calls Tryz.prog 138 #[.agg #[.int .i64 g, .string s]] w fun e w' => e = .returned (.string (bs S)) ∧ Kp w w'
 go_enter Tryz.func138, Tryz.ntmps138
 by_cases h1 : g = -1
 ·
  subst h1
  have E : Hid (S = quotT s.data.toList) := by show _ = _; rw [← HS.out]; rfl
  go_wp2_with fail
  refine (quoted2_any s _ hs').mono ?_
  rintro e w1 ⟨rfl, k1⟩
  have K1 : Hid (Kp w w1) := ((Kp.refl _).alloc _).trans k1
  clear k1
  go_wp2_with fail
  go_ret
  exact ⟨by rw [E.out]; rfl, K1.out⟩
 have n1 : (g == -1) = false := by simp [h1]
 by_cases h2 : g = 0
 ·
  subst h2
  have E : Hid (S = [38]) := by show _ = _; rw [← HS.out]; rfl
  go_wp2_with fail
  go_ret
  exact ⟨by rw [E.out]; rfl, (Kp.refl _).alloc _⟩
 have n2 : (g == 0) = false := by simp [h2]
 by_cases h3 : 0 < g
 ·
  obtain ⟨m, rfl⟩ : ∃ m : Nat, g = m := ⟨g.toNat, by omega⟩
  by_cases h9 : (m : Int) ≤ 9
  ·
   have E : Hid (bs S = bs [92] ++ bs (dec m)) := by
    show _ = _
    rw [← HS.out, bs_app]
    unfold pcT
    rw [if_neg h1, if_neg h2, if_pos ⟨h3, h9⟩]
    rfl
   rw [E.out]
   obtain ⟨X, hX⟩ : ∃ X, bs (dec m) = X := ⟨_, rfl⟩
   have hz : X.size ≤ 2 := by rw [← hX, bs_size]; exact dec_len m (by omega)
   have IT : Hid (∀ w, Calls Tryz.prog 76 #[.int .i64 (m : Int)] w fun e w' => e = .returned (.string X) ∧ w' = w) := fun w => by rw [← hX]; exact itoa_any m (by omega) w
   rw [hX]
   clear hX E
   go_wp2_with fail
   refine (IT.out _).mono ?_
   rintro e w1 ⟨rfl, rfl⟩
   go_wp2_with fail
   go_ret
   exact ⟨rfl, (Kp.refl _).alloc _⟩
  ·
   have E : Hid (S = []) := by
    show _ = _
    rw [← HS.out]
    unfold pcT
    rw [if_neg h1, if_neg h2, if_neg (fun h => h9 h.2)]
   go_wp2_with fail
   go_ret
   exact ⟨by rw [E.out]; rfl, (Kp.refl _).alloc _⟩
 ·
  have E : Hid (S = []) := by
   show _ = _
   rw [← HS.out]
   unfold pcT
   rw [if_neg h1, if_neg h2, if_neg (fun h => h3 h.1)]
  go_wp2_with fail
  go_ret
  exact ⟨by rw [E.out]; rfl, (Kp.refl _).alloc _⟩
theorem pcT_size (p : Pc) : (pcT p).length ≤ 2 * p.s.size + 3 := by
 unfold pcT
 split
 ·
  have := quotT_len p.s.data.toList
  have e : p.s.data.toList.length = p.s.size := Array.length_toList
  omega
 ·
  split
  ·
   simp
  ·
   split
   ·
    rename_i h3
    have := dec_len p.g.toNat (by omega)
    simp; omega
   ·
    simp
theorem tplT_more (P : List Pc) (q : Nat) (p : Pc) (h : P[q]? = some p) : Lib.byteCells (tplT (P.take (q + 1))) = Lib.byteCells (tplT (P.take q)) ++ Lib.strCells (bs (pcT p)) := by
 rw [List.take_add_one, h]
 simp [tplT, Lib.byteCells, Lib.strCells, bs]
structure PcFew (P : List Pc) : Prop where
 few : P.length ≤ 1000000
 all : ∀ p ∈ P, p.s.size ≤ 400
theorem tplP_any (P : List Pc) (ad : Option Addr) (l c : Nat) (w : World) (hP : PcAt w P ad l c) (hF : PcFew P) : Calls Tryz.prog 98 #[.slice ad l c] w fun e w' => e = .returned (.string (bs (tplT P))) ∧ Kp w w' := by
 obtain ⟨S, hS⟩ : ∃ S, tplT P = S := ⟨_, rfl⟩
 rw [hS]
 have HS := hid hS
 obtain ⟨L, hL⟩ : ∃ L, P.length = L := ⟨_, rfl⟩
 have hll := hP.ln
 have hcp := hP.cp
 have hfew := hF.few
 rw [hL] at hll hfew
 subst hll
 have HP := hid hP
 have HL := hid hL
 have HF := hid hF
 clear hP hL hS hF
 go_enter Tryz.func98, Tryz.ntmps98
 go_upto_region 2 with fail
 refine opq (fun W => Bd (w.heap.size + 1) w.heap.size [] W ∧ Kp w W ∧ w.heap.size + 1 ≤ W.heap.size) ⟨Bd.new _ w.heap.size _ (last_of _ _) rfl _, (Kp.refl _).alloc _, by simp⟩ ?_
 rintro W0 ⟨y1, y2, y3⟩
 have BD := hid y1
 have K0 := hid y2
 have HZ := hid y3
 clear y1 y2 y3
 go_wp2_with fail
 go_loopg [8] l (fun gg v wr => ∃ (q : Nat) (Lv : List Value), q + gg = l ∧ v = .int .i64 (q : Int) ∧ Lv = Lib.byteCells (tplT (P.take q)) ∧ Lv.length ≤ 803 * q ∧ Bd (w.heap.size + 1) w.heap.size Lv wr ∧ Kb (w.heap.size + 1) w.heap.size W0 wr)
 case atStart => exact ⟨0, [], by omega, rfl, by simp [tplT, Lib.byteCells], by simp, BD.out, Kb.refl _ _ _⟩
 case round =>
  obtain ⟨q, Lv, hq, rfl, hLv, hl, hB, hK⟩ := hrel
  have HLv := hid hLv
  have B := hid hB
  have K := hid hK
  have hzr : w.heap.size + 1 ≤ wr.heap.size := by have := K.out.size; have := HZ.out; omega
  clear hLv hB hK BD
  by_cases hlt : q < l
  ·
   have gkw : IntKind.i64.wrap ((q : Int) + 1) = (q : Int) + 1 := by rw [IntKind.wrap_i64]; omega
   have ga : (q : Int) < (l : Int) := by omega
   have g0 : (0 : Int) ≤ (q : Int) := by omega
   obtain ⟨p, hp⟩ : ∃ p, P[q]? = some p := ⟨_, List.getElem?_eq_getElem (by rw [HL.out]; exact hlt)⟩
   obtain ⟨bb, oo, e1, hbb, c1', c2'⟩ := HP.out.get q p hp
   subst e1
   have KW : Hid (Kp w wr) := Below.trans K0.out (K.out.below w.heap.size (by omega) (by omega))
   have c1 := (KW.out.cell (p := ⟨bb, oo + q * 2, none⟩) hbb).trans c1'
   have c2 := (KW.out.cell (p := ⟨bb, oo + q * 2 + 1, none⟩) hbb).trans c2'
   clear c1' c2'
   have hpf := HF.out.all p (List.mem_of_getElem? hp)
   have hpl := pcT_size p
   have ST := hid (tplT_more P q p hp)
   obtain ⟨X, hX⟩ : ∃ X, bs (pcT p) = X := ⟨_, rfl⟩
   have WR : Hid (∀ w, Calls Tryz.prog 138 #[.agg #[.int .i64 p.g, .string p.s]] w fun e w' => e = .returned (.string X) ∧ Kp w w') := fun w => by rw [← hX]; exact writtenP_any p w (by omega)
   have hxs : X.size ≤ 803 := by rw [← hX, bs_size]; omega
   rw [hX] at ST
   clear hX hp hpl
   obtain ⟨g, s⟩ := p
   have hzr' := hid hzr
   clear hzr
   go_upto_region 5 with fail
   clear c1 c2
   refine opq (fun W => W.heap[wr.heap.size]? = some (.cells #[.int .i64 g, .string s] 34) ∧ Kp wr W) ⟨by first | exact last_at _ _ _ (by simp) | exact bl_put (bl_put (last_at _ _ _ (by simp)) _) _, by repeat (first | exact Kp.refl _ | refine Kp.alloc ?_ _ | refine Kp.setCell ?_ ?_ _ | (simp; omega))⟩ ?_
   rintro W1 ⟨y1, y2⟩
   have A1 := hid y1
   have K1 := hid y2
   clear y1 y2
   have a0 := bl_cell A1.out 0 _ rfl
   have a1 := bl_cell A1.out 1 _ rfl
   go_wp2_with fail
   clear a0 a1
   refine (WR.out _).mono ?_
   rintro e W2 ⟨rfl, k2⟩
   have K2 := hid (K1.out.trans k2)
   have hz2 : Hid (w.heap.size + 1 ≤ W2.heap.size) := by have := K2.out.size; have := hzr'.out; show _ ≤ _; omega
   clear k2
   go_wp2_with fail
   refine (writeString_any (w.heap.size + 1) w.heap.size Lv X _ (B.out.kp K2.out) (by omega) hz2.out (by omega)).mono ?_
   rintro e W3 ⟨rfl, b1, k1⟩
   have B3 := hid b1
   have K3 := hid (K.out.trans ((K2.out.kb hzr'.out).trans k1))
   clear b1 k1
   go_wp2_with fail
   go_roundg (gk - 1)
   case measure => omega
   case rel => exact ⟨q + 1, Lv ++ Lib.strCells X, by omega, by go_num, by rw [ST.out, ← HLv.out], by simp only [List.length_append, Lib.strCells_length]; omega, B3.out, K3.out⟩
  ·
   have ga : ¬ (q : Int) < (l : Int) := by omega
   have hLe : Lv = Lib.byteCells S := by rw [HLv.out, List.take_of_length_le (by rw [HL.out]; omega), HS.out]
   subst hLe
   go_wp2_with fail
   refine (builderString_any (w.heap.size + 1) w.heap.size S _ w.heap.size B.out (by omega) (by omega) (by omega)).mono ?_
   rintro e y ⟨rfl, k1⟩
   have KY : Hid (Kp w y) := Below.trans (Below.trans K0.out (K.out.below w.heap.size (by omega) (by omega))) k1
   clear k1
   go_wp2_with fail
   go_ret
   exact ⟨rfl, KY.out⟩
end Go.Proofs.YtigdmebijbaofaaGreatDoor
