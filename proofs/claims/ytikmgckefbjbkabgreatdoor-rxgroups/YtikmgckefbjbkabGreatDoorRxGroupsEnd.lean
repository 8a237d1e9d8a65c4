/-
  Proved: the law RxGroups of glosslaw4 returns true for every two ints (P4.1, P4.3). The tied card, no condition.
-/
import Derived.Test.YtikmgckefbjbkabGreatDoorM5
import Derived.Deep.LoopGhost
import Derived.Test.YtikmgckefbjbkabGreatDoorRows
import Derived.Test.YtikmgckefbjbkabGreatDoorChecked
import Derived.HandedShaped
import Derived.Shelf.Vars
import Derived.LaidMore
import Derived.LaidHandle
import Derived.LaidLaws
import Derived.Stop.Joined
import Derived.ProofKit
import Derived.Test.YtikmgckefbjbkabGreatDoorTie
import Derived.Test.YtikmgckefbjbkabGreatDoorCards
import Derived.Below
import Derived.WalkKit
import Derived.OpenShut
import Derived.ShutString
import Derived.ChangeOld
import Derived.SevenTiedAt

/-! ### GroupsW -/

namespace Go.Proofs.YtikmgckefbjbkabGreatDoor
open Go.RowKit

/-- a, in so many groups; so many groups of b. -/
def gS : Nat → ByteArray
  | 0 => ⟨#[97]⟩
  | k + 1 => ⟨#[40]⟩ ++ gS k ++ ⟨#[41]⟩
def gT : Nat → ByteArray
  | 0 => ⟨#[]⟩
  | k + 1 => gT k ++ ⟨#[40, 98, 41]⟩
def gY (j : Nat) : ByteArray := ⟨#[40, 97, 41, 40, 98, 41, 92]⟩ ++ bs (dec j)
theorem gS_size : ∀ k, (gS k).size = 1 + 2 * k
  | 0 => rfl
  | k + 1 => by rw [gS, ByteArray.size_append, ByteArray.size_append, gS_size k]; show 1 + _ + 1 = _; omega
theorem gT_size : ∀ k, (gT k).size = 3 * k
  | 0 => rfl
  | k + 1 => by rw [gT, ByteArray.size_append, gT_size k]; show _ + 3 = _; omega
def gSB (k : Nat) : Bool := let x := pParse (gS k) true
  if k ≤ 3 then x.2.2 == 0 && grp x.1 == k && nds x.1 == k + 1 && rxOkB x.1 else x.2.2 == 4 || x.2.2 == 2
def gTB (k : Nat) : Bool := let x := pParse (gT k) true
  if k ≤ 3 then x.2.2 == 0 && grp x.1 == k && rxOkB x.1 else x.2.2 == 4
def gYB (k : Nat) : Bool := let x := pParse (gY k) true
  if k ≤ 2 then x.2.2 == 0 && x.1.kn == 3 else x.2.2 != 0
set_option maxRecDepth 1000000 in
theorem gS_all : ((List.range 10).all fun k => gSB k && (k == 0 || gTB k) && (k == 0 || gYB k)) = true := by decide +kernel
theorem gS_at (k : Nat) (h : k < 10) : gSB k = true ∧ (1 ≤ k → gTB k = true ∧ gYB k = true) := by
  have := List.all_eq_true.1 gS_all k (List.mem_range.2 h)
  simp only [Bool.and_eq_true, Bool.or_eq_true, beq_iff_eq] at this
  exact ⟨this.1.1, fun h1 => ⟨this.1.2.resolve_left (by omega), this.2.resolve_left (by omega)⟩⟩
theorem g4 : ∃ T n, pParse ⟨#[92, 49, 40, 97, 41]⟩ true = (T, n, 1) := ⟨(pParse ⟨#[92, 49, 40, 97, 41]⟩ true).1, (pParse ⟨#[92, 49, 40, 97, 41]⟩ true).2.1, by
  have h : (pParse ⟨#[92, 49, 40, 97, 41]⟩ true).2.2 = 1 := by decide +kernel
  rw [← h]⟩
theorem slim_of : ∀ r, RxOk r → Slim r
  | .mk k mn mx n s kids, h => by
    unfold RxOk at h
    unfold Slim
    exact ⟨h.1, fun a ha => slim_of a (h.2.2 a ha)⟩
termination_by r => SizeOf.sizeOf r
decreasing_by
  have := List.sizeOf_lt_of_mem ha
  simp
  omega
structure GS (k : Nat) (T : Rx) (e : Nat) : Prop where
  yes : k ≤ 3 → e = 0 ∧ grp T = k ∧ nds T = k + 1 ∧ RxOk T
  no : ¬ k ≤ 3 → e = 4 ∨ e = 2
structure GT (k : Nat) (T : Rx) (e : Nat) : Prop where
  yes : k ≤ 3 → e = 0 ∧ grp T = k ∧ RxOk T
  no : ¬ k ≤ 3 → e = 4
structure GY (k : Nat) (T : Rx) (e : Nat) : Prop where
  yes : k ≤ 2 → e = 0 ∧ T.kn = 3
  no : ¬ k ≤ 2 → e ≠ 0
theorem gS_of (k : Nat) (h : k < 10) (T : Rx) (n e : Nat) (hp : pParse (gS k) true = (T, n, e)) : GS k T e := by
  have q := (gS_at k h).1
  unfold gSB at q
  rw [hp] at q
  refine ⟨fun hk => ?_, fun hk => ?_⟩
  · rw [if_pos hk] at q
    simp only [Bool.and_eq_true, beq_iff_eq] at q
    exact ⟨q.1.1.1, q.1.1.2, q.1.2, rxOk_of _ q.2⟩
  · rw [if_neg hk] at q
    simpa using q
theorem gT_of (k : Nat) (h : k < 10) (h1 : 1 ≤ k) (T : Rx) (n e : Nat) (hp : pParse (gT k) true = (T, n, e)) : GT k T e := by
  have q := ((gS_at k h).2 h1).1
  unfold gTB at q
  rw [hp] at q
  refine ⟨fun hk => ?_, fun hk => ?_⟩
  · rw [if_pos hk] at q
    simp only [Bool.and_eq_true, beq_iff_eq] at q
    exact ⟨q.1.1, q.1.2, rxOk_of _ q.2⟩
  · rw [if_neg hk] at q
    simpa using q
theorem gY_of (k : Nat) (h : k < 10) (h1 : 1 ≤ k) (T : Rx) (n e : Nat) (hp : pParse (gY k) true = (T, n, e)) : GY k T e := by
  have q := ((gS_at k h).2 h1).2
  unfold gYB at q
  rw [hp] at q
  refine ⟨fun hk => ?_, fun hk => ?_⟩
  · rw [if_pos hk] at q
    simpa using q
  · rw [if_neg hk] at q
    simpa using q

set_option maxHeartbeats 2000000 in
set_option maxRecDepth 100000 in
theorem groups_any (n m : Int) (w : World) (h0 : ∃ m, w.cell? ⟨0, 0, none⟩ = some (.int .i64 m)) :
    Calls Tryz.prog 4 #[.int .i64 n, .int .i64 m] w fun e w' => e = .returned (.bool true) ∧ Kp w w' := by
  have Z0 := hid h0
  clear h0
  obtain ⟨k, hk, hk9⟩ : ∃ k : Nat, wit n 0 9 = (k : Int) ∧ k ≤ 9 := ⟨(wit n 0 9).toNat, by have := wit_le n 0 9 (by omega); omega, by have := wit_le n 0 9 (by omega); omega⟩
  obtain ⟨j, hj, hj9, hj1⟩ : ∃ j : Nat, wit m 1 9 = (j : Int) ∧ j ≤ 9 ∧ 1 ≤ j := ⟨(wit m 1 9).toNat, by have := wit_le m 1 9 (by omega); omega, by have := wit_le m 1 9 (by omega); omega, by have := wit_le m 1 9 (by omega); omega⟩
  have W1 := hid (fun w => within_any n 0 9 w (by omega) (by omega) (by omega))
  have W2 := hid (fun w => within_any m 1 9 w (by omega) (by omega) (by omega))
  rw [hk] at W1
  rw [hj] at W2
  clear hk hj
  go_enter Tryz.func4, Tryz.ntmps4
  go_wp2_with fail
  refine (W1.out _).mono ?_
  rintro e w ⟨rfl, rfl⟩
  go_wp2_with fail
  refine (W2.out _).mono ?_
  rintro e w ⟨rfl, rfl⟩
  go_wp2_with fail
  go_loopg [7, 26] 10 (fun gk v7 v26 wr => ∃ i : Nat, v7 = .string (gS i) ∧ v26 = .int .i64 (i : Int) ∧ i ≤ k ∧ k < gk + i ∧ Kp w wr)
  case atStart => exact ⟨0, rfl, rfl, by omega, by omega, Kp.refl _⟩
  case round =>
    obtain ⟨i, rfl, rfl, hi, hgi, ka⟩ := hrel
    have KA := hid ka
    clear ka
    by_cases hlt : i < k
    · have hli : (i : Int) < (k : Int) := by omega
      have hz := gS_size i
      have hz' : (gS i).size ≤ 30 := by omega
      clear hz
      have NX : Hid (gS (i + 1) = ⟨#[40]⟩ ++ gS i ++ ⟨#[41]⟩) := rfl
      obtain ⟨G, hG⟩ : ∃ G, gS i = G := ⟨_, rfl⟩
      rw [hG] at hz' NX ⊢
      clear hG
      have gi : IntKind.i64.wrap ((i : Int) + 1) = (i : Int) + 1 := by rw [IntKind.wrap_i64]; omega
      go_wp2_with fail
      go_roundg (gk - 1)
      case measure => omega
      case rel => exact ⟨i + 1, by rw [NX.out], by go_num, by omega, by omega, KA.out⟩
    · have hik : i = k := by omega
      subst hik
      clear hlt hgi hi
      have HGS := hid (fun T n e => gS_of i (by omega) T n e)
      have hz : (gS i).size ≤ 30 := by rw [gS_size]; omega
      obtain ⟨G, hG⟩ : ∃ G, gS i = G := ⟨_, rfl⟩
      rw [hG] at HGS hz ⊢
      clear hG
      go_wp2_with fail
      go_loopg [8, 33] 10 (fun gk v8 v33 wr => ∃ q : Nat, v8 = .string (gT q) ∧ v33 = .int .i64 (q : Int) ∧ q ≤ j ∧ j < gk + q ∧ Kp w wr)
      case atStart => exact ⟨0, rfl, rfl, by omega, by omega, KA.out⟩
      case round =>
        obtain ⟨q, rfl, rfl, hq, hgq, kb⟩ := hrel
        have K0 := hid kb
        clear kb KA
        by_cases hlt : q < j
        · have hli : (q : Int) < (j : Int) := by omega
          have hz' : (gT q).size ≤ 30 := by rw [gT_size]; omega
          have NX : Hid (gT (q + 1) = gT q ++ ⟨#[40, 98, 41]⟩) := rfl
          obtain ⟨H, hH⟩ : ∃ G, gT q = G := ⟨_, rfl⟩
          rw [hH] at hz' NX ⊢
          clear hH
          have gi : IntKind.i64.wrap ((q : Int) + 1) = (q : Int) + 1 := by rw [IntKind.wrap_i64]; omega
          go_wp2_with fail
          go_roundg (gk - 1)
          case measure => omega
          case rel => exact ⟨q + 1, by rw [NX.out], by go_num, by omega, by omega, K0.out⟩
        · have hqj : q = j := by omega
          subst hqj
          clear hlt hgq hq
          have HGT := hid (fun T n e => gT_of q (by omega) hj1 T n e)
          have hz2 : (gT q).size ≤ 30 := by rw [gT_size]; omega
          obtain ⟨H, hH⟩ : ∃ G, gT q = G := ⟨_, rfl⟩
          rw [hH] at HGT hz2 ⊢
          clear hH
          have ZA := hid (cell0 Z0.out K0.out)
          clear Z0
          have Z0 := ZA
          clear ZA
          obtain ⟨T1, n1, e1, hp1⟩ : ∃ T n e, pParse G true = (T, n, e) := ⟨_, _, _, rfl⟩
          have F1 := hid (HGS.out _ _ _ hp1)
          have PA1 := hid (parse_at G true T1 n1 e1 (by omega) hp1)
          clear hp1 HGS
          obtain ⟨T2, n2, e2, hp2⟩ : ∃ T n e, pParse H true = (T, n, e) := ⟨_, _, _, rfl⟩
          have F2 := hid (HGT.out _ _ _ hp2)
          have PA2 := hid (parse_at H true T2 n2 e2 (by omega) hp2)
          clear hp2 HGT
          have hdl : (bs (dec q)).size ≤ 10 := by rw [bs_size]; have := dec_len q (by omega); omega
          have hYs : (gY q).size ≤ 100 := by unfold gY; rw [ByteArray.size_append]; show 7 + _ ≤ _; omega
          have HGY := hid (fun T n e => gY_of q (by omega) hj1 T n e)
          have NM := hid (fun w => num_any q (by omega) w)
          have EY : Hid (⟨#[40, 97, 41, 40, 98, 41, 92]⟩ ++ bs (dec q) = gY q) := rfl
          obtain ⟨DQ, hDQ⟩ : ∃ D, bs (dec q) = D := ⟨_, rfl⟩
          rw [hDQ] at hdl NM EY
          obtain ⟨Y, hY⟩ : ∃ Y, gY q = Y := ⟨_, rfl⟩
          rw [hY] at hYs EY HGY
          obtain ⟨T3, n3, e3, hp3⟩ : ∃ T n e, pParse Y true = (T, n, e) := ⟨_, _, _, rfl⟩
          have F3 := hid (HGY.out _ _ _ hp3)
          have PA3 := hid (parse_at Y true T3 n3 e3 (by omega) hp3)
          clear hp3 hDQ hYs hY HGY
          obtain ⟨T4, n4, hp4⟩ := g4
          have PA4 := hid (parse_at ⟨#[92, 49, 40, 97, 41]⟩ true T4 n4 1 (by decide) hp4)
          clear hp4
          go_wp2_with fail
          refine (PA1.out _ Z0.out).mono ?_
          rintro en V1 ⟨k1, mn1, mx1, m1, s1, ad1, l1, c1, rfl, pd1, kv1⟩
          have KV1 := hid kv1
          have PD1 := hid pd1
          have hsv1 := kv1.size
          clear kv1 pd1
          go_upto_region 12 with fail
          refine opq (fun U1 => U1.heap[V1.heap.size]? = some (rxo k1 mn1 mx1 m1 s1 (.slice ad1 l1 c1)) ∧ Pd U1 T1 k1 mn1 mx1 m1 s1 ad1 l1 c1 ∧ Kp w U1 ∧ ∃ mz, U1.cell? ⟨0, 0, none⟩ = some (.int .i64 mz)) ⟨by (first | exact last_at _ _ _ (by simp) | (refine bl_alloc ?_ _; first | exact last_at _ _ _ (by simp) | (refine bl_alloc ?_ _; first | exact last_at _ _ _ (by simp) | (refine bl_alloc ?_ _; exact last_at _ _ _ (by simp))))), by exact PD1.out.kp (by repeat (first | exact Kp.refl _ | refine Kp.alloc ?_ _ | refine Kp.drew ?_ | refine Kp.drewN _ ?_)), by exact K0.out.trans (KV1.out.trans (by repeat (first | exact Kp.refl _ | refine Kp.alloc ?_ _ | refine Kp.drew ?_ | refine Kp.drewN _ ?_))), by exact cell0 Z0.out (KV1.out.trans (by repeat (first | exact Kp.refl _ | refine Kp.alloc ?_ _ | refine Kp.drew ?_ | refine Kp.drewN _ ?_)))⟩ ?_
          rintro U1 ⟨xA1x, xPD1x, xK1, xZ1⟩
          have A1x : Hid (U1.heap[V1.heap.size]? = some (rxo k1 mn1 mx1 m1 s1 (.slice ad1 l1 c1))) := xA1x
          have PD1x : Hid (Pd U1 T1 k1 mn1 mx1 m1 s1 ad1 l1 c1) := xPD1x
          have K1 : Hid (Kp w U1) := xK1
          have Z1 : Hid (∃ mz, U1.cell? ⟨0, 0, none⟩ = some (.int .i64 mz)) := xZ1
          clear xA1x xPD1x xK1 xZ1
          clear PD1 KV1  K0 Z0
          have A1 := A1x
          have PD1 := PD1x
          clear A1x PD1x
          go_wp2_with fail
          refine (PA2.out _ Z1.out).mono ?_
          rintro en V2 ⟨k2, mn2, mx2, m2, s2, ad2, l2, c2, rfl, pd2, kv2⟩
          have KV2 := hid kv2
          have PD2 := hid pd2
          have hsv2 := kv2.size
          clear kv2 pd2
          go_upto_region 13 with fail
          refine opq (fun U2 => U2.heap[V1.heap.size]? = some (rxo k1 mn1 mx1 m1 s1 (.slice ad1 l1 c1)) ∧ Pd U2 T1 k1 mn1 mx1 m1 s1 ad1 l1 c1 ∧ U2.heap[V2.heap.size]? = some (rxo k2 mn2 mx2 m2 s2 (.slice ad2 l2 c2)) ∧ Pd U2 T2 k2 mn2 mx2 m2 s2 ad2 l2 c2 ∧ Kp w U2 ∧ ∃ mz, U2.cell? ⟨0, 0, none⟩ = some (.int .i64 mz)) ⟨by exact bl_kp A1.out (KV2.out.trans (by repeat (first | exact Kp.refl _ | refine Kp.alloc ?_ _ | refine Kp.drew ?_ | refine Kp.drewN _ ?_))), by exact PD1.out.kp (KV2.out.trans (by repeat (first | exact Kp.refl _ | refine Kp.alloc ?_ _ | refine Kp.drew ?_ | refine Kp.drewN _ ?_))), by (first | exact last_at _ _ _ (by simp) | (refine bl_alloc ?_ _; first | exact last_at _ _ _ (by simp) | (refine bl_alloc ?_ _; first | exact last_at _ _ _ (by simp) | (refine bl_alloc ?_ _; exact last_at _ _ _ (by simp))))), by exact PD2.out.kp (by repeat (first | exact Kp.refl _ | refine Kp.alloc ?_ _ | refine Kp.drew ?_ | refine Kp.drewN _ ?_)), by exact K1.out.trans (KV2.out.trans (by repeat (first | exact Kp.refl _ | refine Kp.alloc ?_ _ | refine Kp.drew ?_ | refine Kp.drewN _ ?_))), by exact cell0 Z1.out (KV2.out.trans (by repeat (first | exact Kp.refl _ | refine Kp.alloc ?_ _ | refine Kp.drew ?_ | refine Kp.drewN _ ?_)))⟩ ?_
          rintro U2 ⟨xA1x, xPD1x, xA2x, xPD2x, xK2, xZ2⟩
          have A1x : Hid (U2.heap[V1.heap.size]? = some (rxo k1 mn1 mx1 m1 s1 (.slice ad1 l1 c1))) := xA1x
          have PD1x : Hid (Pd U2 T1 k1 mn1 mx1 m1 s1 ad1 l1 c1) := xPD1x
          have A2x : Hid (U2.heap[V2.heap.size]? = some (rxo k2 mn2 mx2 m2 s2 (.slice ad2 l2 c2))) := xA2x
          have PD2x : Hid (Pd U2 T2 k2 mn2 mx2 m2 s2 ad2 l2 c2) := xPD2x
          have K2 : Hid (Kp w U2) := xK2
          have Z2 : Hid (∃ mz, U2.cell? ⟨0, 0, none⟩ = some (.int .i64 mz)) := xZ2
          clear xA1x xPD1x xA2x xPD2x xK2 xZ2
          clear PD2 KV2 A1 PD1 K1 Z1
          have A1 := A1x
          have PD1 := PD1x
          clear A1x PD1x
          have A2 := A2x
          have PD2 := PD2x
          clear A2x PD2x
          go_wp2_with fail
          refine (NM.out _).mono ?_
          rintro e V0 ⟨rfl, kn⟩
          have KN := hid kn
          clear kn
          have A1' := hid (bl_kp A1.out KN.out)
          have A2' := hid (bl_kp A2.out KN.out)
          have PD1' := hid (PD1.out.kp KN.out)
          have PD2' := hid (PD2.out.kp KN.out)
          have K2' := hid (K2.out.trans KN.out)
          have Z2' := hid (cell0 Z2.out KN.out)
          clear A1 A2 PD1 PD2 K2 Z2
          have A1 := A1'
          have A2 := A2'
          have PD1 := PD1'
          have PD2 := PD2'
          have K2 := K2'
          have Z2 := Z2'
          clear A1' A2' PD1' PD2' K2' Z2' KN
          go_wp2_with fail
          rw [EY.out]
          refine (PA3.out _ Z2.out).mono ?_
          rintro en V3 ⟨k3, mn3, mx3, m3, s3, ad3, l3, c3, rfl, pd3, kv3⟩
          have KV3 := hid kv3
          have PD3 := hid pd3
          have hsv3 := kv3.size
          clear kv3 pd3
          go_upto_region 14 with fail
          refine opq (fun U3 => U3.heap[V1.heap.size]? = some (rxo k1 mn1 mx1 m1 s1 (.slice ad1 l1 c1)) ∧ Pd U3 T1 k1 mn1 mx1 m1 s1 ad1 l1 c1 ∧ U3.heap[V2.heap.size]? = some (rxo k2 mn2 mx2 m2 s2 (.slice ad2 l2 c2)) ∧ Pd U3 T2 k2 mn2 mx2 m2 s2 ad2 l2 c2 ∧ U3.heap[V3.heap.size]? = some (rxo k3 mn3 mx3 m3 s3 (.slice ad3 l3 c3)) ∧ Pd U3 T3 k3 mn3 mx3 m3 s3 ad3 l3 c3 ∧ Kp w U3 ∧ ∃ mz, U3.cell? ⟨0, 0, none⟩ = some (.int .i64 mz)) ⟨by exact bl_kp A1.out (KV3.out.trans (by repeat (first | exact Kp.refl _ | refine Kp.alloc ?_ _ | refine Kp.drew ?_ | refine Kp.drewN _ ?_))), by exact PD1.out.kp (KV3.out.trans (by repeat (first | exact Kp.refl _ | refine Kp.alloc ?_ _ | refine Kp.drew ?_ | refine Kp.drewN _ ?_))), by exact bl_kp A2.out (KV3.out.trans (by repeat (first | exact Kp.refl _ | refine Kp.alloc ?_ _ | refine Kp.drew ?_ | refine Kp.drewN _ ?_))), by exact PD2.out.kp (KV3.out.trans (by repeat (first | exact Kp.refl _ | refine Kp.alloc ?_ _ | refine Kp.drew ?_ | refine Kp.drewN _ ?_))), by (first | exact last_at _ _ _ (by simp) | (refine bl_alloc ?_ _; first | exact last_at _ _ _ (by simp) | (refine bl_alloc ?_ _; first | exact last_at _ _ _ (by simp) | (refine bl_alloc ?_ _; exact last_at _ _ _ (by simp))))), by exact PD3.out.kp (by repeat (first | exact Kp.refl _ | refine Kp.alloc ?_ _ | refine Kp.drew ?_ | refine Kp.drewN _ ?_)), by exact K2.out.trans (KV3.out.trans (by repeat (first | exact Kp.refl _ | refine Kp.alloc ?_ _ | refine Kp.drew ?_ | refine Kp.drewN _ ?_))), by exact cell0 Z2.out (KV3.out.trans (by repeat (first | exact Kp.refl _ | refine Kp.alloc ?_ _ | refine Kp.drew ?_ | refine Kp.drewN _ ?_)))⟩ ?_
          rintro U3 ⟨xA1x, xPD1x, xA2x, xPD2x, xA3x, xPD3x, xK3, xZ3⟩
          have A1x : Hid (U3.heap[V1.heap.size]? = some (rxo k1 mn1 mx1 m1 s1 (.slice ad1 l1 c1))) := xA1x
          have PD1x : Hid (Pd U3 T1 k1 mn1 mx1 m1 s1 ad1 l1 c1) := xPD1x
          have A2x : Hid (U3.heap[V2.heap.size]? = some (rxo k2 mn2 mx2 m2 s2 (.slice ad2 l2 c2))) := xA2x
          have PD2x : Hid (Pd U3 T2 k2 mn2 mx2 m2 s2 ad2 l2 c2) := xPD2x
          have A3x : Hid (U3.heap[V3.heap.size]? = some (rxo k3 mn3 mx3 m3 s3 (.slice ad3 l3 c3))) := xA3x
          have PD3x : Hid (Pd U3 T3 k3 mn3 mx3 m3 s3 ad3 l3 c3) := xPD3x
          have K3 : Hid (Kp w U3) := xK3
          have Z3 : Hid (∃ mz, U3.cell? ⟨0, 0, none⟩ = some (.int .i64 mz)) := xZ3
          clear xA1x xPD1x xA2x xPD2x xA3x xPD3x xK3 xZ3
          clear PD3 KV3 A1 PD1 A2 PD2 K2 Z2
          have A1 := A1x
          have PD1 := PD1x
          clear A1x PD1x
          have A2 := A2x
          have PD2 := PD2x
          clear A2x PD2x
          have A3 := A3x
          have PD3 := PD3x
          clear A3x PD3x
          go_wp2_with fail
          refine (PA4.out _ Z3.out).mono ?_
          rintro en V4 ⟨k4, mn4, mx4, m4, s4, ad4, l4, c4, rfl, pd4, kv4⟩
          have KV4 := hid kv4
          have PD4 := hid pd4
          have hsv4 := kv4.size
          clear kv4 pd4
          go_upto_region 15 with fail
          refine opq (fun U4 => U4.heap[V1.heap.size]? = some (rxo k1 mn1 mx1 m1 s1 (.slice ad1 l1 c1)) ∧ Pd U4 T1 k1 mn1 mx1 m1 s1 ad1 l1 c1 ∧ U4.heap[V2.heap.size]? = some (rxo k2 mn2 mx2 m2 s2 (.slice ad2 l2 c2)) ∧ Pd U4 T2 k2 mn2 mx2 m2 s2 ad2 l2 c2 ∧ U4.heap[V3.heap.size]? = some (rxo k3 mn3 mx3 m3 s3 (.slice ad3 l3 c3)) ∧ Pd U4 T3 k3 mn3 mx3 m3 s3 ad3 l3 c3 ∧ U4.heap[V4.heap.size]? = some (rxo k4 mn4 mx4 m4 s4 (.slice ad4 l4 c4)) ∧ Pd U4 T4 k4 mn4 mx4 m4 s4 ad4 l4 c4 ∧ Kp w U4 ∧ ∃ mz, U4.cell? ⟨0, 0, none⟩ = some (.int .i64 mz)) ⟨by exact bl_kp A1.out (KV4.out.trans (by repeat (first | exact Kp.refl _ | refine Kp.alloc ?_ _ | refine Kp.drew ?_ | refine Kp.drewN _ ?_))), by exact PD1.out.kp (KV4.out.trans (by repeat (first | exact Kp.refl _ | refine Kp.alloc ?_ _ | refine Kp.drew ?_ | refine Kp.drewN _ ?_))), by exact bl_kp A2.out (KV4.out.trans (by repeat (first | exact Kp.refl _ | refine Kp.alloc ?_ _ | refine Kp.drew ?_ | refine Kp.drewN _ ?_))), by exact PD2.out.kp (KV4.out.trans (by repeat (first | exact Kp.refl _ | refine Kp.alloc ?_ _ | refine Kp.drew ?_ | refine Kp.drewN _ ?_))), by exact bl_kp A3.out (KV4.out.trans (by repeat (first | exact Kp.refl _ | refine Kp.alloc ?_ _ | refine Kp.drew ?_ | refine Kp.drewN _ ?_))), by exact PD3.out.kp (KV4.out.trans (by repeat (first | exact Kp.refl _ | refine Kp.alloc ?_ _ | refine Kp.drew ?_ | refine Kp.drewN _ ?_))), by (first | exact last_at _ _ _ (by simp) | (refine bl_alloc ?_ _; first | exact last_at _ _ _ (by simp) | (refine bl_alloc ?_ _; first | exact last_at _ _ _ (by simp) | (refine bl_alloc ?_ _; exact last_at _ _ _ (by simp))))), by exact PD4.out.kp (by repeat (first | exact Kp.refl _ | refine Kp.alloc ?_ _ | refine Kp.drew ?_ | refine Kp.drewN _ ?_)), by exact K3.out.trans (KV4.out.trans (by repeat (first | exact Kp.refl _ | refine Kp.alloc ?_ _ | refine Kp.drew ?_ | refine Kp.drewN _ ?_))), by exact cell0 Z3.out (KV4.out.trans (by repeat (first | exact Kp.refl _ | refine Kp.alloc ?_ _ | refine Kp.drew ?_ | refine Kp.drewN _ ?_)))⟩ ?_
          rintro U4 ⟨xA1x, xPD1x, xA2x, xPD2x, xA3x, xPD3x, xA4x, xPD4x, xK4, xZ4⟩
          have A1x : Hid (U4.heap[V1.heap.size]? = some (rxo k1 mn1 mx1 m1 s1 (.slice ad1 l1 c1))) := xA1x
          have PD1x : Hid (Pd U4 T1 k1 mn1 mx1 m1 s1 ad1 l1 c1) := xPD1x
          have A2x : Hid (U4.heap[V2.heap.size]? = some (rxo k2 mn2 mx2 m2 s2 (.slice ad2 l2 c2))) := xA2x
          have PD2x : Hid (Pd U4 T2 k2 mn2 mx2 m2 s2 ad2 l2 c2) := xPD2x
          have A3x : Hid (U4.heap[V3.heap.size]? = some (rxo k3 mn3 mx3 m3 s3 (.slice ad3 l3 c3))) := xA3x
          have PD3x : Hid (Pd U4 T3 k3 mn3 mx3 m3 s3 ad3 l3 c3) := xPD3x
          have A4x : Hid (U4.heap[V4.heap.size]? = some (rxo k4 mn4 mx4 m4 s4 (.slice ad4 l4 c4))) := xA4x
          have PD4x : Hid (Pd U4 T4 k4 mn4 mx4 m4 s4 ad4 l4 c4) := xPD4x
          have K4 : Hid (Kp w U4) := xK4
          have Z4 : Hid (∃ mz, U4.cell? ⟨0, 0, none⟩ = some (.int .i64 mz)) := xZ4
          clear xA1x xPD1x xA2x xPD2x xA3x xPD3x xA4x xPD4x xK4 xZ4
          clear PD4 KV4 A1 PD1 A2 PD2 A3 PD3 K3 Z3
          have A1 := A1x
          have PD1 := PD1x
          clear A1x PD1x
          have A2 := A2x
          have PD2 := PD2x
          clear A2x PD2x
          have A3 := A3x
          have PD3 := PD3x
          clear A3x PD3x
          have A4 := A4x
          have PD4 := PD4x
          clear A4x PD4x
          have RU := hid (fun w' (q : Kp U4 w') => runs_any w' (cell0 Z4.out q))
          go_cut [96] (fun v wc => v = .bool false ∧ Kp U4 wc)
          case first =>
            by_cases h3 : i ≤ 3
            · obtain ⟨he1, hg1, hn1, hok1⟩ := F1.out.yes h3
              subst he1
              have G1 := hid (fun w' (q : Kp U4 w') => (Groups_any T1 (by rw [hg1]; omega) (slim_of _ hok1)).all _ _ w' (PD1.out.is.kp q))
              have N1 := hid (fun w' (q : Kp U4 w') => (Nodes_any T1 (by rw [hn1]; omega) (slim_of _ hok1)).all _ _ w' (PD1.out.is.kp q))
              rw [hg1] at G1
              rw [hn1] at N1
              clear hg1 hn1 hok1
              have h3i : (i : Int) ≤ 3 := by omega
              have p0 := bl_cell (A1.out) 0 _ rfl
              have p1 := bl_cell (A1.out) 1 _ rfl
              have p2 := bl_cell (A1.out) 2 _ rfl
              have p3 := bl_cell (A1.out) 3 _ rfl
              have p4 := bl_cell (A1.out) 4 _ rfl
              have p5 := bl_cell (A1.out) 5 _ rfl
              have p6 := bl_cell (A1.out) 6 _ rfl
              have p7 := bl_cell (A1.out) 7 _ rfl
              have p8 := bl_cell (A1.out) 8 _ rfl
              go_wp2_with fail
              refine (G1.out _ (Kp.refl _)).mono ?_
              rintro e Y1 ⟨rfl, y1⟩
              have KY := hid y1
              clear y1 p0 p1 p2 p3 p4 p5 p6 p7 p8
              have AY := hid (bl_kp A1.out KY.out)
              have p0 := bl_cell (AY.out) 0 _ rfl
              have p1 := bl_cell (AY.out) 1 _ rfl
              have p2 := bl_cell (AY.out) 2 _ rfl
              have p3 := bl_cell (AY.out) 3 _ rfl
              have p4 := bl_cell (AY.out) 4 _ rfl
              have p5 := bl_cell (AY.out) 5 _ rfl
              have p6 := bl_cell (AY.out) 6 _ rfl
              have p7 := bl_cell (AY.out) 7 _ rfl
              have p8 := bl_cell (AY.out) 8 _ rfl
              go_wp2_with fail
              refine (N1.out _ KY.out).mono ?_
              rintro e Y2 ⟨rfl, y2⟩
              have KY2 := hid (KY.out.trans y2)
              clear y2 p0 p1 p2 p3 p4 p5 p6 p7 p8
              go_wp2_with fail
              go_meet
              case rel => exact ⟨rfl, KY2.out⟩
            · have h3i : ¬ (i : Int) ≤ 3 := by omega
              rcases F1.out.no h3 with rfl | rfl
              · go_wp2_with fail
                go_meet
                case rel => exact ⟨rfl, Kp.refl _⟩
              · go_wp2_with fail
                go_meet
                case rel => exact ⟨rfl, Kp.refl _⟩
          case rest =>
            obtain ⟨rfl, k5⟩ := hcut
            rename World => W5
            have K5 := hid k5
            have A2' := hid (bl_kp A2.out k5)
            have A3' := hid (bl_kp A3.out k5)
            have q3 := PD3.out.all.1
            clear k5 A1 PD1 PD4 A4 F1
            by_cases h3 : q ≤ 3
            · have h3i : (q : Int) ≤ 3 := by omega
              obtain ⟨he2, hg2, hok2⟩ := F2.out.yes h3
              subst he2
              have G2 := hid (fun w' (x : Kp U4 w') => (Groups_any T2 (by rw [hg2]; omega) (slim_of _ hok2)).all _ _ w' (PD2.out.is.kp x))
              rw [hg2] at G2
              clear hg2 hok2
              by_cases h2 : q ≤ 2
              · have h2i : (q : Int) ≤ 2 := by omega
                obtain ⟨he3, hkn⟩ := F3.out.yes h2
                subst he3
                have hl3 : l3 = 3 := q3.trans hkn
                subst hl3
                clear q3 hkn
                have p0 := bl_cell (A2'.out) 0 _ rfl
                have p1 := bl_cell (A2'.out) 1 _ rfl
                have p2 := bl_cell (A2'.out) 2 _ rfl
                have p3 := bl_cell (A2'.out) 3 _ rfl
                have p4 := bl_cell (A2'.out) 4 _ rfl
                have p5 := bl_cell (A2'.out) 5 _ rfl
                have p6 := bl_cell (A2'.out) 6 _ rfl
                have p7 := bl_cell (A2'.out) 7 _ rfl
                have p8 := bl_cell (A2'.out) 8 _ rfl
                go_wp2_with fail
                refine (G2.out _ K5.out).mono ?_
                rintro e Y1 ⟨rfl, y1⟩
                have KY := hid (K5.out.trans y1)
                have AY := hid (bl_kp A3'.out y1)
                clear y1 p0 p1 p2 p3 p4 p5 p6 p7 p8
                have p0 := bl_cell (AY.out) 0 _ rfl
                have p1 := bl_cell (AY.out) 1 _ rfl
                have p2 := bl_cell (AY.out) 2 _ rfl
                have p3 := bl_cell (AY.out) 3 _ rfl
                have p4 := bl_cell (AY.out) 4 _ rfl
                have p5 := bl_cell (AY.out) 5 _ rfl
                have p6 := bl_cell (AY.out) 6 _ rfl
                have p7 := bl_cell (AY.out) 7 _ rfl
                have p8 := bl_cell (AY.out) 8 _ rfl
                go_wp2_with fail
                refine (RU.out _ KY.out).mono ?_
                rintro e Y2 ⟨rfl, y2⟩
                have KY2 := hid (KY.out.trans y2)
                clear y2 p0 p1 p2 p3 p4 p5 p6 p7 p8
                go_wp2_with fail
                go_ret
                exact ⟨by first | rfl | (simp; omega), K4.out.trans KY2.out⟩
              · have h2i : ¬ (q : Int) ≤ 2 := by omega
                have he3 := F3.out.no h2
                have g3 : ((e3 : Int) == 0) = false := by simp; omega
                have g3' : ((e3 : Int) != 0) = true := by simp; omega
                have g3'' : ¬ (e3 : Int) = 0 := by omega
                clear he3 q3
                have p0 := bl_cell (A2'.out) 0 _ rfl
                have p1 := bl_cell (A2'.out) 1 _ rfl
                have p2 := bl_cell (A2'.out) 2 _ rfl
                have p3 := bl_cell (A2'.out) 3 _ rfl
                have p4 := bl_cell (A2'.out) 4 _ rfl
                have p5 := bl_cell (A2'.out) 5 _ rfl
                have p6 := bl_cell (A2'.out) 6 _ rfl
                have p7 := bl_cell (A2'.out) 7 _ rfl
                have p8 := bl_cell (A2'.out) 8 _ rfl
                go_wp2_with fail
                refine (G2.out _ K5.out).mono ?_
                rintro e Y1 ⟨rfl, y1⟩
                have KY := hid (K5.out.trans y1)
                clear y1 p0 p1 p2 p3 p4 p5 p6 p7 p8
                go_wp2_with fail
                refine (RU.out _ KY.out).mono ?_
                rintro e Y2 ⟨rfl, y2⟩
                have KY2 := hid (KY.out.trans y2)
                clear y2
                go_wp2_with fail
                go_ret
                exact ⟨by first | rfl | (simp; omega), K4.out.trans KY2.out⟩
            · have h3i : ¬ (q : Int) ≤ 3 := by omega
              have h2i : ¬ (q : Int) ≤ 2 := by omega
              have he2 := F2.out.no h3
              subst he2
              have he3 := F3.out.no (by omega)
              have g3 : ((e3 : Int) == 0) = false := by simp; omega
              have g3' : ((e3 : Int) != 0) = true := by simp; omega
              have g3'' : ¬ (e3 : Int) = 0 := by omega
              clear he3 q3
              go_wp2_with fail
              refine (RU.out _ K5.out).mono ?_
              rintro e Y2 ⟨rfl, y2⟩
              have KY2 := hid (K5.out.trans y2)
              clear y2
              go_wp2_with fail
              go_ret
              exact ⟨by first | rfl | (simp; omega), K4.out.trans KY2.out⟩
end Go.Proofs.YtikmgckefbjbkabGreatDoor

/-! ### Wrap -/

namespace Go.Proofs.YtikmgckefbjbkabGreatDoor
open Go.ChangeShapes Go.WideShapes Go.ChangeAt Go.RowKit

theorem and_shaped {H : Type} {enc : TypeId × Value → H} {a : Assume} {C : Checked} {os : Go.Os} {f : FuncId} {fn : Func} {s : ChangeSpec} {conds : List PathCond} {apart fresh handsOn again : Bool} {X : World → Array Value → Prop}
    (hX : ∀ (w w' : World) (args : Array Value), w.heap = w'.heap → X w args → X w' args)
    (own : ownKnob C.prog.godebug = none) (started : os.Started) (noInit : C.prog.inits.idxOf? f = none) (hfn : C.prog.funcs[f]? = some fn)
    (witness : ∃ (w : World) (tape : Tape) (i : Input), w.os = os ∧ (w.forCall tape i).Shaped C.prog ∧ i.vars = [] ∧ Input.okWide C.prog (w.forCall tape i) .any w.heap.size f i ∧
      ((s.pre enc C.prog fn conds apart (w.forCall tape i).memory i.args ∧ X (w.forCall tape i).memory i.args) ∧ sizedMet enc C.prog fn (OpenSpec.ofChange s) apart (w.forCall tape i).memory i.args) ∧ a.holds C.prog (lone (Frame.enter C.prog f i.args .normal) [] (w.forCall tape i)))
    (contract : ∀ (W : World) (base : Nat) (args : Array Value) (ds gs : List (DataW H)) (before : List MemPlace),
      (∀ (j : Nat) t v, fn.params[j]? = some t → args[j]? = some v → Value.okWide C.prog W .any base t v) →
      DataW.Whole enc C.prog fn.params.toList s.vars apart W args.toList ds gs before →
      conds.all (PathCond.test C.prog ⟨fn.params.toList, ds, s.plain.varTypes C.prog, gs⟩) = true →
      (DataW.weightsEach C.prog (fn.params.toList ++ s.plain.varTypes C.prog) (ds ++ gs)).all (· ≤ reachBytes) = true → X W args → W.ShapedOpen C.prog →
      Calls C.prog f args W fun e W' => ∃ v, e = .returned v ∧ s.post enc C.prog fn apart fresh handsOn again W args v W') :
    ReturnsInHanded a C os f .any (fun w args => (s.pre enc C.prog fn conds apart w args ∧ X w args) ∧ sizedMet enc C.prog fn (OpenSpec.ofChange s) apart w args) (s.post enc C.prog fn apart fresh handsOn again) := by
  refine returnsInHanded_of_calls own started noInit witness ?_
  intro w tape i _ hsh _ hok hpre hholds
  obtain ⟨_, _, _, fn', hfn', _, _, _, _, hval⟩ := hok
  have e : fn' = fn := Option.some.inj (hfn'.symm.trans hfn)
  subst e
  obtain ⟨⟨⟨ds, gs, before, hw, hc⟩, hx⟩, hz⟩ := hpre
  have hw' := DataW.Whole.of_heap (w' := w.forCall tape i) (by rfl) hw
  refine (contract (w.forCall tape i) w.heap.size i.args ds gs before hval hw' hc (hz.weights hw) (hX _ _ _ (by rfl) hx) hsh).mono fun e W' ⟨v, he, hp⟩ => ?_
  subst he
  exact ChangeSpec.post_blind hp

theorem own : ownKnob Tryz.prog.godebug = none := by kernel_rfl

/-- What every row of this seat lists. -/
abbrev laid3 : List (String × DataW Unit) := [("math/bits.deBruijn32tab", Rows.laid_math_bits_deBruijn32tab), ("math/bits.deBruijn64tab", Rows.laid_math_bits_deBruijn64tab), ("internal/strconv.uint64pow10", Rows.laid_internal_strconv_uint64pow10)]

/-- The door's own heap meets the condition. -/
theorem door_met (os : Go.Os) (args : Array Value) : laidMetH Tryz.prog laid3 ((World.doorLaid Tryz.prog 24 os).forCall (fun _ _ => 0) ⟨#[], args, []⟩).memory :=
  laidMetH_of_parts3 (fuel := 8) (laidMet_of_run' 8 (by kernel_rfl) (by kernel_rfl)) (by kernel_rfl) (by kernel_rfl)

/-- MaxLen holds a number. -/
theorem maxLen {W : World} (h : W.ShapedOpen Tryz.prog) : ∃ m, W.cell? ⟨0, 0, none⟩ = some (.int .i64 m) :=
  cell_of_shapedOpen_int (P := Tryz.prog) (g := 0) (t := 3) (zero := #[.int .i64 0]) h (of_decide_eq_true (by kernel_rfl)) (by kernel_rfl) rfl (by kernel_rfl) (by kernel_rfl) Tryz.underlying3
end Go.Proofs.YtikmgckefbjbkabGreatDoor

/-! ### RxGroupsProof -/

namespace Go.Proofs.YtikmgckefbjbkabGreatDoor.rxGroups
open Go.ChangeShapes Go.WideShapes Go.ChangeAt Go.RowKit
open Go.ChangeMaps (open_string shut_string)
set_option linter.unusedVariables false

theorem laidOut : laidOutB Tryz.prog = true := by kernel_rfl
set_option maxRecDepth 100000 in
theorem lifted (os : Go.Os) (started : os.Started) (H : Type) (enc : TypeId × Value → H) :
    ReturnsInHanded {} Tryz.checked os 4 .any (fun w args => (Rows.rxGroupsSpec.pre enc Tryz.prog Tryz.f4 [] false w args ∧ laidMetH Tryz.prog laid3 w) ∧ sizedMet enc Tryz.prog Tryz.f4 (OpenSpec.ofChange Rows.rxGroupsSpec) false w args)
      (Rows.rxGroupsSpec.post enc Tryz.prog Tryz.f4 false true false false) := by
  refine and_shaped (C := Tryz.checked) (X := fun w _ => laidMetH Tryz.prog laid3 w) (fun _ _ _ hh h => h.of_heap hh) own started (by kernel_rfl) Tryz.func4
    (ChangeSpec.witness_shaped (enc := enc) (C := Tryz.checked) (os := os) (X := fun w _ => laidMetH Tryz.prog laid3 w) false (World.doorLaid Tryz.prog 24 os) #[.int .i64 0, .int .i64 0] 8 rfl (World.shaped_of_RefB (by kernel_rfl) (by kernel_rfl)) (by kernel_rfl) (by kernel_rfl) (by kernel_rfl) (door_met os _)) ?_
  intro W base args ds gs before hval0 hW _ _ hL hsh
  have hval : ∀ (j : Nat) t v, Tryz.f4.params[j]? = some t → args[j]? = some v → Value.okWide Tryz.prog W .any base t v := hval0
  have hW' := hW
  obtain ⟨p, q, hA0, hV, rfl, hfz, hnd⟩ := hW
  have hA : DataW.TrodAll enc Tryz.prog W 0 (fun _ => true) true Tryz.f4.params.toList args.toList ds p := hA0
  rw [Tryz.params4] at hA hval
  obtain ⟨v0, vs0, d0, ds0, p0, q0, hargs, rfl, rfl, h0, r0⟩ := trodAll_cons hA
  obtain ⟨v1, vs1, d1, ds1, p1, q1, rfl, rfl, rfl, h1, r1⟩ := trodAll_cons r0
  obtain ⟨rfl, rfl, rfl⟩ := trodAll_nil r1
  obtain rfl : args = #[v0, v1] := by cases args; simp_all
  obtain ⟨rfl, rfl⟩ := trodVars_none hV
  obtain ⟨a0, rfl, rfl, rfl, w0⟩ := open_int Tryz.underlying3 (hval 0 3 v0 rfl rfl) h0
  obtain ⟨a1, rfl, rfl, rfl, w1⟩ := open_int Tryz.underlying3 (hval 1 3 v1 rfl rfl) h1
  clear hA0 hval0
  refine (groups_any a0 a1 W (maxLen hsh)).mono fun e W' ⟨he, bel⟩ => ?_
  subst he
  exact ⟨_, rfl, _, _, _, [], _, [], hW', trodAll_mk1 (shut_bool Tryz.underlying4 _), (trodAll_cons_mk (shut_int Tryz.underlying3 w0) (trodAll_cons_mk (shut_int Tryz.underlying3 w1) trodAll_mk0)), rfl, Below.frame bel _, fun h => by cases h⟩

theorem over : Rows.rxGroupsRow.holds Tryz.pinned (OpenSpec.ofChange Rows.rxGroupsSpec) :=
  OpenClaim.holds_of_wide 4 Tryz.f4 rfl rfl rfl rfl rfl rfl rfl ⟨rfl, rfl, rfl, rfl, rfl⟩ rfl rfl rfl rfl rfl (by kernel_rfl) Tryz.func4 (by kernel_rfl)
    (of_decide_eq_true (by kernel_rfl)) (by unfold Func.isWrapper; first | (rw [if_pos (by decide +kernel)]; kernel_rfl) | (rw [if_neg (by decide +kernel)]; exact ⟨rfl, rfl⟩))
    (fun os started H enc _ => lifted os started H enc)

theorem carded : Rows.RxGroupsCardSaid :=
  Claim7.holds_tied_plain_at .later [] [.data, .data, .data] true (true, "d7f39d193829e72837050156560bcd563f74548b4f356ef346653581ae90b154") false
    over (fun _ h => by cases h) (by kernel_rfl) (fun _ h => by cases h) rxGroups_row_tie rfl ⟨rfl, rfl⟩ (by kernel_rfl) rfl
    (fun f fn hf hfn => by
      obtain rfl : f = 4 := Option.some.inj ((show Tryz.prog.funcNamed "gloss/glosslaw4.RxGroups" = some 4 by kernel_rfl).symm.trans hf) |>.symm
      obtain rfl : fn = Tryz.f4 := (Option.some.inj (Tryz.func4.symm.trans hfn)).symm
      exact ⟨by kernel_rfl, fun j t ht => by
        rw [Tryz.params4] at ht
        have hm : t ∈ [3, 3] := by simpa using Array.mem_of_getElem? ht
        have hall : ([3, 3].all fun u => !Tryz.prog.wantsStandIn u) = true := by kernel_rfl
        exact (show Tryz.prog.wantsStandIn t = false by simpa using List.all_eq_true.1 hall t hm)⟩)
    (by kernel_rfl)

end Go.Proofs.YtikmgckefbjbkabGreatDoor.rxGroups
namespace Go.Proofs.YtikmgckefbjbkabGreatDoor

theorem rxGroups_holds : Rows.RxGroupsCardSaid := rxGroups.carded

end Go.Proofs.YtikmgckefbjbkabGreatDoor
