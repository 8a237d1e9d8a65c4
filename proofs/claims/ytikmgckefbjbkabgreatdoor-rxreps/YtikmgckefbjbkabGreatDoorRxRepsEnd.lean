/-
  Proved: the law RxReps of glosslaw4 returns true for every two ints and every two bools (P4.2, P4.3). The tied card, no condition.
-/
import Derived.Test.YtikmgckefbjbkabGreatDoorM5
import Derived.Test.YtikmgckefbjbkabGreatDoorRows
import Derived.Test.YtikmgckefbjbkabGreatDoorChecked
import Derived.HandedShaped
import Derived.Shelf.Vars
import Derived.LaidMore
import Derived.LaidHandle
import Derived.LaidLaws
import Derived.Stop.Joined
import Derived.ProofKit
import Derived.Test.YtikmgckefbjbkabGreatDoorTie
import Derived.Test.YtikmgckefbjbkabGreatDoorCards
import Derived.Below
import Derived.WalkKit
import Derived.OpenShut
import Derived.ShutString
import Derived.ChangeOld
import Derived.SevenTiedAt

/-! ### RepsW -/

namespace Go.Proofs.YtikmgckefbjbkabGreatDoor
open Go.RowKit

set_option maxHeartbeats 4000000 in
set_option maxRecDepth 100000 in
theorem reps_tf (lo hi : Int) (w : World) (h0 : ∃ m, w.cell? ⟨0, 0, none⟩ = some (.int .i64 m)) :
    Calls Tryz.prog 3 #[.int .i64 lo, .int .i64 hi, .bool false, .bool true] w fun e w' => e = .returned (.bool true) ∧ Kp w w' := by
  have Z0 := hid h0
  clear h0
  obtain ⟨a, ha, ha25⟩ : ∃ k : Nat, wit lo 0 25 = (k : Int) ∧ k ≤ 25 := ⟨(wit lo 0 25).toNat, by have := wit_le lo 0 25 (by omega); omega, by have := wit_le lo 0 25 (by omega); omega⟩
  obtain ⟨b, hb, hb25⟩ : ∃ k : Nat, wit hi 0 25 = (k : Int) ∧ k ≤ 25 := ⟨(wit hi 0 25).toNat, by have := wit_le hi 0 25 (by omega); omega, by have := wit_le hi 0 25 (by omega); omega⟩
  have W1 := hid (fun w => within_any lo 0 25 w (by omega) (by omega) (by omega))
  have W2 := hid (fun w => within_any hi 0 25 w (by omega) (by omega) (by omega))
  rw [ha] at W1
  rw [hb] at W2
  clear ha hb
  have N1 := hid (fun w => num_any a (by omega) w)
  have N2 := hid (fun w => num_any b (by omega) w)
  have hd1 : (bs (dec a)).size ≤ 10 := by rw [bs_size]; have := dec_len a (by omega); omega
  have hd2 : (bs (dec b)).size ≤ 10 := by rw [bs_size]; have := dec_len b (by omega); omega
  have HF := hid (fun T n e => rp_of true false a b (by omega) (by omega) T n e)
  have ET : Hid (rT true false a b = ⟨#[97]⟩ ++ ⟨#[123]⟩ ++ bs (dec a) ++ ⟨#[44]⟩ ++ bs (dec b) ++ ⟨#[125]⟩) := rfl
  have hsz : (rT true false a b).size ≤ 100 := rT_sz _ _ _ _ (by omega) (by omega)
  obtain ⟨S, hS⟩ : ∃ S, rT true false a b = S := ⟨_, rfl⟩
  rw [hS] at HF ET hsz
  clear hS
  obtain ⟨D1, hD1⟩ : ∃ D, bs (dec a) = D := ⟨_, rfl⟩
  obtain ⟨D2, hD2⟩ : ∃ D, bs (dec b) = D := ⟨_, rfl⟩
  rw [hD1] at N1 hd1 ET
  rw [hD2] at N2 hd2 ET
  clear hD1 hD2
  obtain ⟨T1, n1, e1, hp1⟩ : ∃ T n e, pParse S true = (T, n, e) := ⟨_, _, _, rfl⟩
  have F1 := hid (HF.out _ _ _ hp1)
  have PA1 := hid (parse_at S true T1 n1 e1 (by omega) hp1)
  clear hp1 HF
  obtain ⟨X1, X2, X3, X4⟩ := rx4
  obtain ⟨T2, n2, hp2⟩ := X1 true
  obtain ⟨T3, n3, hp3⟩ := X2
  obtain ⟨T4, n4, hp4⟩ := X3
  obtain ⟨T5, n5, hp5⟩ := X4
  have PA2 := hid (parse_at ⟨#[97, 42, 42]⟩ true T2 n2 1 (by decide) hp2)
  have PA3 := hid (parse_at ⟨#[40, 97]⟩ true T3 n3 1 (by decide) hp3)
  have PA4 := hid (parse_at ⟨#[97, 41]⟩ true T4 n4 1 (by decide) hp4)
  have PA5 := hid (parse_at ⟨#[92, 40, 97]⟩ false T5 n5 1 (by decide) hp5)
  clear X1 hp2 hp3 hp4 hp5
  go_enter Tryz.func3, Tryz.ntmps3
  go_wp2_with fail
  refine (W1.out _).mono ?_
  rintro e w ⟨rfl, rfl⟩
  go_wp2_with fail
  refine (W2.out _).mono ?_
  rintro e w ⟨rfl, rfl⟩
  go_wp2_with fail
  refine (N1.out _).mono ?_
  rintro e Y1 ⟨rfl, y1⟩
  have K1 := hid y1
  clear y1
  go_wp2_with fail
  refine (N2.out _).mono ?_
  rintro e Y2 ⟨rfl, y2⟩
  have K2 := hid (K1.out.trans y2)
  clear y2 K1
  go_wp2_with fail
  refine (of_one 97 _ _ (by simp) (by omega)).mono ?_
  rintro e Y ⟨rfl, y3⟩
  have K3 := hid (K2.out.trans y3)
  have Z3 := hid (cell0 Z0.out K3.out)
  have ZW := Z0
  clear y3 K2 Z0
  go_upto_region 7 with fail
  refine opq (fun U => U.heap[Y.heap.size]? = some (rxo 1 0 0 0 (W4.of (addB (fun _ => false) 97)) (.slice none 0 0)) ∧ U.heap[(Y.heap.size + 1)]? = some (rxo 4 (a : Int) (b : Int) 0 W4.z (.slice (some ⟨Y.heap.size, 0, none⟩) 1 1)) ∧ Kp w U ∧ ∃ mz, U.cell? ⟨0, 0, none⟩ = some (.int .i64 mz)) ⟨by exact bl_alloc (last_of _ _) _, by exact last_at _ _ _ (by simp), by exact K3.out.trans (by repeat (first | exact Kp.refl _ | refine Kp.alloc ?_ _ | refine Kp.drew ?_ | refine Kp.drewN _ ?_)), by exact cell0 Z3.out (by repeat (first | exact Kp.refl _ | refine Kp.alloc ?_ _ | refine Kp.drew ?_ | refine Kp.drewN _ ?_))⟩ ?_
  rintro U ⟨xAK, xAW, xK4, xZ4⟩
  have AK : Hid (U.heap[Y.heap.size]? = some (rxo 1 0 0 0 (W4.of (addB (fun _ => false) 97)) (.slice none 0 0))) := xAK
  have AW : Hid (U.heap[(Y.heap.size + 1)]? = some (rxo 4 (a : Int) (b : Int) 0 W4.z (.slice (some ⟨Y.heap.size, 0, none⟩) 1 1))) := xAW
  have K4 : Hid (Kp w U) := xK4
  have Z4 : Hid (∃ mz, U.cell? ⟨0, 0, none⟩ = some (.int .i64 mz)) := xZ4
  clear xAK xAW xK4 xZ4
  have K3s := hid K3.out.size
  clear K3 Z3
  go_cut [15] (fun v wc => v = .bool (rMay false a b) ∧ wc = U)
  case first =>
    by_cases c1 : a ≤ b
    · have c1i : (a : Int) ≤ (b : Int) := by omega
      by_cases c2 : b ≤ 20
      · have c2i : (b : Int) ≤ 20 := by omega
        by_cases c3 : 1 ≤ b
        · have c3i : (1 : Int) ≤ (b : Int) := by omega
          have R : Hid (rMay false a b = true) := by show _ = _; unfold rMay; simp [c1, c2, c3]
          go_wp2_with fail
          go_meet
          case rel => exact ⟨by rw [R.out], rfl⟩
        · have c3i : ¬ (1 : Int) ≤ (b : Int) := by omega
          have R : Hid (rMay false a b = false) := by show _ = _; unfold rMay; simp [c1, c2]; omega
          go_wp2_with fail
          go_meet
          case rel => exact ⟨by rw [R.out], rfl⟩
      · have c2i : ¬ (b : Int) ≤ 20 := by omega
        have R : Hid (rMay false a b = false) := by show _ = _; unfold rMay; simp [c1]; omega
        go_wp2_with fail
        go_meet
        case rel => exact ⟨by rw [R.out], rfl⟩
    · have c1i : ¬ (a : Int) ≤ (b : Int) := by omega
      have R : Hid (rMay false a b = false) := by show _ = _; unfold rMay; simp [c1]
      go_wp2_with fail
      go_meet
      case rel => exact ⟨by rw [R.out], rfl⟩
  case rest =>
  obtain ⟨rfl, rfl⟩ := hcut
  obtain ⟨M, hM⟩ : ∃ M, rMay false a b = M := ⟨_, rfl⟩
  rw [hM]
  have HM := hid hM
  clear hM
  go_wp2_with fail
  rw [← ET.out]
  refine (PA1.out _ Z4.out).mono ?_
  rintro en V1 ⟨k1, mn1, mx1, m1, s1, ad1, l1, c1, rfl, pd1, kv1⟩
  have KV1 := hid kv1
  have PD1 := hid pd1
  have hsv1 := kv1.size
  clear kv1 pd1
  go_upto_region 11 with fail
  refine opq (fun U1 => U1.heap[V1.heap.size]? = some (rxo k1 mn1 mx1 m1 s1 (.slice ad1 l1 c1)) ∧ Pd U1 T1 k1 mn1 mx1 m1 s1 ad1 l1 c1 ∧ U1.heap[Y.heap.size]? = some (rxo 1 0 0 0 (W4.of (addB (fun _ => false) 97)) (.slice none 0 0)) ∧ U1.heap[(Y.heap.size + 1)]? = some (rxo 4 (a : Int) (b : Int) 0 W4.z (.slice (some ⟨Y.heap.size, 0, none⟩) 1 1)) ∧ Kp w U1 ∧ ∃ mz, U1.cell? ⟨0, 0, none⟩ = some (.int .i64 mz)) ⟨by (first | exact last_at _ _ _ (by simp) | (refine bl_alloc ?_ _; first | exact last_at _ _ _ (by simp) | (refine bl_alloc ?_ _; first | exact last_at _ _ _ (by simp) | (refine bl_alloc ?_ _; exact last_at _ _ _ (by simp))))), by exact PD1.out.kp (by repeat (first | exact Kp.refl _ | refine Kp.alloc ?_ _ | refine Kp.drew ?_ | refine Kp.drewN _ ?_)), by exact bl_kp AK.out (KV1.out.trans (by repeat (first | exact Kp.refl _ | refine Kp.alloc ?_ _ | refine Kp.drew ?_ | refine Kp.drewN _ ?_))), by exact bl_kp AW.out (KV1.out.trans (by repeat (first | exact Kp.refl _ | refine Kp.alloc ?_ _ | refine Kp.drew ?_ | refine Kp.drewN _ ?_))), by exact K4.out.trans (KV1.out.trans (by repeat (first | exact Kp.refl _ | refine Kp.alloc ?_ _ | refine Kp.drew ?_ | refine Kp.drewN _ ?_))), by exact cell0 Z4.out (KV1.out.trans (by repeat (first | exact Kp.refl _ | refine Kp.alloc ?_ _ | refine Kp.drew ?_ | refine Kp.drewN _ ?_)))⟩ ?_
  rintro U1 ⟨xA1, xPD1x, xAKx, xAWx, xK5, xZ5⟩
  have A1 : Hid (U1.heap[V1.heap.size]? = some (rxo k1 mn1 mx1 m1 s1 (.slice ad1 l1 c1))) := xA1
  have PD1x : Hid (Pd U1 T1 k1 mn1 mx1 m1 s1 ad1 l1 c1) := xPD1x
  have AKx : Hid (U1.heap[Y.heap.size]? = some (rxo 1 0 0 0 (W4.of (addB (fun _ => false) 97)) (.slice none 0 0))) := xAKx
  have AWx : Hid (U1.heap[(Y.heap.size + 1)]? = some (rxo 4 (a : Int) (b : Int) 0 W4.z (.slice (some ⟨Y.heap.size, 0, none⟩) 1 1))) := xAWx
  have K5 : Hid (Kp w U1) := xK5
  have Z5 : Hid (∃ mz, U1.cell? ⟨0, 0, none⟩ = some (.int .i64 mz)) := xZ5
  clear xA1 xPD1x xAKx xAWx xK5 xZ5
  clear PD1 KV1 K4 Z4 AK AW
  have WI := hid (want_is (a : Int) (b : Int) AKx.out)
  go_cut [110] (fun v wc => v = .bool false ∧ Kp U1 wc)
  case first =>
    cases M with
    | true =>
      obtain ⟨he1, hsm, hrt, hok⟩ := F1.out.yes HM.out
      subst he1
      have KS := hid (fun w' (q : Kp U1 w') => (ksame_any T1 (fit_of_ok _ hok)).all (rW false a b) _ _ w' _ _ (PD1x.out.is.kp q) (WI.out.kp q))
      have RI := hid (fun w' (q : Kp U1 w') => Right_any T1 true _ k1 mn1 mx1 m1 s1 ad1 l1 c1 w' hok (PD1x.out.is.kp q))
      rw [hsm] at KS
      rw [hrt] at RI
      clear hsm hrt hok F1
      have p0 := bl_cell (A1.out) 0 _ rfl
      have p1 := bl_cell (A1.out) 1 _ rfl
      have p2 := bl_cell (A1.out) 2 _ rfl
      have p3 := bl_cell (A1.out) 3 _ rfl
      have p4 := bl_cell (A1.out) 4 _ rfl
      have p5 := bl_cell (A1.out) 5 _ rfl
      have p6 := bl_cell (A1.out) 6 _ rfl
      have p7 := bl_cell (A1.out) 7 _ rfl
      have p8 := bl_cell (A1.out) 8 _ rfl
      have r0 := bl_cell (AWx.out) 0 _ rfl
      have r1 := bl_cell (AWx.out) 1 _ rfl
      have r2 := bl_cell (AWx.out) 2 _ rfl
      have r3 := bl_cell (AWx.out) 3 _ rfl
      have r4 := bl_cell (AWx.out) 4 _ rfl
      have r5 := bl_cell (AWx.out) 5 _ rfl
      have r6 := bl_cell (AWx.out) 6 _ rfl
      have r7 := bl_cell (AWx.out) 7 _ rfl
      have r8 := bl_cell (AWx.out) 8 _ rfl
      go_wp2_with fail
      refine (KS.out _ (Kp.refl _)).mono ?_
      rintro e Y6 ⟨rfl, y6⟩
      have KY := hid y6
      clear y6 p0 p1 p2 p3 p4 p5 p6 p7 p8 r0 r1 r2 r3 r4 r5 r6 r7 r8
      have AY := hid (bl_kp A1.out KY.out)
      have p0 := bl_cell (AY.out) 0 _ rfl
      have p1 := bl_cell (AY.out) 1 _ rfl
      have p2 := bl_cell (AY.out) 2 _ rfl
      have p3 := bl_cell (AY.out) 3 _ rfl
      have p4 := bl_cell (AY.out) 4 _ rfl
      have p5 := bl_cell (AY.out) 5 _ rfl
      have p6 := bl_cell (AY.out) 6 _ rfl
      have p7 := bl_cell (AY.out) 7 _ rfl
      have p8 := bl_cell (AY.out) 8 _ rfl
      go_wp2_with fail
      refine (RI.out _ KY.out).mono ?_
      rintro e Y7 ⟨rfl, y7⟩
      have KY2 := hid (KY.out.trans y7)
      clear y7 p0 p1 p2 p3 p4 p5 p6 p7 p8
      go_wp2_with fail
      go_meet
      case rel => exact ⟨rfl, KY2.out⟩
    | false =>
      have he1 := F1.out.no HM.out
      subst he1
      go_wp2_with fail
      go_meet
      case rel => exact ⟨rfl, Kp.refl _⟩
  case rest =>
  obtain ⟨rfl, k6⟩ := hcut
  rename World => W6
  have K1 := hid (K5.out.trans k6)
  have Z1 := hid (cell0 Z5.out k6)
  clear k6 K5 Z5 A1 PD1x AKx AWx WI F1
  go_wp2_with fail
  refine (PA2.out _ Z1.out).mono ?_
  rintro en V2 ⟨k2, mn2, mx2, m2, s2, ad2, l2, c2, rfl, pd2, kv2⟩
  have KV2 := hid kv2
  have PD2 := hid pd2
  have hsv2 := kv2.size
  clear kv2 pd2
  go_upto_region 14 with fail
  refine opq (fun U2 => U2.heap[V2.heap.size]? = some (rxo k2 mn2 mx2 m2 s2 (.slice ad2 l2 c2)) ∧ Pd U2 T2 k2 mn2 mx2 m2 s2 ad2 l2 c2 ∧ Kp w U2 ∧ ∃ mz, U2.cell? ⟨0, 0, none⟩ = some (.int .i64 mz)) ⟨by (first | exact last_at _ _ _ (by simp) | (refine bl_alloc ?_ _; first | exact last_at _ _ _ (by simp) | (refine bl_alloc ?_ _; first | exact last_at _ _ _ (by simp) | (refine bl_alloc ?_ _; exact last_at _ _ _ (by simp))))), by exact PD2.out.kp (by repeat (first | exact Kp.refl _ | refine Kp.alloc ?_ _ | refine Kp.drew ?_ | refine Kp.drewN _ ?_)), by exact K1.out.trans (KV2.out.trans (by repeat (first | exact Kp.refl _ | refine Kp.alloc ?_ _ | refine Kp.drew ?_ | refine Kp.drewN _ ?_))), by exact cell0 Z1.out (KV2.out.trans (by repeat (first | exact Kp.refl _ | refine Kp.alloc ?_ _ | refine Kp.drew ?_ | refine Kp.drewN _ ?_)))⟩ ?_
  rintro U2 ⟨xA2x, xPD2x, xK2, xZ2⟩
  have A2x : Hid (U2.heap[V2.heap.size]? = some (rxo k2 mn2 mx2 m2 s2 (.slice ad2 l2 c2))) := xA2x
  have PD2x : Hid (Pd U2 T2 k2 mn2 mx2 m2 s2 ad2 l2 c2) := xPD2x
  have K2 : Hid (Kp w U2) := xK2
  have Z2 : Hid (∃ mz, U2.cell? ⟨0, 0, none⟩ = some (.int .i64 mz)) := xZ2
  clear xA2x xPD2x xK2 xZ2
  clear PD2 KV2  K1 Z1
  have A2 := A2x
  have PD2 := PD2x
  clear A2x PD2x
  go_wp2_with fail
  refine (PA3.out _ Z2.out).mono ?_
  rintro en V3 ⟨k3, mn3, mx3, m3, s3, ad3, l3, c3, rfl, pd3, kv3⟩
  have KV3 := hid kv3
  have PD3 := hid pd3
  have hsv3 := kv3.size
  clear kv3 pd3
  go_upto_region 15 with fail
  refine opq (fun U3 => U3.heap[V3.heap.size]? = some (rxo k3 mn3 mx3 m3 s3 (.slice ad3 l3 c3)) ∧ Pd U3 T3 k3 mn3 mx3 m3 s3 ad3 l3 c3 ∧ Kp w U3 ∧ ∃ mz, U3.cell? ⟨0, 0, none⟩ = some (.int .i64 mz)) ⟨by (first | exact last_at _ _ _ (by simp) | (refine bl_alloc ?_ _; first | exact last_at _ _ _ (by simp) | (refine bl_alloc ?_ _; first | exact last_at _ _ _ (by simp) | (refine bl_alloc ?_ _; exact last_at _ _ _ (by simp))))), by exact PD3.out.kp (by repeat (first | exact Kp.refl _ | refine Kp.alloc ?_ _ | refine Kp.drew ?_ | refine Kp.drewN _ ?_)), by exact K2.out.trans (KV3.out.trans (by repeat (first | exact Kp.refl _ | refine Kp.alloc ?_ _ | refine Kp.drew ?_ | refine Kp.drewN _ ?_))), by exact cell0 Z2.out (KV3.out.trans (by repeat (first | exact Kp.refl _ | refine Kp.alloc ?_ _ | refine Kp.drew ?_ | refine Kp.drewN _ ?_)))⟩ ?_
  rintro U3 ⟨xA3x, xPD3x, xK3, xZ3⟩
  have A3x : Hid (U3.heap[V3.heap.size]? = some (rxo k3 mn3 mx3 m3 s3 (.slice ad3 l3 c3))) := xA3x
  have PD3x : Hid (Pd U3 T3 k3 mn3 mx3 m3 s3 ad3 l3 c3) := xPD3x
  have K3 : Hid (Kp w U3) := xK3
  have Z3 : Hid (∃ mz, U3.cell? ⟨0, 0, none⟩ = some (.int .i64 mz)) := xZ3
  clear xA3x xPD3x xK3 xZ3
  clear PD3 KV3  K2 Z2
  have A3 := A3x
  have PD3 := PD3x
  clear A3x PD3x
  clear A2 PD2
  go_wp2_with fail
  refine (PA4.out _ Z3.out).mono ?_
  rintro en V4 ⟨k4, mn4, mx4, m4, s4, ad4, l4, c4, rfl, pd4, kv4⟩
  have KV4 := hid kv4
  have PD4 := hid pd4
  have hsv4 := kv4.size
  clear kv4 pd4
  go_upto_region 16 with fail
  refine opq (fun U4 => U4.heap[V4.heap.size]? = some (rxo k4 mn4 mx4 m4 s4 (.slice ad4 l4 c4)) ∧ Pd U4 T4 k4 mn4 mx4 m4 s4 ad4 l4 c4 ∧ Kp w U4 ∧ ∃ mz, U4.cell? ⟨0, 0, none⟩ = some (.int .i64 mz)) ⟨by (first | exact last_at _ _ _ (by simp) | (refine bl_alloc ?_ _; first | exact last_at _ _ _ (by simp) | (refine bl_alloc ?_ _; first | exact last_at _ _ _ (by simp) | (refine bl_alloc ?_ _; exact last_at _ _ _ (by simp))))), by exact PD4.out.kp (by repeat (first | exact Kp.refl _ | refine Kp.alloc ?_ _ | refine Kp.drew ?_ | refine Kp.drewN _ ?_)), by exact K3.out.trans (KV4.out.trans (by repeat (first | exact Kp.refl _ | refine Kp.alloc ?_ _ | refine Kp.drew ?_ | refine Kp.drewN _ ?_))), by exact cell0 Z3.out (KV4.out.trans (by repeat (first | exact Kp.refl _ | refine Kp.alloc ?_ _ | refine Kp.drew ?_ | refine Kp.drewN _ ?_)))⟩ ?_
  rintro U4 ⟨xA4x, xPD4x, xK4, xZ4⟩
  have A4x : Hid (U4.heap[V4.heap.size]? = some (rxo k4 mn4 mx4 m4 s4 (.slice ad4 l4 c4))) := xA4x
  have PD4x : Hid (Pd U4 T4 k4 mn4 mx4 m4 s4 ad4 l4 c4) := xPD4x
  have K4 : Hid (Kp w U4) := xK4
  have Z4 : Hid (∃ mz, U4.cell? ⟨0, 0, none⟩ = some (.int .i64 mz)) := xZ4
  clear xA4x xPD4x xK4 xZ4
  clear PD4 KV4  K3 Z3
  have A4 := A4x
  have PD4 := PD4x
  clear A4x PD4x
  clear A3 PD3
  go_wp2_with fail
  refine (PA5.out _ Z4.out).mono ?_
  rintro en V5 ⟨k5, mn5, mx5, m5, s5, ad5, l5, c5, rfl, pd5, kv5⟩
  have KV5 := hid kv5
  have PD5 := hid pd5
  have hsv5 := kv5.size
  clear kv5 pd5
  go_upto_region 17 with fail
  refine opq (fun U5 => U5.heap[V5.heap.size]? = some (rxo k5 mn5 mx5 m5 s5 (.slice ad5 l5 c5)) ∧ Pd U5 T5 k5 mn5 mx5 m5 s5 ad5 l5 c5 ∧ Kp w U5 ∧ ∃ mz, U5.cell? ⟨0, 0, none⟩ = some (.int .i64 mz)) ⟨by (first | exact last_at _ _ _ (by simp) | (refine bl_alloc ?_ _; first | exact last_at _ _ _ (by simp) | (refine bl_alloc ?_ _; first | exact last_at _ _ _ (by simp) | (refine bl_alloc ?_ _; exact last_at _ _ _ (by simp))))), by exact PD5.out.kp (by repeat (first | exact Kp.refl _ | refine Kp.alloc ?_ _ | refine Kp.drew ?_ | refine Kp.drewN _ ?_)), by exact K4.out.trans (KV5.out.trans (by repeat (first | exact Kp.refl _ | refine Kp.alloc ?_ _ | refine Kp.drew ?_ | refine Kp.drewN _ ?_))), by exact cell0 Z4.out (KV5.out.trans (by repeat (first | exact Kp.refl _ | refine Kp.alloc ?_ _ | refine Kp.drew ?_ | refine Kp.drewN _ ?_)))⟩ ?_
  rintro U5 ⟨xA5x, xPD5x, xK5, xZ5⟩
  have A5x : Hid (U5.heap[V5.heap.size]? = some (rxo k5 mn5 mx5 m5 s5 (.slice ad5 l5 c5))) := xA5x
  have PD5x : Hid (Pd U5 T5 k5 mn5 mx5 m5 s5 ad5 l5 c5) := xPD5x
  have K5 : Hid (Kp w U5) := xK5
  have Z5 : Hid (∃ mz, U5.cell? ⟨0, 0, none⟩ = some (.int .i64 mz)) := xZ5
  clear xA5x xPD5x xK5 xZ5
  clear PD5 KV5  K4 Z4
  have A5 := A5x
  have PD5 := PD5x
  clear A5x PD5x
  go_wp2_with fail
  refine (runs_any _ Z5.out).mono ?_
  rintro e Y9 ⟨rfl, y9⟩
  have KY9 := hid (K5.out.trans y9)
  clear y9
  go_wp2_with fail
  go_ret
  exact ⟨rfl, KY9.out⟩

set_option maxHeartbeats 4000000 in
set_option maxRecDepth 100000 in
theorem reps_ff (lo hi : Int) (w : World) (h0 : ∃ m, w.cell? ⟨0, 0, none⟩ = some (.int .i64 m)) :
    Calls Tryz.prog 3 #[.int .i64 lo, .int .i64 hi, .bool false, .bool false] w fun e w' => e = .returned (.bool true) ∧ Kp w w' := by
  have Z0 := hid h0
  clear h0
  obtain ⟨a, ha, ha25⟩ : ∃ k : Nat, wit lo 0 25 = (k : Int) ∧ k ≤ 25 := ⟨(wit lo 0 25).toNat, by have := wit_le lo 0 25 (by omega); omega, by have := wit_le lo 0 25 (by omega); omega⟩
  obtain ⟨b, hb, hb25⟩ : ∃ k : Nat, wit hi 0 25 = (k : Int) ∧ k ≤ 25 := ⟨(wit hi 0 25).toNat, by have := wit_le hi 0 25 (by omega); omega, by have := wit_le hi 0 25 (by omega); omega⟩
  have W1 := hid (fun w => within_any lo 0 25 w (by omega) (by omega) (by omega))
  have W2 := hid (fun w => within_any hi 0 25 w (by omega) (by omega) (by omega))
  rw [ha] at W1
  rw [hb] at W2
  clear ha hb
  have N1 := hid (fun w => num_any a (by omega) w)
  have N2 := hid (fun w => num_any b (by omega) w)
  have hd1 : (bs (dec a)).size ≤ 10 := by rw [bs_size]; have := dec_len a (by omega); omega
  have hd2 : (bs (dec b)).size ≤ 10 := by rw [bs_size]; have := dec_len b (by omega); omega
  have HF := hid (fun T n e => rp_of false false a b (by omega) (by omega) T n e)
  have ET : Hid (rT false false a b = ⟨#[97]⟩ ++ ⟨#[92, 123]⟩ ++ bs (dec a) ++ ⟨#[44]⟩ ++ bs (dec b) ++ ⟨#[92, 125]⟩) := rfl
  have hsz : (rT false false a b).size ≤ 100 := rT_sz _ _ _ _ (by omega) (by omega)
  obtain ⟨S, hS⟩ : ∃ S, rT false false a b = S := ⟨_, rfl⟩
  rw [hS] at HF ET hsz
  clear hS
  obtain ⟨D1, hD1⟩ : ∃ D, bs (dec a) = D := ⟨_, rfl⟩
  obtain ⟨D2, hD2⟩ : ∃ D, bs (dec b) = D := ⟨_, rfl⟩
  rw [hD1] at N1 hd1 ET
  rw [hD2] at N2 hd2 ET
  clear hD1 hD2
  obtain ⟨T1, n1, e1, hp1⟩ : ∃ T n e, pParse S false = (T, n, e) := ⟨_, _, _, rfl⟩
  have F1 := hid (HF.out _ _ _ hp1)
  have PA1 := hid (parse_at S false T1 n1 e1 (by omega) hp1)
  clear hp1 HF
  obtain ⟨X1, X2, X3, X4⟩ := rx4
  obtain ⟨T2, n2, hp2⟩ := X1 false
  obtain ⟨T3, n3, hp3⟩ := X2
  obtain ⟨T4, n4, hp4⟩ := X3
  obtain ⟨T5, n5, hp5⟩ := X4
  have PA2 := hid (parse_at ⟨#[97, 42, 42]⟩ false T2 n2 1 (by decide) hp2)
  have PA3 := hid (parse_at ⟨#[40, 97]⟩ true T3 n3 1 (by decide) hp3)
  have PA4 := hid (parse_at ⟨#[97, 41]⟩ true T4 n4 1 (by decide) hp4)
  have PA5 := hid (parse_at ⟨#[92, 40, 97]⟩ false T5 n5 1 (by decide) hp5)
  clear X1 hp2 hp3 hp4 hp5
  go_enter Tryz.func3, Tryz.ntmps3
  go_wp2_with fail
  refine (W1.out _).mono ?_
  rintro e w ⟨rfl, rfl⟩
  go_wp2_with fail
  refine (W2.out _).mono ?_
  rintro e w ⟨rfl, rfl⟩
  go_wp2_with fail
  refine (N1.out _).mono ?_
  rintro e Y1 ⟨rfl, y1⟩
  have K1 := hid y1
  clear y1
  go_wp2_with fail
  refine (N2.out _).mono ?_
  rintro e Y2 ⟨rfl, y2⟩
  have K2 := hid (K1.out.trans y2)
  clear y2 K1
  go_wp2_with fail
  refine (of_one 97 _ _ (by simp) (by omega)).mono ?_
  rintro e Y ⟨rfl, y3⟩
  have K3 := hid (K2.out.trans y3)
  have Z3 := hid (cell0 Z0.out K3.out)
  have ZW := Z0
  clear y3 K2 Z0
  go_upto_region 7 with fail
  refine opq (fun U => U.heap[Y.heap.size]? = some (rxo 1 0 0 0 (W4.of (addB (fun _ => false) 97)) (.slice none 0 0)) ∧ U.heap[(Y.heap.size + 1)]? = some (rxo 4 (a : Int) (b : Int) 0 W4.z (.slice (some ⟨Y.heap.size, 0, none⟩) 1 1)) ∧ Kp w U ∧ ∃ mz, U.cell? ⟨0, 0, none⟩ = some (.int .i64 mz)) ⟨by exact bl_alloc (last_of _ _) _, by exact last_at _ _ _ (by simp), by exact K3.out.trans (by repeat (first | exact Kp.refl _ | refine Kp.alloc ?_ _ | refine Kp.drew ?_ | refine Kp.drewN _ ?_)), by exact cell0 Z3.out (by repeat (first | exact Kp.refl _ | refine Kp.alloc ?_ _ | refine Kp.drew ?_ | refine Kp.drewN _ ?_))⟩ ?_
  rintro U ⟨xAK, xAW, xK4, xZ4⟩
  have AK : Hid (U.heap[Y.heap.size]? = some (rxo 1 0 0 0 (W4.of (addB (fun _ => false) 97)) (.slice none 0 0))) := xAK
  have AW : Hid (U.heap[(Y.heap.size + 1)]? = some (rxo 4 (a : Int) (b : Int) 0 W4.z (.slice (some ⟨Y.heap.size, 0, none⟩) 1 1))) := xAW
  have K4 : Hid (Kp w U) := xK4
  have Z4 : Hid (∃ mz, U.cell? ⟨0, 0, none⟩ = some (.int .i64 mz)) := xZ4
  clear xAK xAW xK4 xZ4
  have K3s := hid K3.out.size
  clear K3 Z3
  go_cut [15] (fun v wc => v = .bool (rMay false a b) ∧ wc = U)
  case first =>
    by_cases c1 : a ≤ b
    · have c1i : (a : Int) ≤ (b : Int) := by omega
      by_cases c2 : b ≤ 20
      · have c2i : (b : Int) ≤ 20 := by omega
        by_cases c3 : 1 ≤ b
        · have c3i : (1 : Int) ≤ (b : Int) := by omega
          have R : Hid (rMay false a b = true) := by show _ = _; unfold rMay; simp [c1, c2, c3]
          go_wp2_with fail
          go_meet
          case rel => exact ⟨by rw [R.out], rfl⟩
        · have c3i : ¬ (1 : Int) ≤ (b : Int) := by omega
          have R : Hid (rMay false a b = false) := by show _ = _; unfold rMay; simp [c1, c2]; omega
          go_wp2_with fail
          go_meet
          case rel => exact ⟨by rw [R.out], rfl⟩
      · have c2i : ¬ (b : Int) ≤ 20 := by omega
        have R : Hid (rMay false a b = false) := by show _ = _; unfold rMay; simp [c1]; omega
        go_wp2_with fail
        go_meet
        case rel => exact ⟨by rw [R.out], rfl⟩
    · have c1i : ¬ (a : Int) ≤ (b : Int) := by omega
      have R : Hid (rMay false a b = false) := by show _ = _; unfold rMay; simp [c1]
      go_wp2_with fail
      go_meet
      case rel => exact ⟨by rw [R.out], rfl⟩
  case rest =>
  obtain ⟨rfl, rfl⟩ := hcut
  obtain ⟨M, hM⟩ : ∃ M, rMay false a b = M := ⟨_, rfl⟩
  rw [hM]
  have HM := hid hM
  clear hM
  go_wp2_with fail
  rw [← ET.out]
  refine (PA1.out _ Z4.out).mono ?_
  rintro en V1 ⟨k1, mn1, mx1, m1, s1, ad1, l1, c1, rfl, pd1, kv1⟩
  have KV1 := hid kv1
  have PD1 := hid pd1
  have hsv1 := kv1.size
  clear kv1 pd1
  go_upto_region 11 with fail
  refine opq (fun U1 => U1.heap[V1.heap.size]? = some (rxo k1 mn1 mx1 m1 s1 (.slice ad1 l1 c1)) ∧ Pd U1 T1 k1 mn1 mx1 m1 s1 ad1 l1 c1 ∧ U1.heap[Y.heap.size]? = some (rxo 1 0 0 0 (W4.of (addB (fun _ => false) 97)) (.slice none 0 0)) ∧ U1.heap[(Y.heap.size + 1)]? = some (rxo 4 (a : Int) (b : Int) 0 W4.z (.slice (some ⟨Y.heap.size, 0, none⟩) 1 1)) ∧ Kp w U1 ∧ ∃ mz, U1.cell? ⟨0, 0, none⟩ = some (.int .i64 mz)) ⟨by (first | exact last_at _ _ _ (by simp) | (refine bl_alloc ?_ _; first | exact last_at _ _ _ (by simp) | (refine bl_alloc ?_ _; first | exact last_at _ _ _ (by simp) | (refine bl_alloc ?_ _; exact last_at _ _ _ (by simp))))), by exact PD1.out.kp (by repeat (first | exact Kp.refl _ | refine Kp.alloc ?_ _ | refine Kp.drew ?_ | refine Kp.drewN _ ?_)), by exact bl_kp AK.out (KV1.out.trans (by repeat (first | exact Kp.refl _ | refine Kp.alloc ?_ _ | refine Kp.drew ?_ | refine Kp.drewN _ ?_))), by exact bl_kp AW.out (KV1.out.trans (by repeat (first | exact Kp.refl _ | refine Kp.alloc ?_ _ | refine Kp.drew ?_ | refine Kp.drewN _ ?_))), by exact K4.out.trans (KV1.out.trans (by repeat (first | exact Kp.refl _ | refine Kp.alloc ?_ _ | refine Kp.drew ?_ | refine Kp.drewN _ ?_))), by exact cell0 Z4.out (KV1.out.trans (by repeat (first | exact Kp.refl _ | refine Kp.alloc ?_ _ | refine Kp.drew ?_ | refine Kp.drewN _ ?_)))⟩ ?_
  rintro U1 ⟨xA1, xPD1x, xAKx, xAWx, xK5, xZ5⟩
  have A1 : Hid (U1.heap[V1.heap.size]? = some (rxo k1 mn1 mx1 m1 s1 (.slice ad1 l1 c1))) := xA1
  have PD1x : Hid (Pd U1 T1 k1 mn1 mx1 m1 s1 ad1 l1 c1) := xPD1x
  have AKx : Hid (U1.heap[Y.heap.size]? = some (rxo 1 0 0 0 (W4.of (addB (fun _ => false) 97)) (.slice none 0 0))) := xAKx
  have AWx : Hid (U1.heap[(Y.heap.size + 1)]? = some (rxo 4 (a : Int) (b : Int) 0 W4.z (.slice (some ⟨Y.heap.size, 0, none⟩) 1 1))) := xAWx
  have K5 : Hid (Kp w U1) := xK5
  have Z5 : Hid (∃ mz, U1.cell? ⟨0, 0, none⟩ = some (.int .i64 mz)) := xZ5
  clear xA1 xPD1x xAKx xAWx xK5 xZ5
  clear PD1 KV1 K4 Z4 AK AW
  have WI := hid (want_is (a : Int) (b : Int) AKx.out)
  go_cut [110] (fun v wc => v = .bool false ∧ Kp U1 wc)
  case first =>
    cases M with
    | true =>
      obtain ⟨he1, hsm, hrt, hok⟩ := F1.out.yes HM.out
      subst he1
      have KS := hid (fun w' (q : Kp U1 w') => (ksame_any T1 (fit_of_ok _ hok)).all (rW false a b) _ _ w' _ _ (PD1x.out.is.kp q) (WI.out.kp q))
      have RI := hid (fun w' (q : Kp U1 w') => Right_any T1 false _ k1 mn1 mx1 m1 s1 ad1 l1 c1 w' hok (PD1x.out.is.kp q))
      rw [hsm] at KS
      rw [hrt] at RI
      clear hsm hrt hok F1
      have p0 := bl_cell (A1.out) 0 _ rfl
      have p1 := bl_cell (A1.out) 1 _ rfl
      have p2 := bl_cell (A1.out) 2 _ rfl
      have p3 := bl_cell (A1.out) 3 _ rfl
      have p4 := bl_cell (A1.out) 4 _ rfl
      have p5 := bl_cell (A1.out) 5 _ rfl
      have p6 := bl_cell (A1.out) 6 _ rfl
      have p7 := bl_cell (A1.out) 7 _ rfl
      have p8 := bl_cell (A1.out) 8 _ rfl
      have r0 := bl_cell (AWx.out) 0 _ rfl
      have r1 := bl_cell (AWx.out) 1 _ rfl
      have r2 := bl_cell (AWx.out) 2 _ rfl
      have r3 := bl_cell (AWx.out) 3 _ rfl
      have r4 := bl_cell (AWx.out) 4 _ rfl
      have r5 := bl_cell (AWx.out) 5 _ rfl
      have r6 := bl_cell (AWx.out) 6 _ rfl
      have r7 := bl_cell (AWx.out) 7 _ rfl
      have r8 := bl_cell (AWx.out) 8 _ rfl
      go_wp2_with fail
      refine (KS.out _ (Kp.refl _)).mono ?_
      rintro e Y6 ⟨rfl, y6⟩
      have KY := hid y6
      clear y6 p0 p1 p2 p3 p4 p5 p6 p7 p8 r0 r1 r2 r3 r4 r5 r6 r7 r8
      have AY := hid (bl_kp A1.out KY.out)
      have p0 := bl_cell (AY.out) 0 _ rfl
      have p1 := bl_cell (AY.out) 1 _ rfl
      have p2 := bl_cell (AY.out) 2 _ rfl
      have p3 := bl_cell (AY.out) 3 _ rfl
      have p4 := bl_cell (AY.out) 4 _ rfl
      have p5 := bl_cell (AY.out) 5 _ rfl
      have p6 := bl_cell (AY.out) 6 _ rfl
      have p7 := bl_cell (AY.out) 7 _ rfl
      have p8 := bl_cell (AY.out) 8 _ rfl
      go_wp2_with fail
      refine (RI.out _ KY.out).mono ?_
      rintro e Y7 ⟨rfl, y7⟩
      have KY2 := hid (KY.out.trans y7)
      clear y7 p0 p1 p2 p3 p4 p5 p6 p7 p8
      go_wp2_with fail
      go_meet
      case rel => exact ⟨rfl, KY2.out⟩
    | false =>
      have he1 := F1.out.no HM.out
      subst he1
      go_wp2_with fail
      go_meet
      case rel => exact ⟨rfl, Kp.refl _⟩
  case rest =>
  obtain ⟨rfl, k6⟩ := hcut
  rename World => W6
  have K1 := hid (K5.out.trans k6)
  have Z1 := hid (cell0 Z5.out k6)
  clear k6 K5 Z5 A1 PD1x AKx AWx WI F1
  go_wp2_with fail
  refine (PA2.out _ Z1.out).mono ?_
  rintro en V2 ⟨k2, mn2, mx2, m2, s2, ad2, l2, c2, rfl, pd2, kv2⟩
  have KV2 := hid kv2
  have PD2 := hid pd2
  have hsv2 := kv2.size
  clear kv2 pd2
  go_upto_region 14 with fail
  refine opq (fun U2 => U2.heap[V2.heap.size]? = some (rxo k2 mn2 mx2 m2 s2 (.slice ad2 l2 c2)) ∧ Pd U2 T2 k2 mn2 mx2 m2 s2 ad2 l2 c2 ∧ Kp w U2 ∧ ∃ mz, U2.cell? ⟨0, 0, none⟩ = some (.int .i64 mz)) ⟨by (first | exact last_at _ _ _ (by simp) | (refine bl_alloc ?_ _; first | exact last_at _ _ _ (by simp) | (refine bl_alloc ?_ _; first | exact last_at _ _ _ (by simp) | (refine bl_alloc ?_ _; exact last_at _ _ _ (by simp))))), by exact PD2.out.kp (by repeat (first | exact Kp.refl _ | refine Kp.alloc ?_ _ | refine Kp.drew ?_ | refine Kp.drewN _ ?_)), by exact K1.out.trans (KV2.out.trans (by repeat (first | exact Kp.refl _ | refine Kp.alloc ?_ _ | refine Kp.drew ?_ | refine Kp.drewN _ ?_))), by exact cell0 Z1.out (KV2.out.trans (by repeat (first | exact Kp.refl _ | refine Kp.alloc ?_ _ | refine Kp.drew ?_ | refine Kp.drewN _ ?_)))⟩ ?_
  rintro U2 ⟨xA2x, xPD2x, xK2, xZ2⟩
  have A2x : Hid (U2.heap[V2.heap.size]? = some (rxo k2 mn2 mx2 m2 s2 (.slice ad2 l2 c2))) := xA2x
  have PD2x : Hid (Pd U2 T2 k2 mn2 mx2 m2 s2 ad2 l2 c2) := xPD2x
  have K2 : Hid (Kp w U2) := xK2
  have Z2 : Hid (∃ mz, U2.cell? ⟨0, 0, none⟩ = some (.int .i64 mz)) := xZ2
  clear xA2x xPD2x xK2 xZ2
  clear PD2 KV2  K1 Z1
  have A2 := A2x
  have PD2 := PD2x
  clear A2x PD2x
  go_wp2_with fail
  refine (PA3.out _ Z2.out).mono ?_
  rintro en V3 ⟨k3, mn3, mx3, m3, s3, ad3, l3, c3, rfl, pd3, kv3⟩
  have KV3 := hid kv3
  have PD3 := hid pd3
  have hsv3 := kv3.size
  clear kv3 pd3
  go_upto_region 15 with fail
  refine opq (fun U3 => U3.heap[V3.heap.size]? = some (rxo k3 mn3 mx3 m3 s3 (.slice ad3 l3 c3)) ∧ Pd U3 T3 k3 mn3 mx3 m3 s3 ad3 l3 c3 ∧ Kp w U3 ∧ ∃ mz, U3.cell? ⟨0, 0, none⟩ = some (.int .i64 mz)) ⟨by (first | exact last_at _ _ _ (by simp) | (refine bl_alloc ?_ _; first | exact last_at _ _ _ (by simp) | (refine bl_alloc ?_ _; first | exact last_at _ _ _ (by simp) | (refine bl_alloc ?_ _; exact last_at _ _ _ (by simp))))), by exact PD3.out.kp (by repeat (first | exact Kp.refl _ | refine Kp.alloc ?_ _ | refine Kp.drew ?_ | refine Kp.drewN _ ?_)), by exact K2.out.trans (KV3.out.trans (by repeat (first | exact Kp.refl _ | refine Kp.alloc ?_ _ | refine Kp.drew ?_ | refine Kp.drewN _ ?_))), by exact cell0 Z2.out (KV3.out.trans (by repeat (first | exact Kp.refl _ | refine Kp.alloc ?_ _ | refine Kp.drew ?_ | refine Kp.drewN _ ?_)))⟩ ?_
  rintro U3 ⟨xA3x, xPD3x, xK3, xZ3⟩
  have A3x : Hid (U3.heap[V3.heap.size]? = some (rxo k3 mn3 mx3 m3 s3 (.slice ad3 l3 c3))) := xA3x
  have PD3x : Hid (Pd U3 T3 k3 mn3 mx3 m3 s3 ad3 l3 c3) := xPD3x
  have K3 : Hid (Kp w U3) := xK3
  have Z3 : Hid (∃ mz, U3.cell? ⟨0, 0, none⟩ = some (.int .i64 mz)) := xZ3
  clear xA3x xPD3x xK3 xZ3
  clear PD3 KV3  K2 Z2
  have A3 := A3x
  have PD3 := PD3x
  clear A3x PD3x
  clear A2 PD2
  go_wp2_with fail
  refine (PA4.out _ Z3.out).mono ?_
  rintro en V4 ⟨k4, mn4, mx4, m4, s4, ad4, l4, c4, rfl, pd4, kv4⟩
  have KV4 := hid kv4
  have PD4 := hid pd4
  have hsv4 := kv4.size
  clear kv4 pd4
  go_upto_region 16 with fail
  refine opq (fun U4 => U4.heap[V4.heap.size]? = some (rxo k4 mn4 mx4 m4 s4 (.slice ad4 l4 c4)) ∧ Pd U4 T4 k4 mn4 mx4 m4 s4 ad4 l4 c4 ∧ Kp w U4 ∧ ∃ mz, U4.cell? ⟨0, 0, none⟩ = some (.int .i64 mz)) ⟨by (first | exact last_at _ _ _ (by simp) | (refine bl_alloc ?_ _; first | exact last_at _ _ _ (by simp) | (refine bl_alloc ?_ _; first | exact last_at _ _ _ (by simp) | (refine bl_alloc ?_ _; exact last_at _ _ _ (by simp))))), by exact PD4.out.kp (by repeat (first | exact Kp.refl _ | refine Kp.alloc ?_ _ | refine Kp.drew ?_ | refine Kp.drewN _ ?_)), by exact K3.out.trans (KV4.out.trans (by repeat (first | exact Kp.refl _ | refine Kp.alloc ?_ _ | refine Kp.drew ?_ | refine Kp.drewN _ ?_))), by exact cell0 Z3.out (KV4.out.trans (by repeat (first | exact Kp.refl _ | refine Kp.alloc ?_ _ | refine Kp.drew ?_ | refine Kp.drewN _ ?_)))⟩ ?_
  rintro U4 ⟨xA4x, xPD4x, xK4, xZ4⟩
  have A4x : Hid (U4.heap[V4.heap.size]? = some (rxo k4 mn4 mx4 m4 s4 (.slice ad4 l4 c4))) := xA4x
  have PD4x : Hid (Pd U4 T4 k4 mn4 mx4 m4 s4 ad4 l4 c4) := xPD4x
  have K4 : Hid (Kp w U4) := xK4
  have Z4 : Hid (∃ mz, U4.cell? ⟨0, 0, none⟩ = some (.int .i64 mz)) := xZ4
  clear xA4x xPD4x xK4 xZ4
  clear PD4 KV4  K3 Z3
  have A4 := A4x
  have PD4 := PD4x
  clear A4x PD4x
  clear A3 PD3
  go_wp2_with fail
  refine (PA5.out _ Z4.out).mono ?_
  rintro en V5 ⟨k5, mn5, mx5, m5, s5, ad5, l5, c5, rfl, pd5, kv5⟩
  have KV5 := hid kv5
  have PD5 := hid pd5
  have hsv5 := kv5.size
  clear kv5 pd5
  go_upto_region 17 with fail
  refine opq (fun U5 => U5.heap[V5.heap.size]? = some (rxo k5 mn5 mx5 m5 s5 (.slice ad5 l5 c5)) ∧ Pd U5 T5 k5 mn5 mx5 m5 s5 ad5 l5 c5 ∧ Kp w U5 ∧ ∃ mz, U5.cell? ⟨0, 0, none⟩ = some (.int .i64 mz)) ⟨by (first | exact last_at _ _ _ (by simp) | (refine bl_alloc ?_ _; first | exact last_at _ _ _ (by simp) | (refine bl_alloc ?_ _; first | exact last_at _ _ _ (by simp) | (refine bl_alloc ?_ _; exact last_at _ _ _ (by simp))))), by exact PD5.out.kp (by repeat (first | exact Kp.refl _ | refine Kp.alloc ?_ _ | refine Kp.drew ?_ | refine Kp.drewN _ ?_)), by exact K4.out.trans (KV5.out.trans (by repeat (first | exact Kp.refl _ | refine Kp.alloc ?_ _ | refine Kp.drew ?_ | refine Kp.drewN _ ?_))), by exact cell0 Z4.out (KV5.out.trans (by repeat (first | exact Kp.refl _ | refine Kp.alloc ?_ _ | refine Kp.drew ?_ | refine Kp.drewN _ ?_)))⟩ ?_
  rintro U5 ⟨xA5x, xPD5x, xK5, xZ5⟩
  have A5x : Hid (U5.heap[V5.heap.size]? = some (rxo k5 mn5 mx5 m5 s5 (.slice ad5 l5 c5))) := xA5x
  have PD5x : Hid (Pd U5 T5 k5 mn5 mx5 m5 s5 ad5 l5 c5) := xPD5x
  have K5 : Hid (Kp w U5) := xK5
  have Z5 : Hid (∃ mz, U5.cell? ⟨0, 0, none⟩ = some (.int .i64 mz)) := xZ5
  clear xA5x xPD5x xK5 xZ5
  clear PD5 KV5  K4 Z4
  have A5 := A5x
  have PD5 := PD5x
  clear A5x PD5x
  go_wp2_with fail
  refine (runs_any _ Z5.out).mono ?_
  rintro e Y9 ⟨rfl, y9⟩
  have KY9 := hid (K5.out.trans y9)
  clear y9
  go_wp2_with fail
  go_ret
  exact ⟨rfl, KY9.out⟩

set_option maxHeartbeats 4000000 in
set_option maxRecDepth 100000 in
theorem reps_tt (lo hi : Int) (w : World) (h0 : ∃ m, w.cell? ⟨0, 0, none⟩ = some (.int .i64 m)) :
    Calls Tryz.prog 3 #[.int .i64 lo, .int .i64 hi, .bool true, .bool true] w fun e w' => e = .returned (.bool true) ∧ Kp w w' := by
  have Z0 := hid h0
  clear h0
  obtain ⟨a, ha, ha25⟩ : ∃ k : Nat, wit lo 0 25 = (k : Int) ∧ k ≤ 25 := ⟨(wit lo 0 25).toNat, by have := wit_le lo 0 25 (by omega); omega, by have := wit_le lo 0 25 (by omega); omega⟩
  obtain ⟨b, hb, hb25⟩ : ∃ k : Nat, wit hi 0 25 = (k : Int) ∧ k ≤ 25 := ⟨(wit hi 0 25).toNat, by have := wit_le hi 0 25 (by omega); omega, by have := wit_le hi 0 25 (by omega); omega⟩
  have W1 := hid (fun w => within_any lo 0 25 w (by omega) (by omega) (by omega))
  have W2 := hid (fun w => within_any hi 0 25 w (by omega) (by omega) (by omega))
  rw [ha] at W1
  rw [hb] at W2
  clear ha hb
  have N1 := hid (fun w => num_any a (by omega) w)
  have N2 := hid (fun w => num_any b (by omega) w)
  have hd1 : (bs (dec a)).size ≤ 10 := by rw [bs_size]; have := dec_len a (by omega); omega
  have hd2 : (bs (dec b)).size ≤ 10 := by rw [bs_size]; have := dec_len b (by omega); omega
  have HF := hid (fun T n e => rp_of true true a b (by omega) (by omega) T n e)
  have ET : Hid (rT true true a b = ⟨#[97]⟩ ++ ⟨#[123]⟩ ++ bs (dec a) ++ ⟨#[44]⟩ ++ ⟨#[125]⟩) := rfl
  have hsz : (rT true true a b).size ≤ 100 := rT_sz _ _ _ _ (by omega) (by omega)
  obtain ⟨S, hS⟩ : ∃ S, rT true true a b = S := ⟨_, rfl⟩
  rw [hS] at HF ET hsz
  clear hS
  obtain ⟨D1, hD1⟩ : ∃ D, bs (dec a) = D := ⟨_, rfl⟩
  obtain ⟨D2, hD2⟩ : ∃ D, bs (dec b) = D := ⟨_, rfl⟩
  rw [hD1] at N1 hd1 ET
  rw [hD2] at N2 hd2
  clear hD1 hD2
  obtain ⟨T1, n1, e1, hp1⟩ : ∃ T n e, pParse S true = (T, n, e) := ⟨_, _, _, rfl⟩
  have F1 := hid (HF.out _ _ _ hp1)
  have PA1 := hid (parse_at S true T1 n1 e1 (by omega) hp1)
  clear hp1 HF
  obtain ⟨X1, X2, X3, X4⟩ := rx4
  obtain ⟨T2, n2, hp2⟩ := X1 true
  obtain ⟨T3, n3, hp3⟩ := X2
  obtain ⟨T4, n4, hp4⟩ := X3
  obtain ⟨T5, n5, hp5⟩ := X4
  have PA2 := hid (parse_at ⟨#[97, 42, 42]⟩ true T2 n2 1 (by decide) hp2)
  have PA3 := hid (parse_at ⟨#[40, 97]⟩ true T3 n3 1 (by decide) hp3)
  have PA4 := hid (parse_at ⟨#[97, 41]⟩ true T4 n4 1 (by decide) hp4)
  have PA5 := hid (parse_at ⟨#[92, 40, 97]⟩ false T5 n5 1 (by decide) hp5)
  clear X1 hp2 hp3 hp4 hp5
  go_enter Tryz.func3, Tryz.ntmps3
  go_wp2_with fail
  refine (W1.out _).mono ?_
  rintro e w ⟨rfl, rfl⟩
  go_wp2_with fail
  refine (W2.out _).mono ?_
  rintro e w ⟨rfl, rfl⟩
  go_wp2_with fail
  refine (N1.out _).mono ?_
  rintro e Y1 ⟨rfl, y1⟩
  have K1 := hid y1
  clear y1
  go_wp2_with fail
  refine (N2.out _).mono ?_
  rintro e Y2 ⟨rfl, y2⟩
  have K2 := hid (K1.out.trans y2)
  clear y2 K1
  go_wp2_with fail
  refine (of_one 97 _ _ (by simp) (by omega)).mono ?_
  rintro e Y ⟨rfl, y3⟩
  have K3 := hid (K2.out.trans y3)
  have Z3 := hid (cell0 Z0.out K3.out)
  have ZW := Z0
  clear y3 K2 Z0
  go_upto_region 7 with fail
  refine opq (fun U => U.heap[Y.heap.size]? = some (rxo 1 0 0 0 (W4.of (addB (fun _ => false) 97)) (.slice none 0 0)) ∧ U.heap[(Y.heap.size + 1)]? = some (rxo 4 (a : Int) (b : Int) 0 W4.z (.slice (some ⟨Y.heap.size, 0, none⟩) 1 1)) ∧ Kp w U ∧ ∃ mz, U.cell? ⟨0, 0, none⟩ = some (.int .i64 mz)) ⟨by exact bl_alloc (last_of _ _) _, by exact last_at _ _ _ (by simp), by exact K3.out.trans (by repeat (first | exact Kp.refl _ | refine Kp.alloc ?_ _ | refine Kp.drew ?_ | refine Kp.drewN _ ?_)), by exact cell0 Z3.out (by repeat (first | exact Kp.refl _ | refine Kp.alloc ?_ _ | refine Kp.drew ?_ | refine Kp.drewN _ ?_))⟩ ?_
  rintro U ⟨xAK, xAW, xK4, xZ4⟩
  have AK : Hid (U.heap[Y.heap.size]? = some (rxo 1 0 0 0 (W4.of (addB (fun _ => false) 97)) (.slice none 0 0))) := xAK
  have AW : Hid (U.heap[(Y.heap.size + 1)]? = some (rxo 4 (a : Int) (b : Int) 0 W4.z (.slice (some ⟨Y.heap.size, 0, none⟩) 1 1))) := xAW
  have K4 : Hid (Kp w U) := xK4
  have Z4 : Hid (∃ mz, U.cell? ⟨0, 0, none⟩ = some (.int .i64 mz)) := xZ4
  clear xAK xAW xK4 xZ4
  have K3s := hid K3.out.size
  clear K3 Z3
  go_cut [15] (fun v wc => v = .bool (rMay false a b) ∧ wc = U)
  case first =>
    by_cases c1 : a ≤ b
    · have c1i : (a : Int) ≤ (b : Int) := by omega
      by_cases c2 : b ≤ 20
      · have c2i : (b : Int) ≤ 20 := by omega
        by_cases c3 : 1 ≤ b
        · have c3i : (1 : Int) ≤ (b : Int) := by omega
          have R : Hid (rMay false a b = true) := by show _ = _; unfold rMay; simp [c1, c2, c3]
          go_wp2_with fail
          go_meet
          case rel => exact ⟨by rw [R.out], rfl⟩
        · have c3i : ¬ (1 : Int) ≤ (b : Int) := by omega
          have R : Hid (rMay false a b = false) := by show _ = _; unfold rMay; simp [c1, c2]; omega
          go_wp2_with fail
          go_meet
          case rel => exact ⟨by rw [R.out], rfl⟩
      · have c2i : ¬ (b : Int) ≤ 20 := by omega
        have R : Hid (rMay false a b = false) := by show _ = _; unfold rMay; simp [c1]; omega
        go_wp2_with fail
        go_meet
        case rel => exact ⟨by rw [R.out], rfl⟩
    · have c1i : ¬ (a : Int) ≤ (b : Int) := by omega
      have R : Hid (rMay false a b = false) := by show _ = _; unfold rMay; simp [c1]
      go_wp2_with fail
      go_meet
      case rel => exact ⟨by rw [R.out], rfl⟩
  case rest =>
  obtain ⟨rfl, rfl⟩ := hcut
  obtain ⟨M0, hM0⟩ : ∃ M, rMay false a b = M := ⟨_, rfl⟩
  rw [hM0]
  clear hM0
  go_wp2_with fail
  refine (N1.out _).mono ?_
  rintro e Y5 ⟨rfl, y5⟩
  have AK' := hid (bl_kp AK.out y5)
  have AW' := hid (bl_kp AW.out y5)
  have K4' := hid (K4.out.trans y5)
  have Z4' := hid (cell0 Z4.out y5)
  clear AK AW K4 Z4 y5
  have mz := bl_frozen AW'.out 2
  have cz := bl_cell AW'.out 2 _ rfl
  obtain ⟨M, hM⟩ : ∃ M, rMay true a b = M := ⟨_, rfl⟩
  have HM := hid hM
  have HMd : decide ((a : Int) ≤ 20) = M := by rw [← hM]; unfold rMay; rw [if_pos rfl]; rw [Bool.eq_iff_iff]; simp; omega
  clear hM
  go_upto_region 10 with fail
  refine opq (fun U5 => U5.heap[Y.heap.size]? = some (rxo 1 0 0 0 (W4.of (addB (fun _ => false) 97)) (.slice none 0 0)) ∧ U5.heap[(Y.heap.size + 1)]? = some (rxo 4 (a : Int) (-1) 0 W4.z (.slice (some ⟨Y.heap.size, 0, none⟩) 1 1)) ∧ Kp w U5 ∧ ∃ mz, U5.cell? ⟨0, 0, none⟩ = some (.int .i64 mz)) ⟨by exact bl_set AK'.out (by omega) _, by exact bl_put AW'.out _, by exact (Ks.set (Ks.refl _ _) 2 _).up K4'.out (by have := K3s.out; omega), by exact cell0 ZW.out ((Ks.set (Ks.refl _ _) 2 _).up K4'.out (by have := K3s.out; omega))⟩ ?_
  rintro U5 ⟨xAK, xAW, xK4, xZ4⟩
  have AK : Hid (U5.heap[Y.heap.size]? = some (rxo 1 0 0 0 (W4.of (addB (fun _ => false) 97)) (.slice none 0 0))) := xAK
  have AW : Hid (U5.heap[(Y.heap.size + 1)]? = some (rxo 4 (a : Int) (-1) 0 W4.z (.slice (some ⟨Y.heap.size, 0, none⟩) 1 1))) := xAW
  have K4 : Hid (Kp w U5) := xK4
  have Z4 : Hid (∃ mz, U5.cell? ⟨0, 0, none⟩ = some (.int .i64 mz)) := xZ4
  clear xAK xAW xK4 xZ4
  clear AK' AW' K4' Z4' mz cz
  go_wp2_with fail
  rw [← ET.out]
  refine (PA1.out _ Z4.out).mono ?_
  rintro en V1 ⟨k1, mn1, mx1, m1, s1, ad1, l1, c1, rfl, pd1, kv1⟩
  have KV1 := hid kv1
  have PD1 := hid pd1
  have hsv1 := kv1.size
  clear kv1 pd1
  go_upto_region 11 with fail
  refine opq (fun U1 => U1.heap[V1.heap.size]? = some (rxo k1 mn1 mx1 m1 s1 (.slice ad1 l1 c1)) ∧ Pd U1 T1 k1 mn1 mx1 m1 s1 ad1 l1 c1 ∧ U1.heap[Y.heap.size]? = some (rxo 1 0 0 0 (W4.of (addB (fun _ => false) 97)) (.slice none 0 0)) ∧ U1.heap[(Y.heap.size + 1)]? = some (rxo 4 (a : Int) (-1) 0 W4.z (.slice (some ⟨Y.heap.size, 0, none⟩) 1 1)) ∧ Kp w U1 ∧ ∃ mz, U1.cell? ⟨0, 0, none⟩ = some (.int .i64 mz)) ⟨by (first | exact last_at _ _ _ (by simp) | (refine bl_alloc ?_ _; first | exact last_at _ _ _ (by simp) | (refine bl_alloc ?_ _; first | exact last_at _ _ _ (by simp) | (refine bl_alloc ?_ _; exact last_at _ _ _ (by simp))))), by exact PD1.out.kp (by repeat (first | exact Kp.refl _ | refine Kp.alloc ?_ _ | refine Kp.drew ?_ | refine Kp.drewN _ ?_)), by exact bl_kp AK.out (KV1.out.trans (by repeat (first | exact Kp.refl _ | refine Kp.alloc ?_ _ | refine Kp.drew ?_ | refine Kp.drewN _ ?_))), by exact bl_kp AW.out (KV1.out.trans (by repeat (first | exact Kp.refl _ | refine Kp.alloc ?_ _ | refine Kp.drew ?_ | refine Kp.drewN _ ?_))), by exact K4.out.trans (KV1.out.trans (by repeat (first | exact Kp.refl _ | refine Kp.alloc ?_ _ | refine Kp.drew ?_ | refine Kp.drewN _ ?_))), by exact cell0 Z4.out (KV1.out.trans (by repeat (first | exact Kp.refl _ | refine Kp.alloc ?_ _ | refine Kp.drew ?_ | refine Kp.drewN _ ?_)))⟩ ?_
  rintro U1 ⟨xA1, xPD1x, xAKx, xAWx, xK5, xZ5⟩
  have A1 : Hid (U1.heap[V1.heap.size]? = some (rxo k1 mn1 mx1 m1 s1 (.slice ad1 l1 c1))) := xA1
  have PD1x : Hid (Pd U1 T1 k1 mn1 mx1 m1 s1 ad1 l1 c1) := xPD1x
  have AKx : Hid (U1.heap[Y.heap.size]? = some (rxo 1 0 0 0 (W4.of (addB (fun _ => false) 97)) (.slice none 0 0))) := xAKx
  have AWx : Hid (U1.heap[(Y.heap.size + 1)]? = some (rxo 4 (a : Int) (-1) 0 W4.z (.slice (some ⟨Y.heap.size, 0, none⟩) 1 1))) := xAWx
  have K5 : Hid (Kp w U1) := xK5
  have Z5 : Hid (∃ mz, U1.cell? ⟨0, 0, none⟩ = some (.int .i64 mz)) := xZ5
  clear xA1 xPD1x xAKx xAWx xK5 xZ5
  clear PD1 KV1 K4 Z4 AK AW
  have WI := hid (want_is (a : Int) (-1) AKx.out)
  go_cut [110] (fun v wc => v = .bool false ∧ Kp U1 wc)
  case first =>
    cases M with
    | true =>
      obtain ⟨he1, hsm, hrt, hok⟩ := F1.out.yes HM.out
      subst he1
      have KS := hid (fun w' (q : Kp U1 w') => (ksame_any T1 (fit_of_ok _ hok)).all (rW true a b) _ _ w' _ _ (PD1x.out.is.kp q) (WI.out.kp q))
      have RI := hid (fun w' (q : Kp U1 w') => Right_any T1 true _ k1 mn1 mx1 m1 s1 ad1 l1 c1 w' hok (PD1x.out.is.kp q))
      rw [hsm] at KS
      rw [hrt] at RI
      clear hsm hrt hok F1
      have p0 := bl_cell (A1.out) 0 _ rfl
      have p1 := bl_cell (A1.out) 1 _ rfl
      have p2 := bl_cell (A1.out) 2 _ rfl
      have p3 := bl_cell (A1.out) 3 _ rfl
      have p4 := bl_cell (A1.out) 4 _ rfl
      have p5 := bl_cell (A1.out) 5 _ rfl
      have p6 := bl_cell (A1.out) 6 _ rfl
      have p7 := bl_cell (A1.out) 7 _ rfl
      have p8 := bl_cell (A1.out) 8 _ rfl
      have r0 := bl_cell (AWx.out) 0 _ rfl
      have r1 := bl_cell (AWx.out) 1 _ rfl
      have r2 := bl_cell (AWx.out) 2 _ rfl
      have r3 := bl_cell (AWx.out) 3 _ rfl
      have r4 := bl_cell (AWx.out) 4 _ rfl
      have r5 := bl_cell (AWx.out) 5 _ rfl
      have r6 := bl_cell (AWx.out) 6 _ rfl
      have r7 := bl_cell (AWx.out) 7 _ rfl
      have r8 := bl_cell (AWx.out) 8 _ rfl
      go_wp2_with fail
      refine (KS.out _ (Kp.refl _)).mono ?_
      rintro e Y6 ⟨rfl, y6⟩
      have KY := hid y6
      clear y6 p0 p1 p2 p3 p4 p5 p6 p7 p8 r0 r1 r2 r3 r4 r5 r6 r7 r8
      have AY := hid (bl_kp A1.out KY.out)
      have p0 := bl_cell (AY.out) 0 _ rfl
      have p1 := bl_cell (AY.out) 1 _ rfl
      have p2 := bl_cell (AY.out) 2 _ rfl
      have p3 := bl_cell (AY.out) 3 _ rfl
      have p4 := bl_cell (AY.out) 4 _ rfl
      have p5 := bl_cell (AY.out) 5 _ rfl
      have p6 := bl_cell (AY.out) 6 _ rfl
      have p7 := bl_cell (AY.out) 7 _ rfl
      have p8 := bl_cell (AY.out) 8 _ rfl
      go_wp2_with fail
      refine (RI.out _ KY.out).mono ?_
      rintro e Y7 ⟨rfl, y7⟩
      have KY2 := hid (KY.out.trans y7)
      clear y7 p0 p1 p2 p3 p4 p5 p6 p7 p8
      go_wp2_with fail
      go_meet
      case rel => exact ⟨rfl, KY2.out⟩
    | false =>
      have he1 := F1.out.no HM.out
      subst he1
      go_wp2_with fail
      go_meet
      case rel => exact ⟨rfl, Kp.refl _⟩
  case rest =>
  obtain ⟨rfl, k6⟩ := hcut
  rename World => W6
  have K1 := hid (K5.out.trans k6)
  have Z1 := hid (cell0 Z5.out k6)
  clear k6 K5 Z5 A1 PD1x AKx AWx WI F1
  go_wp2_with fail
  refine (PA2.out _ Z1.out).mono ?_
  rintro en V2 ⟨k2, mn2, mx2, m2, s2, ad2, l2, c2, rfl, pd2, kv2⟩
  have KV2 := hid kv2
  have PD2 := hid pd2
  have hsv2 := kv2.size
  clear kv2 pd2
  go_upto_region 14 with fail
  refine opq (fun U2 => U2.heap[V2.heap.size]? = some (rxo k2 mn2 mx2 m2 s2 (.slice ad2 l2 c2)) ∧ Pd U2 T2 k2 mn2 mx2 m2 s2 ad2 l2 c2 ∧ Kp w U2 ∧ ∃ mz, U2.cell? ⟨0, 0, none⟩ = some (.int .i64 mz)) ⟨by (first | exact last_at _ _ _ (by simp) | (refine bl_alloc ?_ _; first | exact last_at _ _ _ (by simp) | (refine bl_alloc ?_ _; first | exact last_at _ _ _ (by simp) | (refine bl_alloc ?_ _; exact last_at _ _ _ (by simp))))), by exact PD2.out.kp (by repeat (first | exact Kp.refl _ | refine Kp.alloc ?_ _ | refine Kp.drew ?_ | refine Kp.drewN _ ?_)), by exact K1.out.trans (KV2.out.trans (by repeat (first | exact Kp.refl _ | refine Kp.alloc ?_ _ | refine Kp.drew ?_ | refine Kp.drewN _ ?_))), by exact cell0 Z1.out (KV2.out.trans (by repeat (first | exact Kp.refl _ | refine Kp.alloc ?_ _ | refine Kp.drew ?_ | refine Kp.drewN _ ?_)))⟩ ?_
  rintro U2 ⟨xA2x, xPD2x, xK2, xZ2⟩
  have A2x : Hid (U2.heap[V2.heap.size]? = some (rxo k2 mn2 mx2 m2 s2 (.slice ad2 l2 c2))) := xA2x
  have PD2x : Hid (Pd U2 T2 k2 mn2 mx2 m2 s2 ad2 l2 c2) := xPD2x
  have K2 : Hid (Kp w U2) := xK2
  have Z2 : Hid (∃ mz, U2.cell? ⟨0, 0, none⟩ = some (.int .i64 mz)) := xZ2
  clear xA2x xPD2x xK2 xZ2
  clear PD2 KV2  K1 Z1
  have A2 := A2x
  have PD2 := PD2x
  clear A2x PD2x
  go_wp2_with fail
  refine (PA3.out _ Z2.out).mono ?_
  rintro en V3 ⟨k3, mn3, mx3, m3, s3, ad3, l3, c3, rfl, pd3, kv3⟩
  have KV3 := hid kv3
  have PD3 := hid pd3
  have hsv3 := kv3.size
  clear kv3 pd3
  go_upto_region 15 with fail
  refine opq (fun U3 => U3.heap[V3.heap.size]? = some (rxo k3 mn3 mx3 m3 s3 (.slice ad3 l3 c3)) ∧ Pd U3 T3 k3 mn3 mx3 m3 s3 ad3 l3 c3 ∧ Kp w U3 ∧ ∃ mz, U3.cell? ⟨0, 0, none⟩ = some (.int .i64 mz)) ⟨by (first | exact last_at _ _ _ (by simp) | (refine bl_alloc ?_ _; first | exact last_at _ _ _ (by simp) | (refine bl_alloc ?_ _; first | exact last_at _ _ _ (by simp) | (refine bl_alloc ?_ _; exact last_at _ _ _ (by simp))))), by exact PD3.out.kp (by repeat (first | exact Kp.refl _ | refine Kp.alloc ?_ _ | refine Kp.drew ?_ | refine Kp.drewN _ ?_)), by exact K2.out.trans (KV3.out.trans (by repeat (first | exact Kp.refl _ | refine Kp.alloc ?_ _ | refine Kp.drew ?_ | refine Kp.drewN _ ?_))), by exact cell0 Z2.out (KV3.out.trans (by repeat (first | exact Kp.refl _ | refine Kp.alloc ?_ _ | refine Kp.drew ?_ | refine Kp.drewN _ ?_)))⟩ ?_
  rintro U3 ⟨xA3x, xPD3x, xK3, xZ3⟩
  have A3x : Hid (U3.heap[V3.heap.size]? = some (rxo k3 mn3 mx3 m3 s3 (.slice ad3 l3 c3))) := xA3x
  have PD3x : Hid (Pd U3 T3 k3 mn3 mx3 m3 s3 ad3 l3 c3) := xPD3x
  have K3 : Hid (Kp w U3) := xK3
  have Z3 : Hid (∃ mz, U3.cell? ⟨0, 0, none⟩ = some (.int .i64 mz)) := xZ3
  clear xA3x xPD3x xK3 xZ3
  clear PD3 KV3  K2 Z2
  have A3 := A3x
  have PD3 := PD3x
  clear A3x PD3x
  clear A2 PD2
  go_wp2_with fail
  refine (PA4.out _ Z3.out).mono ?_
  rintro en V4 ⟨k4, mn4, mx4, m4, s4, ad4, l4, c4, rfl, pd4, kv4⟩
  have KV4 := hid kv4
  have PD4 := hid pd4
  have hsv4 := kv4.size
  clear kv4 pd4
  go_upto_region 16 with fail
  refine opq (fun U4 => U4.heap[V4.heap.size]? = some (rxo k4 mn4 mx4 m4 s4 (.slice ad4 l4 c4)) ∧ Pd U4 T4 k4 mn4 mx4 m4 s4 ad4 l4 c4 ∧ Kp w U4 ∧ ∃ mz, U4.cell? ⟨0, 0, none⟩ = some (.int .i64 mz)) ⟨by (first | exact last_at _ _ _ (by simp) | (refine bl_alloc ?_ _; first | exact last_at _ _ _ (by simp) | (refine bl_alloc ?_ _; first | exact last_at _ _ _ (by simp) | (refine bl_alloc ?_ _; exact last_at _ _ _ (by simp))))), by exact PD4.out.kp (by repeat (first | exact Kp.refl _ | refine Kp.alloc ?_ _ | refine Kp.drew ?_ | refine Kp.drewN _ ?_)), by exact K3.out.trans (KV4.out.trans (by repeat (first | exact Kp.refl _ | refine Kp.alloc ?_ _ | refine Kp.drew ?_ | refine Kp.drewN _ ?_))), by exact cell0 Z3.out (KV4.out.trans (by repeat (first | exact Kp.refl _ | refine Kp.alloc ?_ _ | refine Kp.drew ?_ | refine Kp.drewN _ ?_)))⟩ ?_
  rintro U4 ⟨xA4x, xPD4x, xK4, xZ4⟩
  have A4x : Hid (U4.heap[V4.heap.size]? = some (rxo k4 mn4 mx4 m4 s4 (.slice ad4 l4 c4))) := xA4x
  have PD4x : Hid (Pd U4 T4 k4 mn4 mx4 m4 s4 ad4 l4 c4) := xPD4x
  have K4 : Hid (Kp w U4) := xK4
  have Z4 : Hid (∃ mz, U4.cell? ⟨0, 0, none⟩ = some (.int .i64 mz)) := xZ4
  clear xA4x xPD4x xK4 xZ4
  clear PD4 KV4  K3 Z3
  have A4 := A4x
  have PD4 := PD4x
  clear A4x PD4x
  clear A3 PD3
  go_wp2_with fail
  refine (PA5.out _ Z4.out).mono ?_
  rintro en V5 ⟨k5, mn5, mx5, m5, s5, ad5, l5, c5, rfl, pd5, kv5⟩
  have KV5 := hid kv5
  have PD5 := hid pd5
  have hsv5 := kv5.size
  clear kv5 pd5
  go_upto_region 17 with fail
  refine opq (fun U5 => U5.heap[V5.heap.size]? = some (rxo k5 mn5 mx5 m5 s5 (.slice ad5 l5 c5)) ∧ Pd U5 T5 k5 mn5 mx5 m5 s5 ad5 l5 c5 ∧ Kp w U5 ∧ ∃ mz, U5.cell? ⟨0, 0, none⟩ = some (.int .i64 mz)) ⟨by (first | exact last_at _ _ _ (by simp) | (refine bl_alloc ?_ _; first | exact last_at _ _ _ (by simp) | (refine bl_alloc ?_ _; first | exact last_at _ _ _ (by simp) | (refine bl_alloc ?_ _; exact last_at _ _ _ (by simp))))), by exact PD5.out.kp (by repeat (first | exact Kp.refl _ | refine Kp.alloc ?_ _ | refine Kp.drew ?_ | refine Kp.drewN _ ?_)), by exact K4.out.trans (KV5.out.trans (by repeat (first | exact Kp.refl _ | refine Kp.alloc ?_ _ | refine Kp.drew ?_ | refine Kp.drewN _ ?_))), by exact cell0 Z4.out (KV5.out.trans (by repeat (first | exact Kp.refl _ | refine Kp.alloc ?_ _ | refine Kp.drew ?_ | refine Kp.drewN _ ?_)))⟩ ?_
  rintro U5 ⟨xA5x, xPD5x, xK5, xZ5⟩
  have A5x : Hid (U5.heap[V5.heap.size]? = some (rxo k5 mn5 mx5 m5 s5 (.slice ad5 l5 c5))) := xA5x
  have PD5x : Hid (Pd U5 T5 k5 mn5 mx5 m5 s5 ad5 l5 c5) := xPD5x
  have K5 : Hid (Kp w U5) := xK5
  have Z5 : Hid (∃ mz, U5.cell? ⟨0, 0, none⟩ = some (.int .i64 mz)) := xZ5
  clear xA5x xPD5x xK5 xZ5
  clear PD5 KV5  K4 Z4
  have A5 := A5x
  have PD5 := PD5x
  clear A5x PD5x
  go_wp2_with fail
  refine (runs_any _ Z5.out).mono ?_
  rintro e Y9 ⟨rfl, y9⟩
  have KY9 := hid (K5.out.trans y9)
  clear y9
  go_wp2_with fail
  go_ret
  exact ⟨rfl, KY9.out⟩

set_option maxHeartbeats 4000000 in
set_option maxRecDepth 100000 in
theorem reps_ft (lo hi : Int) (w : World) (h0 : ∃ m, w.cell? ⟨0, 0, none⟩ = some (.int .i64 m)) :
    Calls Tryz.prog 3 #[.int .i64 lo, .int .i64 hi, .bool true, .bool false] w fun e w' => e = .returned (.bool true) ∧ Kp w w' := by
  have Z0 := hid h0
  clear h0
  obtain ⟨a, ha, ha25⟩ : ∃ k : Nat, wit lo 0 25 = (k : Int) ∧ k ≤ 25 := ⟨(wit lo 0 25).toNat, by have := wit_le lo 0 25 (by omega); omega, by have := wit_le lo 0 25 (by omega); omega⟩
  obtain ⟨b, hb, hb25⟩ : ∃ k : Nat, wit hi 0 25 = (k : Int) ∧ k ≤ 25 := ⟨(wit hi 0 25).toNat, by have := wit_le hi 0 25 (by omega); omega, by have := wit_le hi 0 25 (by omega); omega⟩
  have W1 := hid (fun w => within_any lo 0 25 w (by omega) (by omega) (by omega))
  have W2 := hid (fun w => within_any hi 0 25 w (by omega) (by omega) (by omega))
  rw [ha] at W1
  rw [hb] at W2
  clear ha hb
  have N1 := hid (fun w => num_any a (by omega) w)
  have N2 := hid (fun w => num_any b (by omega) w)
  have hd1 : (bs (dec a)).size ≤ 10 := by rw [bs_size]; have := dec_len a (by omega); omega
  have hd2 : (bs (dec b)).size ≤ 10 := by rw [bs_size]; have := dec_len b (by omega); omega
  have HF := hid (fun T n e => rp_of false true a b (by omega) (by omega) T n e)
  have ET : Hid (rT false true a b = ⟨#[97]⟩ ++ ⟨#[92, 123]⟩ ++ bs (dec a) ++ ⟨#[44]⟩ ++ ⟨#[92, 125]⟩) := rfl
  have hsz : (rT false true a b).size ≤ 100 := rT_sz _ _ _ _ (by omega) (by omega)
  obtain ⟨S, hS⟩ : ∃ S, rT false true a b = S := ⟨_, rfl⟩
  rw [hS] at HF ET hsz
  clear hS
  obtain ⟨D1, hD1⟩ : ∃ D, bs (dec a) = D := ⟨_, rfl⟩
  obtain ⟨D2, hD2⟩ : ∃ D, bs (dec b) = D := ⟨_, rfl⟩
  rw [hD1] at N1 hd1 ET
  rw [hD2] at N2 hd2
  clear hD1 hD2
  obtain ⟨T1, n1, e1, hp1⟩ : ∃ T n e, pParse S false = (T, n, e) := ⟨_, _, _, rfl⟩
  have F1 := hid (HF.out _ _ _ hp1)
  have PA1 := hid (parse_at S false T1 n1 e1 (by omega) hp1)
  clear hp1 HF
  obtain ⟨X1, X2, X3, X4⟩ := rx4
  obtain ⟨T2, n2, hp2⟩ := X1 false
  obtain ⟨T3, n3, hp3⟩ := X2
  obtain ⟨T4, n4, hp4⟩ := X3
  obtain ⟨T5, n5, hp5⟩ := X4
  have PA2 := hid (parse_at ⟨#[97, 42, 42]⟩ false T2 n2 1 (by decide) hp2)
  have PA3 := hid (parse_at ⟨#[40, 97]⟩ true T3 n3 1 (by decide) hp3)
  have PA4 := hid (parse_at ⟨#[97, 41]⟩ true T4 n4 1 (by decide) hp4)
  have PA5 := hid (parse_at ⟨#[92, 40, 97]⟩ false T5 n5 1 (by decide) hp5)
  clear X1 hp2 hp3 hp4 hp5
  go_enter Tryz.func3, Tryz.ntmps3
  go_wp2_with fail
  refine (W1.out _).mono ?_
  rintro e w ⟨rfl, rfl⟩
  go_wp2_with fail
  refine (W2.out _).mono ?_
  rintro e w ⟨rfl, rfl⟩
  go_wp2_with fail
  refine (N1.out _).mono ?_
  rintro e Y1 ⟨rfl, y1⟩
  have K1 := hid y1
  clear y1
  go_wp2_with fail
  refine (N2.out _).mono ?_
  rintro e Y2 ⟨rfl, y2⟩
  have K2 := hid (K1.out.trans y2)
  clear y2 K1
  go_wp2_with fail
  refine (of_one 97 _ _ (by simp) (by omega)).mono ?_
  rintro e Y ⟨rfl, y3⟩
  have K3 := hid (K2.out.trans y3)
  have Z3 := hid (cell0 Z0.out K3.out)
  have ZW := Z0
  clear y3 K2 Z0
  go_upto_region 7 with fail
  refine opq (fun U => U.heap[Y.heap.size]? = some (rxo 1 0 0 0 (W4.of (addB (fun _ => false) 97)) (.slice none 0 0)) ∧ U.heap[(Y.heap.size + 1)]? = some (rxo 4 (a : Int) (b : Int) 0 W4.z (.slice (some ⟨Y.heap.size, 0, none⟩) 1 1)) ∧ Kp w U ∧ ∃ mz, U.cell? ⟨0, 0, none⟩ = some (.int .i64 mz)) ⟨by exact bl_alloc (last_of _ _) _, by exact last_at _ _ _ (by simp), by exact K3.out.trans (by repeat (first | exact Kp.refl _ | refine Kp.alloc ?_ _ | refine Kp.drew ?_ | refine Kp.drewN _ ?_)), by exact cell0 Z3.out (by repeat (first | exact Kp.refl _ | refine Kp.alloc ?_ _ | refine Kp.drew ?_ | refine Kp.drewN _ ?_))⟩ ?_
  rintro U ⟨xAK, xAW, xK4, xZ4⟩
  have AK : Hid (U.heap[Y.heap.size]? = some (rxo 1 0 0 0 (W4.of (addB (fun _ => false) 97)) (.slice none 0 0))) := xAK
  have AW : Hid (U.heap[(Y.heap.size + 1)]? = some (rxo 4 (a : Int) (b : Int) 0 W4.z (.slice (some ⟨Y.heap.size, 0, none⟩) 1 1))) := xAW
  have K4 : Hid (Kp w U) := xK4
  have Z4 : Hid (∃ mz, U.cell? ⟨0, 0, none⟩ = some (.int .i64 mz)) := xZ4
  clear xAK xAW xK4 xZ4
  have K3s := hid K3.out.size
  clear K3 Z3
  go_cut [15] (fun v wc => v = .bool (rMay false a b) ∧ wc = U)
  case first =>
    by_cases c1 : a ≤ b
    · have c1i : (a : Int) ≤ (b : Int) := by omega
      by_cases c2 : b ≤ 20
      · have c2i : (b : Int) ≤ 20 := by omega
        by_cases c3 : 1 ≤ b
        · have c3i : (1 : Int) ≤ (b : Int) := by omega
          have R : Hid (rMay false a b = true) := by show _ = _; unfold rMay; simp [c1, c2, c3]
          go_wp2_with fail
          go_meet
          case rel => exact ⟨by rw [R.out], rfl⟩
        · have c3i : ¬ (1 : Int) ≤ (b : Int) := by omega
          have R : Hid (rMay false a b = false) := by show _ = _; unfold rMay; simp [c1, c2]; omega
          go_wp2_with fail
          go_meet
          case rel => exact ⟨by rw [R.out], rfl⟩
      · have c2i : ¬ (b : Int) ≤ 20 := by omega
        have R : Hid (rMay false a b = false) := by show _ = _; unfold rMay; simp [c1]; omega
        go_wp2_with fail
        go_meet
        case rel => exact ⟨by rw [R.out], rfl⟩
    · have c1i : ¬ (a : Int) ≤ (b : Int) := by omega
      have R : Hid (rMay false a b = false) := by show _ = _; unfold rMay; simp [c1]
      go_wp2_with fail
      go_meet
      case rel => exact ⟨by rw [R.out], rfl⟩
  case rest =>
  obtain ⟨rfl, rfl⟩ := hcut
  obtain ⟨M0, hM0⟩ : ∃ M, rMay false a b = M := ⟨_, rfl⟩
  rw [hM0]
  clear hM0
  go_wp2_with fail
  refine (N1.out _).mono ?_
  rintro e Y5 ⟨rfl, y5⟩
  have AK' := hid (bl_kp AK.out y5)
  have AW' := hid (bl_kp AW.out y5)
  have K4' := hid (K4.out.trans y5)
  have Z4' := hid (cell0 Z4.out y5)
  clear AK AW K4 Z4 y5
  have mz := bl_frozen AW'.out 2
  have cz := bl_cell AW'.out 2 _ rfl
  obtain ⟨M, hM⟩ : ∃ M, rMay true a b = M := ⟨_, rfl⟩
  have HM := hid hM
  have HMd : decide ((a : Int) ≤ 20) = M := by rw [← hM]; unfold rMay; rw [if_pos rfl]; rw [Bool.eq_iff_iff]; simp; omega
  clear hM
  go_upto_region 10 with fail
  refine opq (fun U5 => U5.heap[Y.heap.size]? = some (rxo 1 0 0 0 (W4.of (addB (fun _ => false) 97)) (.slice none 0 0)) ∧ U5.heap[(Y.heap.size + 1)]? = some (rxo 4 (a : Int) (-1) 0 W4.z (.slice (some ⟨Y.heap.size, 0, none⟩) 1 1)) ∧ Kp w U5 ∧ ∃ mz, U5.cell? ⟨0, 0, none⟩ = some (.int .i64 mz)) ⟨by exact bl_set AK'.out (by omega) _, by exact bl_put AW'.out _, by exact (Ks.set (Ks.refl _ _) 2 _).up K4'.out (by have := K3s.out; omega), by exact cell0 ZW.out ((Ks.set (Ks.refl _ _) 2 _).up K4'.out (by have := K3s.out; omega))⟩ ?_
  rintro U5 ⟨xAK, xAW, xK4, xZ4⟩
  have AK : Hid (U5.heap[Y.heap.size]? = some (rxo 1 0 0 0 (W4.of (addB (fun _ => false) 97)) (.slice none 0 0))) := xAK
  have AW : Hid (U5.heap[(Y.heap.size + 1)]? = some (rxo 4 (a : Int) (-1) 0 W4.z (.slice (some ⟨Y.heap.size, 0, none⟩) 1 1))) := xAW
  have K4 : Hid (Kp w U5) := xK4
  have Z4 : Hid (∃ mz, U5.cell? ⟨0, 0, none⟩ = some (.int .i64 mz)) := xZ4
  clear xAK xAW xK4 xZ4
  clear AK' AW' K4' Z4' mz cz
  go_wp2_with fail
  rw [← ET.out]
  refine (PA1.out _ Z4.out).mono ?_
  rintro en V1 ⟨k1, mn1, mx1, m1, s1, ad1, l1, c1, rfl, pd1, kv1⟩
  have KV1 := hid kv1
  have PD1 := hid pd1
  have hsv1 := kv1.size
  clear kv1 pd1
  go_upto_region 11 with fail
  refine opq (fun U1 => U1.heap[V1.heap.size]? = some (rxo k1 mn1 mx1 m1 s1 (.slice ad1 l1 c1)) ∧ Pd U1 T1 k1 mn1 mx1 m1 s1 ad1 l1 c1 ∧ U1.heap[Y.heap.size]? = some (rxo 1 0 0 0 (W4.of (addB (fun _ => false) 97)) (.slice none 0 0)) ∧ U1.heap[(Y.heap.size + 1)]? = some (rxo 4 (a : Int) (-1) 0 W4.z (.slice (some ⟨Y.heap.size, 0, none⟩) 1 1)) ∧ Kp w U1 ∧ ∃ mz, U1.cell? ⟨0, 0, none⟩ = some (.int .i64 mz)) ⟨by (first | exact last_at _ _ _ (by simp) | (refine bl_alloc ?_ _; first | exact last_at _ _ _ (by simp) | (refine bl_alloc ?_ _; first | exact last_at _ _ _ (by simp) | (refine bl_alloc ?_ _; exact last_at _ _ _ (by simp))))), by exact PD1.out.kp (by repeat (first | exact Kp.refl _ | refine Kp.alloc ?_ _ | refine Kp.drew ?_ | refine Kp.drewN _ ?_)), by exact bl_kp AK.out (KV1.out.trans (by repeat (first | exact Kp.refl _ | refine Kp.alloc ?_ _ | refine Kp.drew ?_ | refine Kp.drewN _ ?_))), by exact bl_kp AW.out (KV1.out.trans (by repeat (first | exact Kp.refl _ | refine Kp.alloc ?_ _ | refine Kp.drew ?_ | refine Kp.drewN _ ?_))), by exact K4.out.trans (KV1.out.trans (by repeat (first | exact Kp.refl _ | refine Kp.alloc ?_ _ | refine Kp.drew ?_ | refine Kp.drewN _ ?_))), by exact cell0 Z4.out (KV1.out.trans (by repeat (first | exact Kp.refl _ | refine Kp.alloc ?_ _ | refine Kp.drew ?_ | refine Kp.drewN _ ?_)))⟩ ?_
  rintro U1 ⟨xA1, xPD1x, xAKx, xAWx, xK5, xZ5⟩
  have A1 : Hid (U1.heap[V1.heap.size]? = some (rxo k1 mn1 mx1 m1 s1 (.slice ad1 l1 c1))) := xA1
  have PD1x : Hid (Pd U1 T1 k1 mn1 mx1 m1 s1 ad1 l1 c1) := xPD1x
  have AKx : Hid (U1.heap[Y.heap.size]? = some (rxo 1 0 0 0 (W4.of (addB (fun _ => false) 97)) (.slice none 0 0))) := xAKx
  have AWx : Hid (U1.heap[(Y.heap.size + 1)]? = some (rxo 4 (a : Int) (-1) 0 W4.z (.slice (some ⟨Y.heap.size, 0, none⟩) 1 1))) := xAWx
  have K5 : Hid (Kp w U1) := xK5
  have Z5 : Hid (∃ mz, U1.cell? ⟨0, 0, none⟩ = some (.int .i64 mz)) := xZ5
  clear xA1 xPD1x xAKx xAWx xK5 xZ5
  clear PD1 KV1 K4 Z4 AK AW
  have WI := hid (want_is (a : Int) (-1) AKx.out)
  go_cut [110] (fun v wc => v = .bool false ∧ Kp U1 wc)
  case first =>
    cases M with
    | true =>
      obtain ⟨he1, hsm, hrt, hok⟩ := F1.out.yes HM.out
      subst he1
      have KS := hid (fun w' (q : Kp U1 w') => (ksame_any T1 (fit_of_ok _ hok)).all (rW true a b) _ _ w' _ _ (PD1x.out.is.kp q) (WI.out.kp q))
      have RI := hid (fun w' (q : Kp U1 w') => Right_any T1 false _ k1 mn1 mx1 m1 s1 ad1 l1 c1 w' hok (PD1x.out.is.kp q))
      rw [hsm] at KS
      rw [hrt] at RI
      clear hsm hrt hok F1
      have p0 := bl_cell (A1.out) 0 _ rfl
      have p1 := bl_cell (A1.out) 1 _ rfl
      have p2 := bl_cell (A1.out) 2 _ rfl
      have p3 := bl_cell (A1.out) 3 _ rfl
      have p4 := bl_cell (A1.out) 4 _ rfl
      have p5 := bl_cell (A1.out) 5 _ rfl
      have p6 := bl_cell (A1.out) 6 _ rfl
      have p7 := bl_cell (A1.out) 7 _ rfl
      have p8 := bl_cell (A1.out) 8 _ rfl
      have r0 := bl_cell (AWx.out) 0 _ rfl
      have r1 := bl_cell (AWx.out) 1 _ rfl
      have r2 := bl_cell (AWx.out) 2 _ rfl
      have r3 := bl_cell (AWx.out) 3 _ rfl
      have r4 := bl_cell (AWx.out) 4 _ rfl
      have r5 := bl_cell (AWx.out) 5 _ rfl
      have r6 := bl_cell (AWx.out) 6 _ rfl
      have r7 := bl_cell (AWx.out) 7 _ rfl
      have r8 := bl_cell (AWx.out) 8 _ rfl
      go_wp2_with fail
      refine (KS.out _ (Kp.refl _)).mono ?_
      rintro e Y6 ⟨rfl, y6⟩
      have KY := hid y6
      clear y6 p0 p1 p2 p3 p4 p5 p6 p7 p8 r0 r1 r2 r3 r4 r5 r6 r7 r8
      have AY := hid (bl_kp A1.out KY.out)
      have p0 := bl_cell (AY.out) 0 _ rfl
      have p1 := bl_cell (AY.out) 1 _ rfl
      have p2 := bl_cell (AY.out) 2 _ rfl
      have p3 := bl_cell (AY.out) 3 _ rfl
      have p4 := bl_cell (AY.out) 4 _ rfl
      have p5 := bl_cell (AY.out) 5 _ rfl
      have p6 := bl_cell (AY.out) 6 _ rfl
      have p7 := bl_cell (AY.out) 7 _ rfl
      have p8 := bl_cell (AY.out) 8 _ rfl
      go_wp2_with fail
      refine (RI.out _ KY.out).mono ?_
      rintro e Y7 ⟨rfl, y7⟩
      have KY2 := hid (KY.out.trans y7)
      clear y7 p0 p1 p2 p3 p4 p5 p6 p7 p8
      go_wp2_with fail
      go_meet
      case rel => exact ⟨rfl, KY2.out⟩
    | false =>
      have he1 := F1.out.no HM.out
      subst he1
      go_wp2_with fail
      go_meet
      case rel => exact ⟨rfl, Kp.refl _⟩
  case rest =>
  obtain ⟨rfl, k6⟩ := hcut
  rename World => W6
  have K1 := hid (K5.out.trans k6)
  have Z1 := hid (cell0 Z5.out k6)
  clear k6 K5 Z5 A1 PD1x AKx AWx WI F1
  go_wp2_with fail
  refine (PA2.out _ Z1.out).mono ?_
  rintro en V2 ⟨k2, mn2, mx2, m2, s2, ad2, l2, c2, rfl, pd2, kv2⟩
  have KV2 := hid kv2
  have PD2 := hid pd2
  have hsv2 := kv2.size
  clear kv2 pd2
  go_upto_region 14 with fail
  refine opq (fun U2 => U2.heap[V2.heap.size]? = some (rxo k2 mn2 mx2 m2 s2 (.slice ad2 l2 c2)) ∧ Pd U2 T2 k2 mn2 mx2 m2 s2 ad2 l2 c2 ∧ Kp w U2 ∧ ∃ mz, U2.cell? ⟨0, 0, none⟩ = some (.int .i64 mz)) ⟨by (first | exact last_at _ _ _ (by simp) | (refine bl_alloc ?_ _; first | exact last_at _ _ _ (by simp) | (refine bl_alloc ?_ _; first | exact last_at _ _ _ (by simp) | (refine bl_alloc ?_ _; exact last_at _ _ _ (by simp))))), by exact PD2.out.kp (by repeat (first | exact Kp.refl _ | refine Kp.alloc ?_ _ | refine Kp.drew ?_ | refine Kp.drewN _ ?_)), by exact K1.out.trans (KV2.out.trans (by repeat (first | exact Kp.refl _ | refine Kp.alloc ?_ _ | refine Kp.drew ?_ | refine Kp.drewN _ ?_))), by exact cell0 Z1.out (KV2.out.trans (by repeat (first | exact Kp.refl _ | refine Kp.alloc ?_ _ | refine Kp.drew ?_ | refine Kp.drewN _ ?_)))⟩ ?_
  rintro U2 ⟨xA2x, xPD2x, xK2, xZ2⟩
  have A2x : Hid (U2.heap[V2.heap.size]? = some (rxo k2 mn2 mx2 m2 s2 (.slice ad2 l2 c2))) := xA2x
  have PD2x : Hid (Pd U2 T2 k2 mn2 mx2 m2 s2 ad2 l2 c2) := xPD2x
  have K2 : Hid (Kp w U2) := xK2
  have Z2 : Hid (∃ mz, U2.cell? ⟨0, 0, none⟩ = some (.int .i64 mz)) := xZ2
  clear xA2x xPD2x xK2 xZ2
  clear PD2 KV2  K1 Z1
  have A2 := A2x
  have PD2 := PD2x
  clear A2x PD2x
  go_wp2_with fail
  refine (PA3.out _ Z2.out).mono ?_
  rintro en V3 ⟨k3, mn3, mx3, m3, s3, ad3, l3, c3, rfl, pd3, kv3⟩
  have KV3 := hid kv3
  have PD3 := hid pd3
  have hsv3 := kv3.size
  clear kv3 pd3
  go_upto_region 15 with fail
  refine opq (fun U3 => U3.heap[V3.heap.size]? = some (rxo k3 mn3 mx3 m3 s3 (.slice ad3 l3 c3)) ∧ Pd U3 T3 k3 mn3 mx3 m3 s3 ad3 l3 c3 ∧ Kp w U3 ∧ ∃ mz, U3.cell? ⟨0, 0, none⟩ = some (.int .i64 mz)) ⟨by (first | exact last_at _ _ _ (by simp) | (refine bl_alloc ?_ _; first | exact last_at _ _ _ (by simp) | (refine bl_alloc ?_ _; first | exact last_at _ _ _ (by simp) | (refine bl_alloc ?_ _; exact last_at _ _ _ (by simp))))), by exact PD3.out.kp (by repeat (first | exact Kp.refl _ | refine Kp.alloc ?_ _ | refine Kp.drew ?_ | refine Kp.drewN _ ?_)), by exact K2.out.trans (KV3.out.trans (by repeat (first | exact Kp.refl _ | refine Kp.alloc ?_ _ | refine Kp.drew ?_ | refine Kp.drewN _ ?_))), by exact cell0 Z2.out (KV3.out.trans (by repeat (first | exact Kp.refl _ | refine Kp.alloc ?_ _ | refine Kp.drew ?_ | refine Kp.drewN _ ?_)))⟩ ?_
  rintro U3 ⟨xA3x, xPD3x, xK3, xZ3⟩
  have A3x : Hid (U3.heap[V3.heap.size]? = some (rxo k3 mn3 mx3 m3 s3 (.slice ad3 l3 c3))) := xA3x
  have PD3x : Hid (Pd U3 T3 k3 mn3 mx3 m3 s3 ad3 l3 c3) := xPD3x
  have K3 : Hid (Kp w U3) := xK3
  have Z3 : Hid (∃ mz, U3.cell? ⟨0, 0, none⟩ = some (.int .i64 mz)) := xZ3
  clear xA3x xPD3x xK3 xZ3
  clear PD3 KV3  K2 Z2
  have A3 := A3x
  have PD3 := PD3x
  clear A3x PD3x
  clear A2 PD2
  go_wp2_with fail
  refine (PA4.out _ Z3.out).mono ?_
  rintro en V4 ⟨k4, mn4, mx4, m4, s4, ad4, l4, c4, rfl, pd4, kv4⟩
  have KV4 := hid kv4
  have PD4 := hid pd4
  have hsv4 := kv4.size
  clear kv4 pd4
  go_upto_region 16 with fail
  refine opq (fun U4 => U4.heap[V4.heap.size]? = some (rxo k4 mn4 mx4 m4 s4 (.slice ad4 l4 c4)) ∧ Pd U4 T4 k4 mn4 mx4 m4 s4 ad4 l4 c4 ∧ Kp w U4 ∧ ∃ mz, U4.cell? ⟨0, 0, none⟩ = some (.int .i64 mz)) ⟨by (first | exact last_at _ _ _ (by simp) | (refine bl_alloc ?_ _; first | exact last_at _ _ _ (by simp) | (refine bl_alloc ?_ _; first | exact last_at _ _ _ (by simp) | (refine bl_alloc ?_ _; exact last_at _ _ _ (by simp))))), by exact PD4.out.kp (by repeat (first | exact Kp.refl _ | refine Kp.alloc ?_ _ | refine Kp.drew ?_ | refine Kp.drewN _ ?_)), by exact K3.out.trans (KV4.out.trans (by repeat (first | exact Kp.refl _ | refine Kp.alloc ?_ _ | refine Kp.drew ?_ | refine Kp.drewN _ ?_))), by exact cell0 Z3.out (KV4.out.trans (by repeat (first | exact Kp.refl _ | refine Kp.alloc ?_ _ | refine Kp.drew ?_ | refine Kp.drewN _ ?_)))⟩ ?_
  rintro U4 ⟨xA4x, xPD4x, xK4, xZ4⟩
  have A4x : Hid (U4.heap[V4.heap.size]? = some (rxo k4 mn4 mx4 m4 s4 (.slice ad4 l4 c4))) := xA4x
  have PD4x : Hid (Pd U4 T4 k4 mn4 mx4 m4 s4 ad4 l4 c4) := xPD4x
  have K4 : Hid (Kp w U4) := xK4
  have Z4 : Hid (∃ mz, U4.cell? ⟨0, 0, none⟩ = some (.int .i64 mz)) := xZ4
  clear xA4x xPD4x xK4 xZ4
  clear PD4 KV4  K3 Z3
  have A4 := A4x
  have PD4 := PD4x
  clear A4x PD4x
  clear A3 PD3
  go_wp2_with fail
  refine (PA5.out _ Z4.out).mono ?_
  rintro en V5 ⟨k5, mn5, mx5, m5, s5, ad5, l5, c5, rfl, pd5, kv5⟩
  have KV5 := hid kv5
  have PD5 := hid pd5
  have hsv5 := kv5.size
  clear kv5 pd5
  go_upto_region 17 with fail
  refine opq (fun U5 => U5.heap[V5.heap.size]? = some (rxo k5 mn5 mx5 m5 s5 (.slice ad5 l5 c5)) ∧ Pd U5 T5 k5 mn5 mx5 m5 s5 ad5 l5 c5 ∧ Kp w U5 ∧ ∃ mz, U5.cell? ⟨0, 0, none⟩ = some (.int .i64 mz)) ⟨by (first | exact last_at _ _ _ (by simp) | (refine bl_alloc ?_ _; first | exact last_at _ _ _ (by simp) | (refine bl_alloc ?_ _; first | exact last_at _ _ _ (by simp) | (refine bl_alloc ?_ _; exact last_at _ _ _ (by simp))))), by exact PD5.out.kp (by repeat (first | exact Kp.refl _ | refine Kp.alloc ?_ _ | refine Kp.drew ?_ | refine Kp.drewN _ ?_)), by exact K4.out.trans (KV5.out.trans (by repeat (first | exact Kp.refl _ | refine Kp.alloc ?_ _ | refine Kp.drew ?_ | refine Kp.drewN _ ?_))), by exact cell0 Z4.out (KV5.out.trans (by repeat (first | exact Kp.refl _ | refine Kp.alloc ?_ _ | refine Kp.drew ?_ | refine Kp.drewN _ ?_)))⟩ ?_
  rintro U5 ⟨xA5x, xPD5x, xK5, xZ5⟩
  have A5x : Hid (U5.heap[V5.heap.size]? = some (rxo k5 mn5 mx5 m5 s5 (.slice ad5 l5 c5))) := xA5x
  have PD5x : Hid (Pd U5 T5 k5 mn5 mx5 m5 s5 ad5 l5 c5) := xPD5x
  have K5 : Hid (Kp w U5) := xK5
  have Z5 : Hid (∃ mz, U5.cell? ⟨0, 0, none⟩ = some (.int .i64 mz)) := xZ5
  clear xA5x xPD5x xK5 xZ5
  clear PD5 KV5  K4 Z4
  have A5 := A5x
  have PD5 := PD5x
  clear A5x PD5x
  go_wp2_with fail
  refine (runs_any _ Z5.out).mono ?_
  rintro e Y9 ⟨rfl, y9⟩
  have KY9 := hid (K5.out.trans y9)
  clear y9
  go_wp2_with fail
  go_ret
  exact ⟨rfl, KY9.out⟩

theorem reps_any (lo hi : Int) (anyB ere : Bool) (w : World) (h0 : ∃ m, w.cell? ⟨0, 0, none⟩ = some (.int .i64 m)) :
    Calls Tryz.prog 3 #[.int .i64 lo, .int .i64 hi, .bool anyB, .bool ere] w fun e w' => e = .returned (.bool true) ∧ Kp w w' := by
  cases anyB <;> cases ere
  · exact reps_ff lo hi w h0
  · exact reps_tf lo hi w h0
  · exact reps_ft lo hi w h0
  · exact reps_tt lo hi w h0
end Go.Proofs.YtikmgckefbjbkabGreatDoor

/-! ### Wrap -/

namespace Go.Proofs.YtikmgckefbjbkabGreatDoor
open Go.ChangeShapes Go.WideShapes Go.ChangeAt Go.RowKit

theorem and_shaped {H : Type} {enc : TypeId × Value → H} {a : Assume} {C : Checked} {os : Go.Os} {f : FuncId} {fn : Func} {s : ChangeSpec} {conds : List PathCond} {apart fresh handsOn again : Bool} {X : World → Array Value → Prop}
    (hX : ∀ (w w' : World) (args : Array Value), w.heap = w'.heap → X w args → X w' args)
    (own : ownKnob C.prog.godebug = none) (started : os.Started) (noInit : C.prog.inits.idxOf? f = none) (hfn : C.prog.funcs[f]? = some fn)
    (witness : ∃ (w : World) (tape : Tape) (i : Input), w.os = os ∧ (w.forCall tape i).Shaped C.prog ∧ i.vars = [] ∧ Input.okWide C.prog (w.forCall tape i) .any w.heap.size f i ∧
      ((s.pre enc C.prog fn conds apart (w.forCall tape i).memory i.args ∧ X (w.forCall tape i).memory i.args) ∧ sizedMet enc C.prog fn (OpenSpec.ofChange s) apart (w.forCall tape i).memory i.args) ∧ a.holds C.prog (lone (Frame.enter C.prog f i.args .normal) [] (w.forCall tape i)))
    (contract : ∀ (W : World) (base : Nat) (args : Array Value) (ds gs : List (DataW H)) (before : List MemPlace),
      (∀ (j : Nat) t v, fn.params[j]? = some t → args[j]? = some v → Value.okWide C.prog W .any base t v) →
      DataW.Whole enc C.prog fn.params.toList s.vars apart W args.toList ds gs before →
      conds.all (PathCond.test C.prog ⟨fn.params.toList, ds, s.plain.varTypes C.prog, gs⟩) = true →
      (DataW.weightsEach C.prog (fn.params.toList ++ s.plain.varTypes C.prog) (ds ++ gs)).all (· ≤ reachBytes) = true → X W args → W.ShapedOpen C.prog →
      Calls C.prog f args W fun e W' => ∃ v, e = .returned v ∧ s.post enc C.prog fn apart fresh handsOn again W args v W') :
    ReturnsInHanded a C os f .any (fun w args => (s.pre enc C.prog fn conds apart w args ∧ X w args) ∧ sizedMet enc C.prog fn (OpenSpec.ofChange s) apart w args) (s.post enc C.prog fn apart fresh handsOn again) := by
  refine returnsInHanded_of_calls own started noInit witness ?_
  intro w tape i _ hsh _ hok hpre hholds
  obtain ⟨_, _, _, fn', hfn', _, _, _, _, hval⟩ := hok
  have e : fn' = fn := Option.some.inj (hfn'.symm.trans hfn)
  subst e
  obtain ⟨⟨⟨ds, gs, before, hw, hc⟩, hx⟩, hz⟩ := hpre
  have hw' := DataW.Whole.of_heap (w' := w.forCall tape i) (by rfl) hw
  refine (contract (w.forCall tape i) w.heap.size i.args ds gs before hval hw' hc (hz.weights hw) (hX _ _ _ (by rfl) hx) hsh).mono fun e W' ⟨v, he, hp⟩ => ?_
  subst he
  exact ChangeSpec.post_blind hp

theorem own : ownKnob Tryz.prog.godebug = none := by kernel_rfl

/-- What every row of this seat lists. -/
abbrev laid3 : List (String × DataW Unit) := [("math/bits.deBruijn32tab", Rows.laid_math_bits_deBruijn32tab), ("math/bits.deBruijn64tab", Rows.laid_math_bits_deBruijn64tab), ("internal/strconv.uint64pow10", Rows.laid_internal_strconv_uint64pow10)]

/-- The door's own heap meets the condition. -/
theorem door_met (os : Go.Os) (args : Array Value) : laidMetH Tryz.prog laid3 ((World.doorLaid Tryz.prog 24 os).forCall (fun _ _ => 0) ⟨#[], args, []⟩).memory :=
  laidMetH_of_parts3 (fuel := 8) (laidMet_of_run' 8 (by kernel_rfl) (by kernel_rfl)) (by kernel_rfl) (by kernel_rfl)

/-- MaxLen holds a number. -/
theorem maxLen {W : World} (h : W.ShapedOpen Tryz.prog) : ∃ m, W.cell? ⟨0, 0, none⟩ = some (.int .i64 m) :=
  cell_of_shapedOpen_int (P := Tryz.prog) (g := 0) (t := 3) (zero := #[.int .i64 0]) h (of_decide_eq_true (by kernel_rfl)) (by kernel_rfl) rfl (by kernel_rfl) (by kernel_rfl) Tryz.underlying3
end Go.Proofs.YtikmgckefbjbkabGreatDoor

/-! ### RxRepsProof -/

namespace Go.Proofs.YtikmgckefbjbkabGreatDoor.rxReps
open Go.ChangeShapes Go.WideShapes Go.ChangeAt Go.RowKit
open Go.ChangeMaps (open_string shut_string)
set_option linter.unusedVariables false

theorem laidOut : laidOutB Tryz.prog = true := by kernel_rfl
set_option maxRecDepth 100000 in
theorem lifted (os : Go.Os) (started : os.Started) (H : Type) (enc : TypeId × Value → H) :
    ReturnsInHanded {} Tryz.checked os 3 .any (fun w args => (Rows.rxRepsSpec.pre enc Tryz.prog Tryz.f3 [] false w args ∧ laidMetH Tryz.prog laid3 w) ∧ sizedMet enc Tryz.prog Tryz.f3 (OpenSpec.ofChange Rows.rxRepsSpec) false w args)
      (Rows.rxRepsSpec.post enc Tryz.prog Tryz.f3 false true false false) := by
  refine and_shaped (C := Tryz.checked) (X := fun w _ => laidMetH Tryz.prog laid3 w) (fun _ _ _ hh h => h.of_heap hh) own started (by kernel_rfl) Tryz.func3
    (ChangeSpec.witness_shaped (enc := enc) (C := Tryz.checked) (os := os) (X := fun w _ => laidMetH Tryz.prog laid3 w) false (World.doorLaid Tryz.prog 24 os) #[.int .i64 0, .int .i64 0, .bool false, .bool false] 8 rfl (World.shaped_of_RefB (by kernel_rfl) (by kernel_rfl)) (by kernel_rfl) (by kernel_rfl) (by kernel_rfl) (door_met os _)) ?_
  intro W base args ds gs before hval0 hW _ _ hL hsh
  have hval : ∀ (j : Nat) t v, Tryz.f3.params[j]? = some t → args[j]? = some v → Value.okWide Tryz.prog W .any base t v := hval0
  have hW' := hW
  obtain ⟨p, q, hA0, hV, rfl, hfz, hnd⟩ := hW
  have hA : DataW.TrodAll enc Tryz.prog W 0 (fun _ => true) true Tryz.f3.params.toList args.toList ds p := hA0
  rw [Tryz.params3] at hA hval
  obtain ⟨v0, vs0, d0, ds0, p0, q0, hargs, rfl, rfl, h0, r0⟩ := trodAll_cons hA
  obtain ⟨v1, vs1, d1, ds1, p1, q1, rfl, rfl, rfl, h1, r1⟩ := trodAll_cons r0
  obtain ⟨v2, vs2, d2, ds2, p2, q2, rfl, rfl, rfl, h2, r2⟩ := trodAll_cons r1
  obtain ⟨v3, vs3, d3, ds3, p3, q3, rfl, rfl, rfl, h3, r3⟩ := trodAll_cons r2
  obtain ⟨rfl, rfl, rfl⟩ := trodAll_nil r3
  obtain rfl : args = #[v0, v1, v2, v3] := by cases args; simp_all
  obtain ⟨rfl, rfl⟩ := trodVars_none hV
  obtain ⟨a0, rfl, rfl, rfl, w0⟩ := open_int Tryz.underlying3 (hval 0 3 v0 rfl rfl) h0
  obtain ⟨a1, rfl, rfl, rfl, w1⟩ := open_int Tryz.underlying3 (hval 1 3 v1 rfl rfl) h1
  obtain ⟨a2, rfl, rfl, rfl⟩ := open_bool Tryz.underlying4 (hval 2 4 v2 rfl rfl) h2
  obtain ⟨a3, rfl, rfl, rfl⟩ := open_bool Tryz.underlying4 (hval 3 4 v3 rfl rfl) h3
  clear hA0 hval0
  refine (reps_any a0 a1 a2 a3 W (maxLen hsh)).mono fun e W' ⟨he, bel⟩ => ?_
  subst he
  exact ⟨_, rfl, _, _, _, [], _, [], hW', trodAll_mk1 (shut_bool Tryz.underlying4 _), (trodAll_cons_mk (shut_int Tryz.underlying3 w0) (trodAll_cons_mk (shut_int Tryz.underlying3 w1) (trodAll_cons_mk (shut_bool Tryz.underlying4 a2) (trodAll_cons_mk (shut_bool Tryz.underlying4 a3) trodAll_mk0)))), rfl, Below.frame bel _, fun h => by cases h⟩

theorem over : Rows.rxRepsRow.holds Tryz.pinned (OpenSpec.ofChange Rows.rxRepsSpec) :=
  OpenClaim.holds_of_wide 3 Tryz.f3 rfl rfl rfl rfl rfl rfl rfl ⟨rfl, rfl, rfl, rfl, rfl⟩ rfl rfl rfl rfl rfl (by kernel_rfl) Tryz.func3 (by kernel_rfl)
    (of_decide_eq_true (by kernel_rfl)) (by unfold Func.isWrapper; first | (rw [if_pos (by decide +kernel)]; kernel_rfl) | (rw [if_neg (by decide +kernel)]; exact ⟨rfl, rfl⟩))
    (fun os started H enc _ => lifted os started H enc)

theorem carded : Rows.RxRepsCardSaid :=
  Claim7.holds_tied_plain_at .later [] [.data, .data, .data] true (true, "d7f39d193829e72837050156560bcd563f74548b4f356ef346653581ae90b154") false
    over (fun _ h => by cases h) (by kernel_rfl) (fun _ h => by cases h) rxReps_row_tie rfl ⟨rfl, rfl⟩ (by kernel_rfl) rfl
    (fun f fn hf hfn => by
      obtain rfl : f = 3 := Option.some.inj ((show Tryz.prog.funcNamed "gloss/glosslaw4.RxReps" = some 3 by kernel_rfl).symm.trans hf) |>.symm
      obtain rfl : fn = Tryz.f3 := (Option.some.inj (Tryz.func3.symm.trans hfn)).symm
      exact ⟨by kernel_rfl, fun j t ht => by
        rw [Tryz.params3] at ht
        have hm : t ∈ [3, 3, 4, 4] := by simpa using Array.mem_of_getElem? ht
        have hall : ([3, 3, 4, 4].all fun u => !Tryz.prog.wantsStandIn u) = true := by kernel_rfl
        exact (show Tryz.prog.wantsStandIn t = false by simpa using List.all_eq_true.1 hall t hm)⟩)
    (by kernel_rfl)

end Go.Proofs.YtikmgckefbjbkabGreatDoor.rxReps
namespace Go.Proofs.YtikmgckefbjbkabGreatDoor

theorem rxReps_holds : Rows.RxRepsCardSaid := rxReps.carded

end Go.Proofs.YtikmgckefbjbkabGreatDoor
