/-
  Proved: the law RxSets of glosslaw4 returns true for every set, every two bytes and either way of writing, and leaves the set as it was (P4.2, P4.3). The tied card, no condition.
-/
import Derived.Test.YtikmgckefbjbkaaGreatDoorM5
import Derived.Test.YtikmgckefbjbkaaGreatDoorM1
import Derived.ProofKit
import Derived.OpenShut
import Derived.Laws.IdiomArrays
import Derived.Test.YtikmgckefbjbkaaGreatDoorRows
import Derived.Test.YtikmgckefbjbkaaGreatDoorChecked
import Derived.HandedShaped
import Derived.Shelf.Vars
import Derived.LaidMore
import Derived.LaidHandle
import Derived.LaidLaws
import Derived.Stop.Joined
import Derived.Test.YtikmgckefbjbkaaGreatDoorTie
import Derived.Test.YtikmgckefbjbkaaGreatDoorCards
import Derived.Below
import Derived.WalkKit
import Derived.ShutString
import Derived.ChangeOld
import Derived.SevenTiedAt

/-! ### SetsW -/

namespace Go.Proofs.YtikmgckefbjbkaaGreatDoor
open Go.RowKit

theorem beq_cast2 (b : Nat) (c : Nat) : ((b : Int) != (c : Int)) = !(b == c) := by
  rw [Bool.eq_iff_iff]
  simp
  omega
theorem fit_of_ok2 : ∀ r, RxOk r → RxFit r
  | .mk k mn mx n s kids, h => by
    unfold RxOk at h
    unfold RxFit
    exact ⟨h.1, fun a ha => fit_of_ok2 a (h.2.2 a ha)⟩
termination_by r => SizeOf.sizeOf r
decreasing_by
  have := List.sizeOf_lt_of_mem ha
  simp
  omega
/-- May from and to stand in brackets with a dash? -/
def mayB (f t : Nat) : Bool := !(f == 93) && !(f == 94) && !(f == 45) && !(f == 91) && !(t == 93) && !(t == 91) && !(t == 45)
set_option maxHeartbeats 2000000 in
set_option maxRecDepth 100000 in
theorem sets_none (p : Nat → Bool) (f t : Nat) (ere : Bool) (w : World) (hz : cnt p 256 = 0) (h0 : ∃ m, w.cell? ⟨0, 0, none⟩ = some (.int .i64 m)) :
    Calls Tryz.prog 7 #[sv p, .int .u8 (f : Int), .int .u8 (t : Int), .bool ere] w fun e w' => e = .returned (.bool true) ∧ Kp w w' := by
  have Z0 := hid h0
  have PR : Hid (∀ w', Calls Tryz.prog 10 #[(.agg #[.int .i64 1, .int .i64 0, .int .i64 0, .int .i64 0, .int .u64 (wd p 0 : Nat), .int .u64 (wd p 1 : Nat), .int .u64 (wd p 2 : Nat), .int .u64 (wd p 3 : Nat), .slice none 0 0]), .bool ere] w' fun e w'' => e = .returned (.string (bs (printT ere (Trip.setR p)))) ∧ Kp w' w'') := fun w' => print_any (Trip.setR p) ere (fun _ => True) 1 0 0 0 (W4.of p) none 0 0 w' (Trip.setR_ok p) (fun _ => Trip.setR_fit p ere) (Is.leaf _ _ _ _ _ _ _)
  have es : ∀ w, (Op.equalIn 10000 24 (.agg #[.int .u64 (wd p 0 : Nat), .int .u64 (wd p 1 : Nat), .int .u64 (wd p 2 : Nat), .int .u64 (wd p 3 : Nat)]) (.agg #[.int .u64 0, .int .u64 0, .int .u64 0, .int .u64 0])).run Tryz.prog w = .ok (decide (cnt p 256 = 0)) w := fun w => by
    rw [← Trip.of_zero, w4_eq]
    exact eq_vv _ _ _ _ _ _ _ _ w
  rw [decide_eq_true hz] at es
  obtain ⟨n1, n2⟩ := Trip.setR_none p ere hz
  rw [n1, show bs [] = ⟨#[]⟩ from rfl] at PR
  have RG : Hid (∀ w', Calls Tryz.prog 15 #[(.agg #[.int .i64 1, .int .i64 0, .int .i64 0, .int .i64 0, .int .u64 (wd p 0 : Nat), .int .u64 (wd p 1 : Nat), .int .u64 (wd p 2 : Nat), .int .u64 (wd p 3 : Nat), .slice none 0 0]), .bool ere] w' fun e w'' => e = .returned (.bool false) ∧ Kp w' w'') := fun w' => by
    have := Right_any (Trip.setR p) ere (fun _ => True) 1 0 0 0 (W4.of p) none 0 0 w' (Trip.setR_ok p) (Is.leaf _ _ _ _ _ _ _)
    rw [n2] at this
    exact this
  clear n1 n2 h0 hz
  obtain ⟨T1, n1, e1, hp1⟩ : ∃ T n e, pParse ⟨#[]⟩ ere = (T, n, e) := ⟨(pParse ⟨#[]⟩ ere).1, (pParse ⟨#[]⟩ ere).2.1, (pParse ⟨#[]⟩ ere).2.2, rfl⟩
  have PA := hid (parse_at ⟨#[]⟩ ere T1 n1 e1 (by decide) hp1)
  clear hp1
  go_enter Tryz.func7, Tryz.ntmps7
  go_upto_region 1 with fail
  refine opq (fun V0 => At V0 w.heap.size p ∧ Kp w V0 ∧ ∃ mz, V0.cell? ⟨0, 0, none⟩ = some (.int .i64 mz)) ⟨by exact At.new _ _, by exact (by repeat (first | exact Kp.refl _ | refine Kp.alloc ?_ _ | refine Kp.drew ?_ | refine Kp.drewN _ ?_)), by exact cell0 Z0.out (by repeat (first | exact Kp.refl _ | refine Kp.alloc ?_ _ | refine Kp.drew ?_ | refine Kp.drewN _ ?_))⟩ ?_
  rintro V0 ⟨xA0, xK0, xY0⟩
  have A0 : Hid (At V0 w.heap.size p) := xA0
  have K0 : Hid (Kp w V0) := xK0
  have Y0 : Hid (∃ mz, V0.cell? ⟨0, 0, none⟩ = some (.int .i64 mz)) := xY0
  clear xA0 xK0 xY0
  obtain ⟨x0, x1, x2, x3⟩ := A0.out.cells
  clear Z0
  go_upto_region 2 with fail
  refine opq (fun V1 => At V1 w.heap.size p ∧ V1.heap[V0.heap.size]? = some (.cells #[.int .i64 1, .int .i64 0, .int .i64 0, .int .i64 0, .int .u64 (wd p 0 : Nat), .int .u64 (wd p 1 : Nat), .int .u64 (wd p 2 : Nat), .int .u64 (wd p 3 : Nat), .slice none 0 0] 27) ∧ Kp w V1 ∧ ∃ mz, V1.cell? ⟨0, 0, none⟩ = some (.int .i64 mz)) ⟨by exact A0.out.kp (by repeat (first | exact Kp.refl _ | refine Kp.alloc ?_ _ | refine Kp.drew ?_ | refine Kp.drewN _ ?_)), by (first | exact last_at _ _ _ (by simp) | (refine bl_alloc ?_ _; first | exact last_at _ _ _ (by simp) | (refine bl_alloc ?_ _; first | exact last_at _ _ _ (by simp) | (refine bl_alloc ?_ _; exact last_at _ _ _ (by simp))))), by exact K0.out.trans (by repeat (first | exact Kp.refl _ | refine Kp.alloc ?_ _ | refine Kp.drew ?_ | refine Kp.drewN _ ?_)), by exact cell0 Y0.out (by repeat (first | exact Kp.refl _ | refine Kp.alloc ?_ _ | refine Kp.drew ?_ | refine Kp.drewN _ ?_))⟩ ?_
  rintro V1 ⟨xA1, xAR, xK1, xZ1⟩
  have A1 : Hid (At V1 w.heap.size p) := xA1
  have AR : Hid (V1.heap[V0.heap.size]? = some (.cells #[.int .i64 1, .int .i64 0, .int .i64 0, .int .i64 0, .int .u64 (wd p 0 : Nat), .int .u64 (wd p 1 : Nat), .int .u64 (wd p 2 : Nat), .int .u64 (wd p 3 : Nat), .slice none 0 0] 27)) := xAR
  have K1 : Hid (Kp w V1) := xK1
  have Z1 : Hid (∃ mz, V1.cell? ⟨0, 0, none⟩ = some (.int .i64 mz)) := xZ1
  clear xA1 xAR xK1 xZ1
  clear x0 x1 x2 x3 A0 K0 Y0
  have p0 := bl_cell (AR.out) 0 _ rfl
  have p1 := bl_cell (AR.out) 1 _ rfl
  have p2 := bl_cell (AR.out) 2 _ rfl
  have p3 := bl_cell (AR.out) 3 _ rfl
  have p4 := bl_cell (AR.out) 4 _ rfl
  have p5 := bl_cell (AR.out) 5 _ rfl
  have p6 := bl_cell (AR.out) 6 _ rfl
  have p7 := bl_cell (AR.out) 7 _ rfl
  have p8 := bl_cell (AR.out) 8 _ rfl
  go_wp2_with fail
  refine (PR.out _).mono ?_
  rintro e Y1 ⟨rfl, y1⟩
  have A2 := hid (A1.out.kp y1)
  have AR2 := hid (bl_kp AR.out y1)
  have K2 := hid (K1.out.trans y1)
  have Z2 := hid (cell0 Z1.out y1)
  clear y1 A1 AR K1 Z1 p0 p1 p2 p3 p4 p5 p6 p7 p8
  go_wp2_with fail
  refine (PA.out _ Z2.out).mono ?_
  rintro en V2 ⟨k1, mn1, mx1, m1, s1, ad1, l1, c1, rfl, pd1, kv1⟩
  have KV1 := hid kv1
  have PD1 := hid pd1
  have hsv1 := kv1.size
  clear kv1 pd1
  go_upto_region 3 with fail
  refine opq (fun U1 => At U1 w.heap.size p ∧ U1.heap[V0.heap.size]? = some (.cells #[.int .i64 1, .int .i64 0, .int .i64 0, .int .i64 0, .int .u64 (wd p 0 : Nat), .int .u64 (wd p 1 : Nat), .int .u64 (wd p 2 : Nat), .int .u64 (wd p 3 : Nat), .slice none 0 0] 27) ∧ U1.heap[V2.heap.size]? = some (rxo k1 mn1 mx1 m1 s1 (.slice ad1 l1 c1)) ∧ Pd U1 T1 k1 mn1 mx1 m1 s1 ad1 l1 c1 ∧ Kp w U1 ∧ ∃ mz, U1.cell? ⟨0, 0, none⟩ = some (.int .i64 mz)) ⟨by exact A2.out.kp (KV1.out.trans (by repeat (first | exact Kp.refl _ | refine Kp.alloc ?_ _ | refine Kp.drew ?_ | refine Kp.drewN _ ?_))), by exact bl_kp AR2.out (KV1.out.trans (by repeat (first | exact Kp.refl _ | refine Kp.alloc ?_ _ | refine Kp.drew ?_ | refine Kp.drewN _ ?_))), by (first | exact last_at _ _ _ (by simp) | (refine bl_alloc ?_ _; first | exact last_at _ _ _ (by simp) | (refine bl_alloc ?_ _; first | exact last_at _ _ _ (by simp) | (refine bl_alloc ?_ _; exact last_at _ _ _ (by simp))))), by exact PD1.out.kp (by repeat (first | exact Kp.refl _ | refine Kp.alloc ?_ _ | refine Kp.drew ?_ | refine Kp.drewN _ ?_)), by exact K2.out.trans (KV1.out.trans (by repeat (first | exact Kp.refl _ | refine Kp.alloc ?_ _ | refine Kp.drew ?_ | refine Kp.drewN _ ?_))), by exact cell0 Z2.out (KV1.out.trans (by repeat (first | exact Kp.refl _ | refine Kp.alloc ?_ _ | refine Kp.drew ?_ | refine Kp.drewN _ ?_)))⟩ ?_
  rintro U1 ⟨xA3, xAR3, xAZ, xPDz, xK3, xZ3⟩
  have A3 : Hid (At U1 w.heap.size p) := xA3
  have AR3 : Hid (U1.heap[V0.heap.size]? = some (.cells #[.int .i64 1, .int .i64 0, .int .i64 0, .int .i64 0, .int .u64 (wd p 0 : Nat), .int .u64 (wd p 1 : Nat), .int .u64 (wd p 2 : Nat), .int .u64 (wd p 3 : Nat), .slice none 0 0] 27)) := xAR3
  have AZ : Hid (U1.heap[V2.heap.size]? = some (rxo k1 mn1 mx1 m1 s1 (.slice ad1 l1 c1))) := xAZ
  have PDz : Hid (Pd U1 T1 k1 mn1 mx1 m1 s1 ad1 l1 c1) := xPDz
  have K3 : Hid (Kp w U1) := xK3
  have Z3 : Hid (∃ mz, U1.cell? ⟨0, 0, none⟩ = some (.int .i64 mz)) := xZ3
  clear xA3 xAR3 xAZ xPDz xK3 xZ3
  clear PD1 KV1 A2 AR2 K2 Z2
  obtain ⟨x0, x1, x2, x3⟩ := A3.out.cells
  have p0 := bl_cell (AR3.out) 0 _ rfl
  have p1 := bl_cell (AR3.out) 1 _ rfl
  have p2 := bl_cell (AR3.out) 2 _ rfl
  have p3 := bl_cell (AR3.out) 3 _ rfl
  have p4 := bl_cell (AR3.out) 4 _ rfl
  have p5 := bl_cell (AR3.out) 5 _ rfl
  have p6 := bl_cell (AR3.out) 6 _ rfl
  have p7 := bl_cell (AR3.out) 7 _ rfl
  have p8 := bl_cell (AR3.out) 8 _ rfl
  go_wp2_with fail
  refine (PR.out _).mono ?_
  rintro e Y2 ⟨rfl, y2⟩
  have AR4 := hid (bl_kp AR3.out y2)
  have K4 := hid (K3.out.trans y2)
  have Z4 := hid (cell0 Z3.out y2)
  clear y2 x0 x1 x2 x3 p0 p1 p2 p3 p4 p5 p6 p7 p8
  have p0 := bl_cell (AR4.out) 0 _ rfl
  have p1 := bl_cell (AR4.out) 1 _ rfl
  have p2 := bl_cell (AR4.out) 2 _ rfl
  have p3 := bl_cell (AR4.out) 3 _ rfl
  have p4 := bl_cell (AR4.out) 4 _ rfl
  have p5 := bl_cell (AR4.out) 5 _ rfl
  have p6 := bl_cell (AR4.out) 6 _ rfl
  have p7 := bl_cell (AR4.out) 7 _ rfl
  have p8 := bl_cell (AR4.out) 8 _ rfl
  go_wp2_with fail
  refine (RG.out _).mono ?_
  rintro e Y3 ⟨rfl, y3⟩
  have K5 := hid (K4.out.trans y3)
  have Z5 := hid (cell0 Z4.out y3)
  clear y3 p0 p1 p2 p3 p4 p5 p6 p7 p8
  go_wp2_with fail
  refine (runs_any _ Z5.out).mono ?_
  rintro e Y4 ⟨rfl, y4⟩
  have K6 := hid (K5.out.trans y4)
  clear y4
  go_wp2_with fail
  go_ret
  exact ⟨rfl, K6.out⟩
set_option maxHeartbeats 2000000 in
set_option maxRecDepth 100000 in
theorem sets_some (p : Nat → Bool) (f t : Nat) (hf : f < 256) (ht : t < 256) (ere : Bool) (w : World) (hz : 0 < cnt p 256) (h0 : ∃ m, w.cell? ⟨0, 0, none⟩ = some (.int .i64 m)) :
    Calls Tryz.prog 7 #[sv p, .int .u8 (f : Int), .int .u8 (t : Int), .bool ere] w fun e w' => e = .returned (.bool true) ∧ Kp w w' := by
  have Z0 := hid h0
  have PR : Hid (∀ w', Calls Tryz.prog 10 #[(.agg #[.int .i64 1, .int .i64 0, .int .i64 0, .int .i64 0, .int .u64 (wd p 0 : Nat), .int .u64 (wd p 1 : Nat), .int .u64 (wd p 2 : Nat), .int .u64 (wd p 3 : Nat), .slice none 0 0]), .bool ere] w' fun e w'' => e = .returned (.string (bs (printT ere (Trip.setR p)))) ∧ Kp w' w'') := fun w' => print_any (Trip.setR p) ere (fun _ => True) 1 0 0 0 (W4.of p) none 0 0 w' (Trip.setR_ok p) (fun _ => Trip.setR_fit p ere) (Is.leaf _ _ _ _ _ _ _)
  have es : ∀ w, (Op.equalIn 10000 24 (.agg #[.int .u64 (wd p 0 : Nat), .int .u64 (wd p 1 : Nat), .int .u64 (wd p 2 : Nat), .int .u64 (wd p 3 : Nat)]) (.agg #[.int .u64 0, .int .u64 0, .int .u64 0, .int .u64 0])).run Tryz.prog w = .ok (decide (cnt p 256 = 0)) w := fun w => by
    rw [← Trip.of_zero, w4_eq]
    exact eq_vv _ _ _ _ _ _ _ _ w
  rw [decide_eq_false (by omega)] at es
  obtain ⟨T1, hT1⟩ : ∃ T, Trip.setR p = T := ⟨_, rfl⟩
  have hp1 := Trip.setR_trip p ere hz
  have hsz : (bs (printT ere (Trip.setR p))).size ≤ 1000000 := by
    rw [bs_size]
    unfold printT
    split
    · rw [Trip.setR_txt]
      have := Trip.setT_len2 (W4.bit (W4.of p)) ere
      omega
    · simp
  have PA := hid (parse_at _ ere _ 0 0 hsz hp1)
  have KS : Hid (∀ (v : Value) (w' : World) (ok : Nat → Prop), Is w' ok (Trip.setR p) v → Calls Tryz.prog 20 #[v, (.agg #[.int .i64 1, .int .i64 0, .int .i64 0, .int .i64 0, .int .u64 (wd p 0 : Nat), .int .u64 (wd p 1 : Nat), .int .u64 (wd p 2 : Nat), .int .u64 (wd p 3 : Nat), .slice none 0 0])] w' fun e w'' => e = .returned (.bool true) ∧ Kp w' w'') := fun v w' ok hi => by
    have := (ksame_any (Trip.setR p) (fit_of_ok2 _ (Trip.setR_ok p))).all (Trip.setR p) v (rxv 1 0 0 0 (W4.of p) (.slice none 0 0)) w' ok (fun _ => True) hi (Is.leaf _ _ _ _ _ _ _)
    rw [sameR_refl] at this
    exact this
  have RP := hid (Trip.range_parse f t hf ht ere)
  obtain ⟨D, nD, hpD, hDs⟩ := Trip.dg_parse ere
  have PD0 := hid (parse_at Trip.dg ere D nD 0 (by decide) hpD)
  have HDs := hid hDs
  obtain ⟨S, hS⟩ : ∃ S, bs (printT ere (Trip.setR p)) = S := ⟨_, rfl⟩
  rw [hS] at PA PR hsz
  rw [hT1] at PA KS
  clear hp1 hpD hDs hT1 hS h0 hz
  go_enter Tryz.func7, Tryz.ntmps7
  go_upto_region 1 with fail
  refine opq (fun V0 => At V0 w.heap.size p ∧ Kp w V0 ∧ ∃ mz, V0.cell? ⟨0, 0, none⟩ = some (.int .i64 mz)) ⟨by exact At.new _ _, by exact (by repeat (first | exact Kp.refl _ | refine Kp.alloc ?_ _ | refine Kp.drew ?_ | refine Kp.drewN _ ?_)), by exact cell0 Z0.out (by repeat (first | exact Kp.refl _ | refine Kp.alloc ?_ _ | refine Kp.drew ?_ | refine Kp.drewN _ ?_))⟩ ?_
  rintro V0 ⟨xA0, xK0, xY0⟩
  have A0 : Hid (At V0 w.heap.size p) := xA0
  have K0 : Hid (Kp w V0) := xK0
  have Y0 : Hid (∃ mz, V0.cell? ⟨0, 0, none⟩ = some (.int .i64 mz)) := xY0
  clear xA0 xK0 xY0
  obtain ⟨x0, x1, x2, x3⟩ := A0.out.cells
  clear Z0
  go_upto_region 2 with fail
  refine opq (fun V1 => At V1 w.heap.size p ∧ V1.heap[V0.heap.size]? = some (.cells #[.int .i64 1, .int .i64 0, .int .i64 0, .int .i64 0, .int .u64 (wd p 0 : Nat), .int .u64 (wd p 1 : Nat), .int .u64 (wd p 2 : Nat), .int .u64 (wd p 3 : Nat), .slice none 0 0] 27) ∧ Kp w V1 ∧ ∃ mz, V1.cell? ⟨0, 0, none⟩ = some (.int .i64 mz)) ⟨by exact A0.out.kp (by repeat (first | exact Kp.refl _ | refine Kp.alloc ?_ _ | refine Kp.drew ?_ | refine Kp.drewN _ ?_)), by (first | exact last_at _ _ _ (by simp) | (refine bl_alloc ?_ _; first | exact last_at _ _ _ (by simp) | (refine bl_alloc ?_ _; first | exact last_at _ _ _ (by simp) | (refine bl_alloc ?_ _; exact last_at _ _ _ (by simp))))), by exact K0.out.trans (by repeat (first | exact Kp.refl _ | refine Kp.alloc ?_ _ | refine Kp.drew ?_ | refine Kp.drewN _ ?_)), by exact cell0 Y0.out (by repeat (first | exact Kp.refl _ | refine Kp.alloc ?_ _ | refine Kp.drew ?_ | refine Kp.drewN _ ?_))⟩ ?_
  rintro V1 ⟨xA1, xAR, xK1, xZ1⟩
  have A1 : Hid (At V1 w.heap.size p) := xA1
  have AR : Hid (V1.heap[V0.heap.size]? = some (.cells #[.int .i64 1, .int .i64 0, .int .i64 0, .int .i64 0, .int .u64 (wd p 0 : Nat), .int .u64 (wd p 1 : Nat), .int .u64 (wd p 2 : Nat), .int .u64 (wd p 3 : Nat), .slice none 0 0] 27)) := xAR
  have K1 : Hid (Kp w V1) := xK1
  have Z1 : Hid (∃ mz, V1.cell? ⟨0, 0, none⟩ = some (.int .i64 mz)) := xZ1
  clear xA1 xAR xK1 xZ1
  clear x0 x1 x2 x3 A0 K0 Y0
  have p0 := bl_cell (AR.out) 0 _ rfl
  have p1 := bl_cell (AR.out) 1 _ rfl
  have p2 := bl_cell (AR.out) 2 _ rfl
  have p3 := bl_cell (AR.out) 3 _ rfl
  have p4 := bl_cell (AR.out) 4 _ rfl
  have p5 := bl_cell (AR.out) 5 _ rfl
  have p6 := bl_cell (AR.out) 6 _ rfl
  have p7 := bl_cell (AR.out) 7 _ rfl
  have p8 := bl_cell (AR.out) 8 _ rfl
  go_wp2_with fail
  refine (PR.out _).mono ?_
  rintro e Y1 ⟨rfl, y1⟩
  have A2 := hid (A1.out.kp y1)
  have AR2 := hid (bl_kp AR.out y1)
  have K2 := hid (K1.out.trans y1)
  have Z2 := hid (cell0 Z1.out y1)
  clear y1 A1 AR K1 Z1 p0 p1 p2 p3 p4 p5 p6 p7 p8
  go_wp2_with fail
  refine (PA.out _ Z2.out).mono ?_
  rintro en V2 ⟨k1, mn1, mx1, m1, s1, ad1, l1, c1, rfl, pd1, kv1⟩
  have KV1 := hid kv1
  have PD1 := hid pd1
  have hsv1 := kv1.size
  clear kv1 pd1
  go_upto_region 3 with fail
  refine opq (fun U1 => At U1 w.heap.size p ∧ U1.heap[V0.heap.size]? = some (.cells #[.int .i64 1, .int .i64 0, .int .i64 0, .int .i64 0, .int .u64 (wd p 0 : Nat), .int .u64 (wd p 1 : Nat), .int .u64 (wd p 2 : Nat), .int .u64 (wd p 3 : Nat), .slice none 0 0] 27) ∧ U1.heap[V2.heap.size]? = some (rxo k1 mn1 mx1 m1 s1 (.slice ad1 l1 c1)) ∧ Pd U1 T1 k1 mn1 mx1 m1 s1 ad1 l1 c1 ∧ Kp w U1 ∧ ∃ mz, U1.cell? ⟨0, 0, none⟩ = some (.int .i64 mz)) ⟨by exact A2.out.kp (KV1.out.trans (by repeat (first | exact Kp.refl _ | refine Kp.alloc ?_ _ | refine Kp.drew ?_ | refine Kp.drewN _ ?_))), by exact bl_kp AR2.out (KV1.out.trans (by repeat (first | exact Kp.refl _ | refine Kp.alloc ?_ _ | refine Kp.drew ?_ | refine Kp.drewN _ ?_))), by (first | exact last_at _ _ _ (by simp) | (refine bl_alloc ?_ _; first | exact last_at _ _ _ (by simp) | (refine bl_alloc ?_ _; first | exact last_at _ _ _ (by simp) | (refine bl_alloc ?_ _; exact last_at _ _ _ (by simp))))), by exact PD1.out.kp (by repeat (first | exact Kp.refl _ | refine Kp.alloc ?_ _ | refine Kp.drew ?_ | refine Kp.drewN _ ?_)), by exact K2.out.trans (KV1.out.trans (by repeat (first | exact Kp.refl _ | refine Kp.alloc ?_ _ | refine Kp.drew ?_ | refine Kp.drewN _ ?_))), by exact cell0 Z2.out (KV1.out.trans (by repeat (first | exact Kp.refl _ | refine Kp.alloc ?_ _ | refine Kp.drew ?_ | refine Kp.drewN _ ?_)))⟩ ?_
  rintro U1 ⟨xA3, xAR3, xAZ, xPDz, xK3, xZ3⟩
  have A3 : Hid (At U1 w.heap.size p) := xA3
  have AR3 : Hid (U1.heap[V0.heap.size]? = some (.cells #[.int .i64 1, .int .i64 0, .int .i64 0, .int .i64 0, .int .u64 (wd p 0 : Nat), .int .u64 (wd p 1 : Nat), .int .u64 (wd p 2 : Nat), .int .u64 (wd p 3 : Nat), .slice none 0 0] 27)) := xAR3
  have AZ : Hid (U1.heap[V2.heap.size]? = some (rxo k1 mn1 mx1 m1 s1 (.slice ad1 l1 c1))) := xAZ
  have PDz : Hid (Pd U1 T1 k1 mn1 mx1 m1 s1 ad1 l1 c1) := xPDz
  have K3 : Hid (Kp w U1) := xK3
  have Z3 : Hid (∃ mz, U1.cell? ⟨0, 0, none⟩ = some (.int .i64 mz)) := xZ3
  clear xA3 xAR3 xAZ xPDz xK3 xZ3
  clear PD1 KV1 A2 AR2 K2 Z2
  obtain ⟨x0, x1, x2, x3⟩ := A3.out.cells
  go_upto_region 5 with fail
  clear x0 x1 x2 x3 es
  have p0 := bl_cell (AR3.out) 0 _ rfl
  have p1 := bl_cell (AR3.out) 1 _ rfl
  have p2 := bl_cell (AR3.out) 2 _ rfl
  have p3 := bl_cell (AR3.out) 3 _ rfl
  have p4 := bl_cell (AR3.out) 4 _ rfl
  have p5 := bl_cell (AR3.out) 5 _ rfl
  have p6 := bl_cell (AR3.out) 6 _ rfl
  have p7 := bl_cell (AR3.out) 7 _ rfl
  have p8 := bl_cell (AR3.out) 8 _ rfl
  have z0 := bl_cell (AZ.out) 0 _ rfl
  have z1 := bl_cell (AZ.out) 1 _ rfl
  have z2 := bl_cell (AZ.out) 2 _ rfl
  have z3 := bl_cell (AZ.out) 3 _ rfl
  have z4 := bl_cell (AZ.out) 4 _ rfl
  have z5 := bl_cell (AZ.out) 5 _ rfl
  have z6 := bl_cell (AZ.out) 6 _ rfl
  have z7 := bl_cell (AZ.out) 7 _ rfl
  have z8 := bl_cell (AZ.out) 8 _ rfl
  go_wp2_with fail
  refine (KS.out _ _ _ PDz.out.is).mono ?_
  rintro e Y2 ⟨rfl, y2⟩
  have K4 := hid (K3.out.trans y2)
  have Z4 := hid (cell0 Z3.out y2)
  clear y2 p0 p1 p2 p3 p4 p5 p6 p7 p8 z0 z1 z2 z3 z4 z5 z6 z7 z8 AR3 AZ PDz K3 Z3 A3
  go_upto_region 7 with fail
  refine opq (fun V4 => Kp w V4 ∧ ∃ mz, V4.cell? ⟨0, 0, none⟩ = some (.int .i64 mz)) ⟨by exact K4.out.trans (by repeat (first | exact Kp.refl _ | refine Kp.alloc ?_ _ | refine Kp.drew ?_ | refine Kp.drewN _ ?_)), by exact cell0 Z4.out (by repeat (first | exact Kp.refl _ | refine Kp.alloc ?_ _ | refine Kp.drew ?_ | refine Kp.drewN _ ?_))⟩ ?_
  rintro V4 ⟨xK5, xZ5⟩
  have K5 : Hid (Kp w V4) := xK5
  have Z5 : Hid (∃ mz, V4.cell? ⟨0, 0, none⟩ = some (.int .i64 mz)) := xZ5
  clear xK5 xZ5
  clear K4 Z4
  obtain ⟨q1, h1⟩ : ∃ q, ((f : Int) != 93) = q := ⟨_, rfl⟩
  obtain ⟨q2, h2⟩ : ∃ q, ((f : Int) != 94) = q := ⟨_, rfl⟩
  obtain ⟨q3, h3⟩ : ∃ q, ((f : Int) != 45) = q := ⟨_, rfl⟩
  obtain ⟨q4, h4⟩ : ∃ q, ((f : Int) != 91) = q := ⟨_, rfl⟩
  obtain ⟨q5, h5⟩ : ∃ q, ((t : Int) != 93) = q := ⟨_, rfl⟩
  obtain ⟨q6, h6⟩ : ∃ q, ((t : Int) != 91) = q := ⟨_, rfl⟩
  obtain ⟨q7, h7⟩ : ∃ q, ((t : Int) != 45) = q := ⟨_, rfl⟩
  have MB : Hid (mayB f t = (q1 && q2 && q3 && q4 && q5 && q6 && q7)) := by
    show _ = _
    unfold mayB
    rw [← h1, ← h2, ← h3, ← h4, ← h5, ← h6, ← h7]
    rw [show ((f : Int) != 93) = !(f == 93) from beq_cast2 f 93, show ((f : Int) != 94) = !(f == 94) from beq_cast2 f 94, show ((f : Int) != 45) = !(f == 45) from beq_cast2 f 45, show ((f : Int) != 91) = !(f == 91) from beq_cast2 f 91, show ((t : Int) != 93) = !(t == 93) from beq_cast2 t 93, show ((t : Int) != 91) = !(t == 91) from beq_cast2 t 91, show ((t : Int) != 45) = !(t == 45) from beq_cast2 t 45]
  go_cut [79] (fun v wc => v = .bool (mayB f t) ∧ Kp V4 wc)
  case first =>
    cases q1 with
    | false =>
      go_wp2_with fail
      go_meet
      case rel => exact ⟨by rw [MB.out]; first | rfl | simp, Kp.refl _⟩
    | true =>
      cases q2 with
      | false =>
        go_wp2_with fail
        go_meet
        case rel => exact ⟨by rw [MB.out]; first | rfl | simp, Kp.refl _⟩
      | true =>
        cases q3 with
        | false =>
          go_wp2_with fail
          go_meet
          case rel => exact ⟨by rw [MB.out]; first | rfl | simp, Kp.refl _⟩
        | true =>
          cases q4 with
          | false =>
            go_wp2_with fail
            go_meet
            case rel => exact ⟨by rw [MB.out]; first | rfl | simp, Kp.refl _⟩
          | true =>
            cases q5 with
            | false =>
              go_wp2_with fail
              go_meet
              case rel => exact ⟨by rw [MB.out]; first | rfl | simp, Kp.refl _⟩
            | true =>
              cases q6 with
              | false =>
                go_wp2_with fail
                go_meet
                case rel => exact ⟨by rw [MB.out]; first | rfl | simp, Kp.refl _⟩
              | true =>
                cases q7 with
                | false =>
                  go_wp2_with fail
                  go_meet
                  case rel => exact ⟨by rw [MB.out]; first | rfl | simp, Kp.refl _⟩
                | true =>
                  go_wp2_with fail
                  go_meet
                  case rel => exact ⟨by rw [MB.out]; rfl, Kp.refl _⟩
  case rest =>
  obtain ⟨rfl, kx⟩ := hcut
  rename World => V9
  have K9 := hid (K5.out.trans kx)
  have Z9 := hid (cell0 Z5.out kx)
  clear kx K5 Z5
  have K5 := K9
  have Z5 := Z9
  clear K9 Z9
  clear MB h1 h2 h3 h4 h5 h6 h7
  obtain ⟨G, hG⟩ : ∃ G, mayB f t = G := ⟨_, rfl⟩
  rw [hG]
  have HG := hid hG
  clear hG
  go_upto_if 79 with fail
  go_cut [] (fun wc => Kp V9 wc)
  case first =>
    cases G with
    | false =>
      go_wp2_with fail
      go_meet
      case rel => exact Kp.refl _
    | true =>
      have hm := HG.out
      unfold mayB at hm
      simp only [Bool.and_eq_true, Bool.not_eq_true', beq_eq_false_iff_ne] at hm
      obtain ⟨⟨⟨⟨⟨⟨f1, f2⟩, f3⟩, f4⟩, t1⟩, t2⟩, t3⟩ := hm
      have RR := hid (RP.out f1 f2 f3 f4 t1 t2 t3)
      clear f1 f2 f3 f4 t1 t2 t3 HG
      have cv1 := conv_one V9 f hf
      have cv2 := conv_one (V9.alloc (.cells #[.int .u8 (f : Int)] 5)) t ht
      rw [show (V9.alloc (.cells #[.int .u8 (f : Int)] 5)).heap.size = V9.heap.size + 1 by simp] at cv2
      have hz1 : (bs [UInt8.ofNat f]).size ≤ 10 := by rw [bs_size]; simp
      have hz2 : (bs [UInt8.ofNat t]).size ≤ 10 := by rw [bs_size]; simp
      have TX : Hid (⟨#[91]⟩ ++ bs [UInt8.ofNat f] ++ ⟨#[45]⟩ ++ bs [UInt8.ofNat t] ++ ⟨#[93]⟩ = bs [91, UInt8.ofNat f, 45, UInt8.ofNat t, 93]) := by
        show bs [91] ++ bs [UInt8.ofNat f] ++ bs [45] ++ bs [UInt8.ofNat t] ++ bs [93] = _
        rw [bs_app, bs_app, bs_app, bs_app]
        rfl
      have hXs : (bs [91, UInt8.ofNat f, 45, UInt8.ofNat t, 93]).size ≤ 1000000 := by rw [bs_size]; simp
      obtain ⟨F, hF⟩ : ∃ F, bs [UInt8.ofNat f] = F := ⟨_, rfl⟩
      obtain ⟨T, hT⟩ : ∃ F, bs [UInt8.ofNat t] = F := ⟨_, rfl⟩
      obtain ⟨X, hX⟩ : ∃ F, bs [91, UInt8.ofNat f, 45, UInt8.ofNat t, 93] = F := ⟨_, rfl⟩
      rw [hF] at cv1 hz1 TX
      rw [hT] at cv2 hz2 TX
      rw [hX] at TX RR hXs
      clear hF hT hX
      by_cases hle : f ≤ t
      · have hlei : (f : Int) ≤ (t : Int) := by omega
        have hp := RR.out
        rw [if_pos hle] at hp
        have PX := hid (parse_at X ere _ 0 0 hXs hp)
        clear hp RR
        go_wp2_with fail
        rw [TX.out]
        refine (PX.out _ (cell0 Z5.out (by repeat (first | exact Kp.refl _ | refine Kp.alloc ?_ _ | refine Kp.drew ?_ | refine Kp.drewN _ ?_)))).mono ?_
        rintro en V6 ⟨k6, mn6, mx6, m6, s6, ad6, l6, c6, rfl, pd6, kv6⟩
        have KV6 : Hid (Kp V9 V6) := Kp.trans (by repeat (first | exact Kp.refl _ | refine Kp.alloc ?_ _ | refine Kp.drew ?_ | refine Kp.drewN _ ?_)) kv6
        have hs6 : s6 = W4.of (rng f t) := pd6.all.2.2
        subst hs6
        clear kv6 pd6 cv1 cv2
        go_upto_region 9 with fail
        refine opq (fun U6 => U6.heap[V6.heap.size]? = some (rxo k6 mn6 mx6 m6 (W4.of (rng f t)) (.slice ad6 l6 c6)) ∧ Kp V9 U6) ⟨by (first | exact last_at _ _ _ (by simp) | (refine bl_alloc ?_ _; first | exact last_at _ _ _ (by simp) | (refine bl_alloc ?_ _; first | exact last_at _ _ _ (by simp) | (refine bl_alloc ?_ _; exact last_at _ _ _ (by simp))))), by exact KV6.out.trans (by repeat (first | exact Kp.refl _ | refine Kp.alloc ?_ _ | refine Kp.drew ?_ | refine Kp.drewN _ ?_))⟩ ?_
        rintro U6 ⟨xA6, xK6⟩
        have A6 : Hid (U6.heap[V6.heap.size]? = some (rxo k6 mn6 mx6 m6 (W4.of (rng f t)) (.slice ad6 l6 c6))) := xA6
        have K6 : Hid (Kp V9 U6) := xK6
        clear xA6 xK6
        clear KV6
        have es : ∀ W, (Op.equalIn 10000 24 (sv (rng f t)) (sv (rng f t))).run Tryz.prog W = .ok true W := fun W => by rw [eq_vv]; simp
        have Q0 : Kp U6 U6.drew := (Kp.refl _).drew
        have MK : Hid (∀ W, Kp U6 W → W.cell? ⟨V6.heap.size, 4, none⟩ = some (Value.int .u64 (wd (rng f t) 0 : Nat)) ∧ W.cell? ⟨V6.heap.size, 5, none⟩ = some (Value.int .u64 (wd (rng f t) 1 : Nat)) ∧ W.cell? ⟨V6.heap.size, 6, none⟩ = some (Value.int .u64 (wd (rng f t) 2 : Nat)) ∧ W.cell? ⟨V6.heap.size, 7, none⟩ = some (Value.int .u64 (wd (rng f t) 3 : Nat)) ∧ Hid (Kp U6 W)) := fun W k => ⟨bl_cell (bl_kp A6.out k) 4 _ rfl, bl_cell (bl_kp A6.out k) 5 _ rfl, bl_cell (bl_kp A6.out k) 6 _ rfl, bl_cell (bl_kp A6.out k) 7 _ rfl, k⟩
        refine wp_region_noPanic ?_
        refine wp_region_held_drew (S := (fun W => W.cell? ⟨V6.heap.size, 4, none⟩ = some (Value.int .u64 (wd (rng f t) 0 : Nat)) ∧ W.cell? ⟨V6.heap.size, 5, none⟩ = some (Value.int .u64 (wd (rng f t) 1 : Nat)) ∧ W.cell? ⟨V6.heap.size, 6, none⟩ = some (Value.int .u64 (wd (rng f t) 2 : Nat)) ∧ W.cell? ⟨V6.heap.size, 7, none⟩ = some (Value.int .u64 (wd (rng f t) 3 : Nat)) ∧ Hid (Kp U6 W))) (by kernel_rfl) ?_ (fun hH => ?_)
        · exact MK.out _ Q0
        have KQ := Q0
        refine wpAnyH_take (i := 0) (oi := { dst := some 96, op := Op.move (Operand.tmp 15), type := 28, pos := "law.go:104", after := #[], guard := none }) (v := ?v0x1) rfl (by kernel_rfl) (by kernel_rfl) (by kernel_rfl) (fun _ _ _ h => h) (Or.inl ⟨by rfl, ?hy0x1⟩) hH ?r0x1
        case hy0x1 => (intro W hSw; (try dsimp only at hSw); go_simp; try (with_reducible rfl))
        try simp only [Act.put, List.setIfInBounds_toArray, List.set_cons_zero, List.set_cons_succ]
        refine wpAnyH_take (i := 1) (oi := { dst := some 97, op := Op.binOp BinOp.eql 28 (Operand.tmp 96) (Operand.const (Value.int IntKind.i64 0)) 28, type := 4, pos := "law.go:104", after := #[{ on := 0, ground := Ground.data }], guard := none }) (v := ?v1x2) rfl (by kernel_rfl) (by kernel_rfl) (by kernel_rfl) (fun _ _ _ h => h) (Or.inl ⟨by rfl, ?hy1x2⟩) hH ?r1x2
        case hy1x2 => (intro W hSw; (try dsimp only at hSw); go_simp; try (with_reducible rfl))
        try simp only [Act.put, List.setIfInBounds_toArray, List.set_cons_zero, List.set_cons_succ]
        refine wpAnyH_take (i := 2) (oi := { dst := some 98, op := Op.move (Operand.tmp 1), type := 5, pos := "law.go:104", after := #[], guard := none }) (v := ?v2x3) rfl (by kernel_rfl) (by kernel_rfl) (by kernel_rfl) (fun _ _ _ h => h) (Or.inl ⟨by rfl, ?hy2x3⟩) hH ?r2x3
        case hy2x3 => (intro W hSw; (try dsimp only at hSw); go_simp; try (with_reducible rfl))
        try simp only [Act.put, List.setIfInBounds_toArray, List.set_cons_zero, List.set_cons_succ]
        refine wpAnyH_take (i := 3) (oi := { dst := some 99, op := Op.move (Operand.tmp 2), type := 5, pos := "law.go:104", after := #[], guard := none }) (v := ?v3x4) rfl (by kernel_rfl) (by kernel_rfl) (by kernel_rfl) (fun _ _ _ h => h) (Or.inl ⟨by rfl, ?hy3x4⟩) hH ?r3x4
        case hy3x4 => (intro W hSw; (try dsimp only at hSw); go_simp; try (with_reducible rfl))
        try simp only [Act.put, List.setIfInBounds_toArray, List.set_cons_zero, List.set_cons_succ]
        refine wpAnyH_take (i := 4) (oi := { dst := some 100, op := Op.binOp BinOp.leq 5 (Operand.tmp 98) (Operand.tmp 99) 5, type := 4, pos := "law.go:104", after := #[{ on := 2, ground := Ground.data }, { on := 3, ground := Ground.data }], guard := none }) (v := ?v4x5) rfl (by kernel_rfl) (by kernel_rfl) (by kernel_rfl) (fun _ _ _ h => h) (Or.inl ⟨by rfl, ?hy4x5⟩) hH ?r4x5
        case hy4x5 => (intro W hSw; (try dsimp only at hSw); go_simp; try (with_reducible rfl))
        try simp only [Act.put, List.setIfInBounds_toArray, List.set_cons_zero, List.set_cons_succ]
        refine wpAnyH_take (i := 5) (oi := { dst := some 101, op := Op.binOp BinOp.neq 4 (Operand.tmp 97) (Operand.tmp 100) 4, type := 4, pos := "law.go:104", after := #[{ on := 1, ground := Ground.data }, { on := 4, ground := Ground.data }], guard := none }) (v := ?v5x6) rfl (by kernel_rfl) (by kernel_rfl) (by kernel_rfl) (fun _ _ _ h => h) (Or.inl ⟨by rfl, ?hy5x6⟩) hH ?r5x6
        case hy5x6 => (intro W hSw; (try dsimp only at hSw); go_simp; try (with_reducible rfl))
        try simp only [Act.put, List.setIfInBounds_toArray, List.set_cons_zero, List.set_cons_succ]
        refine wpAnyH_take (i := 6) (oi := { dst := some 102, op := Op.move (Operand.tmp 101), type := 4, pos := "law.go:104", after := #[{ on := 5, ground := Ground.data }], guard := none }) (v := ?v6x7) rfl (by kernel_rfl) (by kernel_rfl) (by kernel_rfl) (fun _ _ _ h => h) (Or.inl ⟨by rfl, ?hy6x7⟩) hH ?r6x7
        case hy6x7 => (intro W hSw; (try dsimp only at hSw); go_simp; try (with_reducible rfl))
        try simp only [Act.put, List.setIfInBounds_toArray, List.set_cons_zero, List.set_cons_succ]
        refine wpAnyH_take (i := 7) (oi := { dst := some 103, op := Op.move (Operand.tmp 15), type := 28, pos := "law.go:104", after := #[{ on := 6, ground := Ground.guard }], guard := some (6, false) }) (v := ?v7x8) rfl (by kernel_rfl) (by kernel_rfl) (by kernel_rfl) (fun _ _ _ h => h) (Or.inl ⟨by rfl, ?hy7x8⟩) hH ?r7x8
        case hy7x8 => (intro W hSw; (try dsimp only at hSw); go_simp; try (with_reducible rfl))
        try simp only [Act.put, List.setIfInBounds_toArray, List.set_cons_zero, List.set_cons_succ]
        refine wpAnyH_take (i := 8) (oi := { dst := some 104, op := Op.binOp BinOp.eql 28 (Operand.tmp 103) (Operand.const (Value.int IntKind.i64 0)) 28, type := 4, pos := "law.go:104", after := #[{ on := 7, ground := Ground.data }, { on := 6, ground := Ground.guard }], guard := some (6, false) }) (v := ?v8x9) rfl (by kernel_rfl) (by kernel_rfl) (by kernel_rfl) (fun _ _ _ h => h) (Or.inl ⟨by rfl, ?hy8x9⟩) hH ?r8x9
        case hy8x9 => (intro W hSw; (try dsimp only at hSw); go_simp; try (with_reducible rfl))
        try simp only [Act.put, List.setIfInBounds_toArray, List.set_cons_zero, List.set_cons_succ]
        refine wpAnyH_take (i := 9) (oi := { dst := some 105, op := Op.move (Operand.tmp 104), type := 4, pos := "law.go:104", after := #[{ on := 8, ground := Ground.data }, { on := 6, ground := Ground.chain }, { on := 6, ground := Ground.guard }], guard := some (6, false) }) (v := ?v9x10) rfl (by kernel_rfl) (by kernel_rfl) (by kernel_rfl) (fun _ _ _ h => h) (Or.inl ⟨by rfl, ?hy9x10⟩) hH ?r9x10
        case hy9x10 => (intro W hSw; (try dsimp only at hSw); go_simp; try (with_reducible rfl))
        try simp only [Act.put, List.setIfInBounds_toArray, List.set_cons_zero, List.set_cons_succ]
        refine wpAnyH_take (i := 10) (oi := { dst := some 106, op := Op.fieldAddr 27 (Operand.tmp 13) 4, type := 0, pos := "law.go:104", after := #[{ on := 9, ground := Ground.guard }], guard := some (9, true) }) (v := ?v10x11) rfl (by kernel_rfl) (by kernel_rfl) (by kernel_rfl) (fun _ _ _ h => h) (Or.inl ⟨by rfl, ?hy10x11⟩) hH ?r10x11
        case hy10x11 => (intro W hSw; (try dsimp only at hSw); go_simp; try (with_reducible rfl))
        try simp only [Act.put, List.setIfInBounds_toArray, List.set_cons_zero, List.set_cons_succ]
        refine wpAnyH_take (i := 11) (oi := { dst := some 107, op := Op.load 24 (Operand.tmp 106), type := 24, pos := "law.go:104", after := #[{ on := 10, ground := Ground.data }, { on := 9, ground := Ground.guard }], guard := some (9, true) }) (v := ?v11x12) rfl (by kernel_rfl) (by kernel_rfl) (by kernel_rfl) (fun _ _ _ h => h) (Or.inl ⟨by rfl, ?hy11x12⟩) hH ?r11x12
        case hy11x12 => (intro W hSw; (try dsimp only at hSw); go_simp; try (with_reducible rfl))
        try simp only [Act.put, List.setIfInBounds_toArray, List.set_cons_zero, List.set_cons_succ]
        refine wpAnyH_take (i := 12) (oi := { dst := some 108, op := Op.move (Operand.tmp 1), type := 5, pos := "law.go:104", after := #[{ on := 9, ground := Ground.guard }], guard := some (9, true) }) (v := ?v12x13) rfl (by kernel_rfl) (by kernel_rfl) (by kernel_rfl) (fun _ _ _ h => h) (Or.inl ⟨by rfl, ?hy12x13⟩) hH ?r12x13
        case hy12x13 => (intro W hSw; (try dsimp only at hSw); go_simp; try (with_reducible rfl))
        try simp only [Act.put, List.setIfInBounds_toArray, List.set_cons_zero, List.set_cons_succ]
        refine wpAnyH_take (i := 13) (oi := { dst := some 109, op := Op.move (Operand.tmp 2), type := 5, pos := "law.go:104", after := #[{ on := 9, ground := Ground.guard }], guard := some (9, true) }) (v := ?v13x14) rfl (by kernel_rfl) (by kernel_rfl) (by kernel_rfl) (fun _ _ _ h => h) (Or.inl ⟨by rfl, ?hy13x14⟩) hH ?r13x14
        case hy13x14 => (intro W hSw; (try dsimp only at hSw); go_simp; try (with_reducible rfl))
        try simp only [Act.put, List.setIfInBounds_toArray, List.set_cons_zero, List.set_cons_succ]
        refine wpAnyH_ready (rs := [14]) (by kernel_rfl) (by simp) ?_
        refine AllReadyH.cons (o := { dst := some 110, op := Op.call { callee := Callee.value (Operand.func 22), args := #[Operand.tmp 108, Operand.tmp 109], argTypes := #[5, 5] }, type := 24, pos := "law.go:104", after := #[{ on := 12, ground := Ground.data }, { on := 13, ground := Ground.data }, { on := 9, ground := Ground.chain }, { on := 9, ground := Ground.guard }], guard := some (9, true) }) rfl (fun K hKq => ?_) AllReadyH.nil
        go_simp
        refine (range_any f t _ hf ht).mono ?_
        rintro e y1 ⟨rfl, kq⟩
        refine hKq.out _ _ (MK.out _ (KQ.trans kq)) (fun hN => ?_)
        clear kq
        clear hKq K hH KQ
        have hH := hN
        clear hN
        have KQ := hH.2.2.2.2.out
        try simp only [Act.put, List.setIfInBounds_toArray, List.set_cons_zero, List.set_cons_succ]
        refine wpAnyH_take (i := 15) (oi := { dst := some 111, op := Op.binOp BinOp.neq 24 (Operand.tmp 107) (Operand.tmp 110) 24, type := 4, pos := "law.go:104", after := #[{ on := 11, ground := Ground.data }, { on := 14, ground := Ground.data }, { on := 9, ground := Ground.guard }], guard := some (9, true) }) (v := ?v15x15) rfl (by kernel_rfl) (by kernel_rfl) (by kernel_rfl) (fun _ _ _ h => h) (Or.inl ⟨by rfl, ?hy15x15⟩) hH ?r15x15
        case hy15x15 => (intro W hSw; (try dsimp only at hSw); go_simp; try (with_reducible rfl))
        try simp only [Act.put, List.setIfInBounds_toArray, List.set_cons_zero, List.set_cons_succ]
        refine wpAnyH_take (i := 16) (oi := { dst := some 112, op := Op.pick (Operand.tmp 105) (Operand.tmp 111) (Operand.const (Value.bool false)), type := 4, pos := "law.go:104", after := #[{ on := 9, ground := Ground.data }, { on := 15, ground := Ground.data }, { on := 6, ground := Ground.guard }], guard := some (6, false) }) (v := ?v16x16) rfl (by kernel_rfl) (by kernel_rfl) (by kernel_rfl) (fun _ _ _ h => h) (Or.inl ⟨by rfl, ?hy16x16⟩) hH ?r16x16
        case hy16x16 => (intro W hSw; (try dsimp only at hSw); go_simp; try (with_reducible rfl))
        try simp only [Act.put, List.setIfInBounds_toArray, List.set_cons_zero, List.set_cons_succ]
        refine wpAnyH_take (i := 17) (oi := { dst := some 113, op := Op.pick (Operand.tmp 102) (Operand.const (Value.bool true)) (Operand.tmp 112), type := 4, pos := "law.go:104", after := #[{ on := 6, ground := Ground.data }, { on := 16, ground := Ground.data }], guard := none }) (v := ?v17x17) rfl (by kernel_rfl) (by kernel_rfl) (by kernel_rfl) (fun _ _ _ h => h) (Or.inl ⟨by rfl, ?hy17x17⟩) hH ?r17x17
        case hy17x17 => (intro W hSw; (try dsimp only at hSw); go_simp; try (with_reducible rfl))
        try simp only [Act.put, List.setIfInBounds_toArray, List.set_cons_zero, List.set_cons_succ]
        refine wpAnyH_done (by kernel_rfl) ?_ _
        refine NoPanic.normal ?_
        go_wp2_with fail
        go_meet
        case rel => exact K6.out.trans KQ
      · have hlei : ¬ (f : Int) ≤ (t : Int) := by omega
        have hp := RR.out
        rw [if_neg hle] at hp
        obtain ⟨nx, hp⟩ := hp
        have PX := hid (parse_at X ere _ nx 1 hXs hp)
        clear hp RR
        go_wp2_with fail
        rw [TX.out]
        refine (PX.out _ (cell0 Z5.out (by repeat (first | exact Kp.refl _ | refine Kp.alloc ?_ _ | refine Kp.drew ?_ | refine Kp.drewN _ ?_)))).mono ?_
        rintro en V6 ⟨k6, mn6, mx6, m6, s6, ad6, l6, c6, rfl, pd6, kv6⟩
        have KV6 : Hid (Kp V9 V6) := Kp.trans (by repeat (first | exact Kp.refl _ | refine Kp.alloc ?_ _ | refine Kp.drew ?_ | refine Kp.drewN _ ?_)) kv6
        clear kv6 pd6 cv1 cv2
        go_upto_region 9 with fail
        refine opq (fun U6 => Kp V9 U6 ∧ True) ⟨by exact KV6.out.trans (by repeat (first | exact Kp.refl _ | refine Kp.alloc ?_ _ | refine Kp.drew ?_ | refine Kp.drewN _ ?_)), by trivial⟩ ?_
        rintro U6 ⟨xK6, xK6z⟩
        have K6 : Hid (Kp V9 U6) := xK6
        have K6z : Hid (True) := xK6z
        clear xK6 xK6z
        clear KV6
        have Q0 : Kp U6 U6.drew := (Kp.refl _).drew
        have MK : Hid (∀ W, Kp U6 W → Hid (Kp U6 W)) := fun W k => k
        refine wp_region_noPanic ?_
        refine wp_region_held_drew (S := (fun W => Hid (Kp U6 W))) (by kernel_rfl) ?_ (fun hH => ?_)
        · exact MK.out _ Q0
        have KQ := Q0
        refine wpAnyH_take (i := 0) (oi := { dst := some 96, op := Op.move (Operand.tmp 15), type := 28, pos := "law.go:104", after := #[], guard := none }) (v := ?v0y1) rfl (by kernel_rfl) (by kernel_rfl) (by kernel_rfl) (fun _ _ _ h => h) (Or.inl ⟨by rfl, ?hy0y1⟩) hH ?r0y1
        case hy0y1 => (intro W hSw; (try dsimp only at hSw); go_simp; try (with_reducible rfl))
        try simp only [Act.put, List.setIfInBounds_toArray, List.set_cons_zero, List.set_cons_succ]
        refine wpAnyH_take (i := 1) (oi := { dst := some 97, op := Op.binOp BinOp.eql 28 (Operand.tmp 96) (Operand.const (Value.int IntKind.i64 0)) 28, type := 4, pos := "law.go:104", after := #[{ on := 0, ground := Ground.data }], guard := none }) (v := ?v1y2) rfl (by kernel_rfl) (by kernel_rfl) (by kernel_rfl) (fun _ _ _ h => h) (Or.inl ⟨by rfl, ?hy1y2⟩) hH ?r1y2
        case hy1y2 => (intro W hSw; (try dsimp only at hSw); go_simp; try (with_reducible rfl))
        try simp only [Act.put, List.setIfInBounds_toArray, List.set_cons_zero, List.set_cons_succ]
        refine wpAnyH_take (i := 2) (oi := { dst := some 98, op := Op.move (Operand.tmp 1), type := 5, pos := "law.go:104", after := #[], guard := none }) (v := ?v2y3) rfl (by kernel_rfl) (by kernel_rfl) (by kernel_rfl) (fun _ _ _ h => h) (Or.inl ⟨by rfl, ?hy2y3⟩) hH ?r2y3
        case hy2y3 => (intro W hSw; (try dsimp only at hSw); go_simp; try (with_reducible rfl))
        try simp only [Act.put, List.setIfInBounds_toArray, List.set_cons_zero, List.set_cons_succ]
        refine wpAnyH_take (i := 3) (oi := { dst := some 99, op := Op.move (Operand.tmp 2), type := 5, pos := "law.go:104", after := #[], guard := none }) (v := ?v3y4) rfl (by kernel_rfl) (by kernel_rfl) (by kernel_rfl) (fun _ _ _ h => h) (Or.inl ⟨by rfl, ?hy3y4⟩) hH ?r3y4
        case hy3y4 => (intro W hSw; (try dsimp only at hSw); go_simp; try (with_reducible rfl))
        try simp only [Act.put, List.setIfInBounds_toArray, List.set_cons_zero, List.set_cons_succ]
        refine wpAnyH_take (i := 4) (oi := { dst := some 100, op := Op.binOp BinOp.leq 5 (Operand.tmp 98) (Operand.tmp 99) 5, type := 4, pos := "law.go:104", after := #[{ on := 2, ground := Ground.data }, { on := 3, ground := Ground.data }], guard := none }) (v := ?v4y5) rfl (by kernel_rfl) (by kernel_rfl) (by kernel_rfl) (fun _ _ _ h => h) (Or.inl ⟨by rfl, ?hy4y5⟩) hH ?r4y5
        case hy4y5 => (intro W hSw; (try dsimp only at hSw); go_simp; try (with_reducible rfl))
        try simp only [Act.put, List.setIfInBounds_toArray, List.set_cons_zero, List.set_cons_succ]
        refine wpAnyH_take (i := 5) (oi := { dst := some 101, op := Op.binOp BinOp.neq 4 (Operand.tmp 97) (Operand.tmp 100) 4, type := 4, pos := "law.go:104", after := #[{ on := 1, ground := Ground.data }, { on := 4, ground := Ground.data }], guard := none }) (v := ?v5y6) rfl (by kernel_rfl) (by kernel_rfl) (by kernel_rfl) (fun _ _ _ h => h) (Or.inl ⟨by rfl, ?hy5y6⟩) hH ?r5y6
        case hy5y6 => (intro W hSw; (try dsimp only at hSw); go_simp; try (with_reducible rfl))
        try simp only [Act.put, List.setIfInBounds_toArray, List.set_cons_zero, List.set_cons_succ]
        refine wpAnyH_take (i := 6) (oi := { dst := some 102, op := Op.move (Operand.tmp 101), type := 4, pos := "law.go:104", after := #[{ on := 5, ground := Ground.data }], guard := none }) (v := ?v6y7) rfl (by kernel_rfl) (by kernel_rfl) (by kernel_rfl) (fun _ _ _ h => h) (Or.inl ⟨by rfl, ?hy6y7⟩) hH ?r6y7
        case hy6y7 => (intro W hSw; (try dsimp only at hSw); go_simp; try (with_reducible rfl))
        try simp only [Act.put, List.setIfInBounds_toArray, List.set_cons_zero, List.set_cons_succ]
        refine wpAnyH_take (i := 7) (oi := { dst := some 103, op := Op.move (Operand.tmp 15), type := 28, pos := "law.go:104", after := #[{ on := 6, ground := Ground.guard }], guard := some (6, false) }) (v := ?v7y8) rfl (by kernel_rfl) (by kernel_rfl) (by kernel_rfl) (fun _ _ _ h => h) (Or.inl ⟨by rfl, ?hy7y8⟩) hH ?r7y8
        case hy7y8 => (intro W hSw; (try dsimp only at hSw); go_simp; try (with_reducible rfl))
        try simp only [Act.put, List.setIfInBounds_toArray, List.set_cons_zero, List.set_cons_succ]
        refine wpAnyH_take (i := 8) (oi := { dst := some 104, op := Op.binOp BinOp.eql 28 (Operand.tmp 103) (Operand.const (Value.int IntKind.i64 0)) 28, type := 4, pos := "law.go:104", after := #[{ on := 7, ground := Ground.data }, { on := 6, ground := Ground.guard }], guard := some (6, false) }) (v := ?v8y9) rfl (by kernel_rfl) (by kernel_rfl) (by kernel_rfl) (fun _ _ _ h => h) (Or.inl ⟨by rfl, ?hy8y9⟩) hH ?r8y9
        case hy8y9 => (intro W hSw; (try dsimp only at hSw); go_simp; try (with_reducible rfl))
        try simp only [Act.put, List.setIfInBounds_toArray, List.set_cons_zero, List.set_cons_succ]
        refine wpAnyH_take (i := 9) (oi := { dst := some 105, op := Op.move (Operand.tmp 104), type := 4, pos := "law.go:104", after := #[{ on := 8, ground := Ground.data }, { on := 6, ground := Ground.chain }, { on := 6, ground := Ground.guard }], guard := some (6, false) }) (v := ?v9y10) rfl (by kernel_rfl) (by kernel_rfl) (by kernel_rfl) (fun _ _ _ h => h) (Or.inl ⟨by rfl, ?hy9y10⟩) hH ?r9y10
        case hy9y10 => (intro W hSw; (try dsimp only at hSw); go_simp; try (with_reducible rfl))
        try simp only [Act.put, List.setIfInBounds_toArray, List.set_cons_zero, List.set_cons_succ]
        refine wpAnyH_take (i := 10) (oi := { dst := some 106, op := Op.fieldAddr 27 (Operand.tmp 13) 4, type := 0, pos := "law.go:104", after := #[{ on := 9, ground := Ground.guard }], guard := some (9, true) }) (v := undef) rfl (by kernel_rfl) (by kernel_rfl) (by kernel_rfl) (fun _ _ _ h => h) (Or.inr ⟨by rfl, rfl⟩) hH ?r10y11
        try simp only [Act.put, List.setIfInBounds_toArray, List.set_cons_zero, List.set_cons_succ]
        refine wpAnyH_take (i := 11) (oi := { dst := some 107, op := Op.load 24 (Operand.tmp 106), type := 24, pos := "law.go:104", after := #[{ on := 10, ground := Ground.data }, { on := 9, ground := Ground.guard }], guard := some (9, true) }) (v := undef) rfl (by kernel_rfl) (by kernel_rfl) (by kernel_rfl) (fun _ _ _ h => h) (Or.inr ⟨by rfl, rfl⟩) hH ?r11y12
        try simp only [Act.put, List.setIfInBounds_toArray, List.set_cons_zero, List.set_cons_succ]
        refine wpAnyH_take (i := 12) (oi := { dst := some 108, op := Op.move (Operand.tmp 1), type := 5, pos := "law.go:104", after := #[{ on := 9, ground := Ground.guard }], guard := some (9, true) }) (v := undef) rfl (by kernel_rfl) (by kernel_rfl) (by kernel_rfl) (fun _ _ _ h => h) (Or.inr ⟨by rfl, rfl⟩) hH ?r12y13
        try simp only [Act.put, List.setIfInBounds_toArray, List.set_cons_zero, List.set_cons_succ]
        refine wpAnyH_take (i := 13) (oi := { dst := some 109, op := Op.move (Operand.tmp 2), type := 5, pos := "law.go:104", after := #[{ on := 9, ground := Ground.guard }], guard := some (9, true) }) (v := undef) rfl (by kernel_rfl) (by kernel_rfl) (by kernel_rfl) (fun _ _ _ h => h) (Or.inr ⟨by rfl, rfl⟩) hH ?r13y14
        try simp only [Act.put, List.setIfInBounds_toArray, List.set_cons_zero, List.set_cons_succ]
        refine wpAnyH_take (i := 14) (oi := { dst := some 110, op := Op.call { callee := Callee.value (Operand.func 22), args := #[Operand.tmp 108, Operand.tmp 109], argTypes := #[5, 5] }, type := 24, pos := "law.go:104", after := #[{ on := 12, ground := Ground.data }, { on := 13, ground := Ground.data }, { on := 9, ground := Ground.chain }, { on := 9, ground := Ground.guard }], guard := some (9, true) }) (v := undef) rfl (by kernel_rfl) (by kernel_rfl) (by kernel_rfl) (fun _ _ _ h => h) (Or.inr ⟨by rfl, rfl⟩) hH ?r14y15
        try simp only [Act.put, List.setIfInBounds_toArray, List.set_cons_zero, List.set_cons_succ]
        refine wpAnyH_take (i := 15) (oi := { dst := some 111, op := Op.binOp BinOp.neq 24 (Operand.tmp 107) (Operand.tmp 110) 24, type := 4, pos := "law.go:104", after := #[{ on := 11, ground := Ground.data }, { on := 14, ground := Ground.data }, { on := 9, ground := Ground.guard }], guard := some (9, true) }) (v := undef) rfl (by kernel_rfl) (by kernel_rfl) (by kernel_rfl) (fun _ _ _ h => h) (Or.inr ⟨by rfl, rfl⟩) hH ?r15y16
        try simp only [Act.put, List.setIfInBounds_toArray, List.set_cons_zero, List.set_cons_succ]
        refine wpAnyH_take (i := 16) (oi := { dst := some 112, op := Op.pick (Operand.tmp 105) (Operand.tmp 111) (Operand.const (Value.bool false)), type := 4, pos := "law.go:104", after := #[{ on := 9, ground := Ground.data }, { on := 15, ground := Ground.data }, { on := 6, ground := Ground.guard }], guard := some (6, false) }) (v := ?v16y17) rfl (by kernel_rfl) (by kernel_rfl) (by kernel_rfl) (fun _ _ _ h => h) (Or.inl ⟨by rfl, ?hy16y17⟩) hH ?r16y17
        case hy16y17 => (intro W hSw; (try dsimp only at hSw); go_simp; try (with_reducible rfl))
        try simp only [Act.put, List.setIfInBounds_toArray, List.set_cons_zero, List.set_cons_succ]
        refine wpAnyH_take (i := 17) (oi := { dst := some 113, op := Op.pick (Operand.tmp 102) (Operand.const (Value.bool true)) (Operand.tmp 112), type := 4, pos := "law.go:104", after := #[{ on := 6, ground := Ground.data }, { on := 16, ground := Ground.data }], guard := none }) (v := ?v17y18) rfl (by kernel_rfl) (by kernel_rfl) (by kernel_rfl) (fun _ _ _ h => h) (Or.inl ⟨by rfl, ?hy17y18⟩) hH ?r17y18
        case hy17y18 => (intro W hSw; (try dsimp only at hSw); go_simp; try (with_reducible rfl))
        try simp only [Act.put, List.setIfInBounds_toArray, List.set_cons_zero, List.set_cons_succ]
        refine wpAnyH_done (by kernel_rfl) ?_ _
        refine NoPanic.normal ?_
        go_wp2_with fail
        go_meet
        case rel => exact K6.out.trans KQ
  case rest =>
  rename World => V7
  have K7 := hid (K5.out.trans hcut)
  have Z7 := hid (cell0 Z5.out hcut)
  clear hcut K5 Z5
  go_wp2_with fail
  refine (PD0.out _ Z7.out).mono ?_
  rintro en V8 ⟨k8, mn8, mx8, m8, s8, ad8, l8, c8, rfl, pd8, kv8⟩
  have KV8 := hid kv8
  have hs8 : s8 = W4.of (orB (rng 48 57) (rng 97 99)) := pd8.all.2.2.trans HDs.out
  subst hs8
  clear kv8 pd8
  go_upto_region 12 with fail
  refine opq (fun U8 => U8.heap[V8.heap.size]? = some (rxo k8 mn8 mx8 m8 (W4.of (orB (rng 48 57) (rng 97 99))) (.slice ad8 l8 c8)) ∧ Kp w U8 ∧ ∃ mz, U8.cell? ⟨0, 0, none⟩ = some (.int .i64 mz)) ⟨by (first | exact last_at _ _ _ (by simp) | (refine bl_alloc ?_ _; first | exact last_at _ _ _ (by simp) | (refine bl_alloc ?_ _; first | exact last_at _ _ _ (by simp) | (refine bl_alloc ?_ _; exact last_at _ _ _ (by simp))))), by exact K7.out.trans (KV8.out.trans (by repeat (first | exact Kp.refl _ | refine Kp.alloc ?_ _ | refine Kp.drew ?_ | refine Kp.drewN _ ?_))), by exact cell0 Z7.out (KV8.out.trans (by repeat (first | exact Kp.refl _ | refine Kp.alloc ?_ _ | refine Kp.drew ?_ | refine Kp.drewN _ ?_)))⟩ ?_
  rintro U8 ⟨xA8, xK8, xZ8⟩
  have A8 : Hid (U8.heap[V8.heap.size]? = some (rxo k8 mn8 mx8 m8 (W4.of (orB (rng 48 57) (rng 97 99))) (.slice ad8 l8 c8))) := xA8
  have K8 : Hid (Kp w U8) := xK8
  have Z8 : Hid (∃ mz, U8.cell? ⟨0, 0, none⟩ = some (.int .i64 mz)) := xZ8
  clear xA8 xK8 xZ8
  clear KV8 K7 Z7
  have es : ∀ W, (Op.equalIn 10000 24 (sv (orB (rng 48 57) (rng 97 99))) (sv (orB (rng 48 57) (rng 97 99)))).run Tryz.prog W = .ok true W := fun W => by rw [eq_vv]; simp
  have Q0 : Kp U8 U8.drew := (Kp.refl _).drew
  have MK : Hid (∀ W, Kp U8 W → W.cell? ⟨V8.heap.size, 4, none⟩ = some (Value.int .u64 (wd (orB (rng 48 57) (rng 97 99)) 0 : Nat)) ∧ W.cell? ⟨V8.heap.size, 5, none⟩ = some (Value.int .u64 (wd (orB (rng 48 57) (rng 97 99)) 1 : Nat)) ∧ W.cell? ⟨V8.heap.size, 6, none⟩ = some (Value.int .u64 (wd (orB (rng 48 57) (rng 97 99)) 2 : Nat)) ∧ W.cell? ⟨V8.heap.size, 7, none⟩ = some (Value.int .u64 (wd (orB (rng 48 57) (rng 97 99)) 3 : Nat)) ∧ Hid (Kp U8 W)) := fun W k => ⟨bl_cell (bl_kp A8.out k) 4 _ rfl, bl_cell (bl_kp A8.out k) 5 _ rfl, bl_cell (bl_kp A8.out k) 6 _ rfl, bl_cell (bl_kp A8.out k) 7 _ rfl, k⟩
  refine wp_region_noPanic ?_
  refine wp_region_held_drew (S := (fun W => W.cell? ⟨V8.heap.size, 4, none⟩ = some (Value.int .u64 (wd (orB (rng 48 57) (rng 97 99)) 0 : Nat)) ∧ W.cell? ⟨V8.heap.size, 5, none⟩ = some (Value.int .u64 (wd (orB (rng 48 57) (rng 97 99)) 1 : Nat)) ∧ W.cell? ⟨V8.heap.size, 6, none⟩ = some (Value.int .u64 (wd (orB (rng 48 57) (rng 97 99)) 2 : Nat)) ∧ W.cell? ⟨V8.heap.size, 7, none⟩ = some (Value.int .u64 (wd (orB (rng 48 57) (rng 97 99)) 3 : Nat)) ∧ Hid (Kp U8 W))) (by kernel_rfl) ?_ (fun hH => ?_)
  · exact MK.out _ Q0
  have KQ := Q0
  refine wpAnyH_take (i := 0) (oi := { dst := some 120, op := Op.move (Operand.tmp 18), type := 28, pos := "law.go:109", after := #[], guard := none }) (v := ?v0z1) rfl (by kernel_rfl) (by kernel_rfl) (by kernel_rfl) (fun _ _ _ h => h) (Or.inl ⟨by rfl, ?hy0z1⟩) hH ?r0z1
  case hy0z1 => (intro W hSw; (try dsimp only at hSw); go_simp; try (with_reducible rfl))
  try simp only [Act.put, List.setIfInBounds_toArray, List.set_cons_zero, List.set_cons_succ]
  refine wpAnyH_take (i := 1) (oi := { dst := some 121, op := Op.binOp BinOp.eql 28 (Operand.tmp 120) (Operand.const (Value.int IntKind.i64 0)) 28, type := 4, pos := "law.go:109", after := #[{ on := 0, ground := Ground.data }], guard := none }) (v := ?v1z2) rfl (by kernel_rfl) (by kernel_rfl) (by kernel_rfl) (fun _ _ _ h => h) (Or.inl ⟨by rfl, ?hy1z2⟩) hH ?r1z2
  case hy1z2 => (intro W hSw; (try dsimp only at hSw); go_simp; try (with_reducible rfl))
  try simp only [Act.put, List.setIfInBounds_toArray, List.set_cons_zero, List.set_cons_succ]
  refine wpAnyH_take (i := 2) (oi := { dst := some 122, op := Op.move (Operand.tmp 121), type := 4, pos := "law.go:109", after := #[{ on := 1, ground := Ground.data }], guard := none }) (v := ?v2z3) rfl (by kernel_rfl) (by kernel_rfl) (by kernel_rfl) (fun _ _ _ h => h) (Or.inl ⟨by rfl, ?hy2z3⟩) hH ?r2z3
  case hy2z3 => (intro W hSw; (try dsimp only at hSw); go_simp; try (with_reducible rfl))
  try simp only [Act.put, List.setIfInBounds_toArray, List.set_cons_zero, List.set_cons_succ]
  refine wpAnyH_take (i := 3) (oi := { dst := some 123, op := Op.fieldAddr 27 (Operand.tmp 16) 4, type := 0, pos := "law.go:109", after := #[{ on := 2, ground := Ground.guard }], guard := some (2, true) }) (v := ?v3z4) rfl (by kernel_rfl) (by kernel_rfl) (by kernel_rfl) (fun _ _ _ h => h) (Or.inl ⟨by rfl, ?hy3z4⟩) hH ?r3z4
  case hy3z4 => (intro W hSw; (try dsimp only at hSw); go_simp; try (with_reducible rfl))
  try simp only [Act.put, List.setIfInBounds_toArray, List.set_cons_zero, List.set_cons_succ]
  refine wpAnyH_take (i := 4) (oi := { dst := some 124, op := Op.load 24 (Operand.tmp 123), type := 24, pos := "law.go:109", after := #[{ on := 3, ground := Ground.data }, { on := 2, ground := Ground.guard }], guard := some (2, true) }) (v := ?v4z5) rfl (by kernel_rfl) (by kernel_rfl) (by kernel_rfl) (fun _ _ _ h => h) (Or.inl ⟨by rfl, ?hy4z5⟩) hH ?r4z5
  case hy4z5 => (intro W hSw; (try dsimp only at hSw); go_simp; try (with_reducible rfl))
  try simp only [Act.put, List.setIfInBounds_toArray, List.set_cons_zero, List.set_cons_succ]
  refine wpAnyH_ready (rs := [5]) (by kernel_rfl) (by simp) ?_
  refine AllReadyH.cons (o := { dst := some 125, op := Op.call { callee := Callee.value (Operand.func 22), args := #[Operand.const (Value.int IntKind.u8 48), Operand.const (Value.int IntKind.u8 57)], argTypes := #[5, 5] }, type := 24, pos := "law.go:109", after := #[{ on := 2, ground := Ground.chain }, { on := 2, ground := Ground.guard }], guard := some (2, true) }) rfl (fun K hKq => ?_) AllReadyH.nil
  go_simp
  refine (range_any 48 57 _ (by omega) (by omega)).mono ?_
  rintro e y1 ⟨rfl, kq⟩
  refine hKq.out _ _ (MK.out _ (KQ.trans kq)) (fun hN => ?_)
  clear kq
  clear hKq K hH KQ
  have hH := hN
  clear hN
  have KQ := hH.2.2.2.2.out
  try simp only [Act.put, List.setIfInBounds_toArray, List.set_cons_zero, List.set_cons_succ]
  refine wpAnyH_ready (rs := [6]) (by kernel_rfl) (by simp) ?_
  refine AllReadyH.cons (o := { dst := some 126, op := Op.call { callee := Callee.value (Operand.func 22), args := #[Operand.const (Value.int IntKind.u8 97), Operand.const (Value.int IntKind.u8 99)], argTypes := #[5, 5] }, type := 24, pos := "law.go:109", after := #[{ on := 5, ground := Ground.chain }, { on := 2, ground := Ground.guard }], guard := some (2, true) }) rfl (fun K hKq => ?_) AllReadyH.nil
  go_simp
  refine (range_any 97 99 _ (by omega) (by omega)).mono ?_
  rintro e y2 ⟨rfl, kq⟩
  refine hKq.out _ _ (MK.out _ (KQ.trans kq)) (fun hN => ?_)
  clear kq
  clear hKq K hH KQ
  have hH := hN
  clear hN
  have KQ := hH.2.2.2.2.out
  try simp only [Act.put, List.setIfInBounds_toArray, List.set_cons_zero, List.set_cons_succ]
  refine wpAnyH_ready (rs := [7]) (by kernel_rfl) (by simp) ?_
  refine AllReadyH.cons (o := { dst := some 127, op := Op.buildSlice 75 2 #[(0, Operand.tmp 125), (1, Operand.tmp 126)], type := 75, pos := "law.go:109", after := #[{ on := 5, ground := Ground.data }, { on := 6, ground := Ground.data }, { on := 2, ground := Ground.guard }], guard := some (2, true) }) rfl (fun K hKq => ?_) AllReadyH.nil
  go_simp
  refine hKq.out _ _ (MK.out _ (by first | exact KQ.alloc _ | exact (KQ0.alloc _).drew)) (fun hN => ?_)
  clear hKq K hH KQ
  have hH := hN
  clear hN
  have KQ := hH.2.2.2.2.out
  try simp only [Act.put, List.setIfInBounds_toArray, List.set_cons_zero, List.set_cons_succ]
  refine wpAnyH_ready (rs := [8]) (by kernel_rfl) (by simp) ?_
  refine AllReadyH.cons (o := { dst := some 128, op := Op.call { callee := Callee.value (Operand.func 23), args := #[Operand.tmp 127], argTypes := #[75] }, type := 24, pos := "law.go:109", after := #[{ on := 7, ground := Ground.data }, { on := 6, ground := Ground.chain }, { on := 2, ground := Ground.guard }], guard := some (2, true) }) rfl (fun K hKq => ?_) AllReadyH.nil
  go_simp
  refine (join2 (rng 48 57) (rng 97 99) _ _ (by simp) (last_of _ _)).mono ?_
  rintro e y4 ⟨rfl, kq⟩
  refine hKq.out _ _ (MK.out _ (KQ.trans kq)) (fun hN => ?_)
  clear kq
  clear hKq K hH KQ
  have hH := hN
  clear hN
  have KQ := hH.2.2.2.2.out
  try simp only [Act.put, List.setIfInBounds_toArray, List.set_cons_zero, List.set_cons_succ]
  refine wpAnyH_take (i := 9) (oi := { dst := some 129, op := Op.binOp BinOp.eql 24 (Operand.tmp 124) (Operand.tmp 128) 24, type := 4, pos := "law.go:109", after := #[{ on := 4, ground := Ground.data }, { on := 8, ground := Ground.data }, { on := 2, ground := Ground.guard }], guard := some (2, true) }) (v := ?v9z6) rfl (by kernel_rfl) (by kernel_rfl) (by kernel_rfl) (fun _ _ _ h => h) (Or.inl ⟨by rfl, ?hy9z6⟩) hH ?r9z6
  case hy9z6 => (intro W hSw; (try dsimp only at hSw); go_simp; try (with_reducible rfl))
  try simp only [Act.put, List.setIfInBounds_toArray, List.set_cons_zero, List.set_cons_succ]
  refine wpAnyH_take (i := 10) (oi := { dst := some 130, op := Op.pick (Operand.tmp 122) (Operand.tmp 129) (Operand.const (Value.bool false)), type := 4, pos := "law.go:109", after := #[{ on := 2, ground := Ground.data }, { on := 9, ground := Ground.data }], guard := none }) (v := ?v10z7) rfl (by kernel_rfl) (by kernel_rfl) (by kernel_rfl) (fun _ _ _ h => h) (Or.inl ⟨by rfl, ?hy10z7⟩) hH ?r10z7
  case hy10z7 => (intro W hSw; (try dsimp only at hSw); go_simp; try (with_reducible rfl))
  try simp only [Act.put, List.setIfInBounds_toArray, List.set_cons_zero, List.set_cons_succ]
  refine wpAnyH_take (i := 11) (oi := { dst := some 131, op := Op.move (Operand.tmp 130), type := 4, pos := "law.go:109", after := #[{ on := 10, ground := Ground.data }, { on := 8, ground := Ground.chain }], guard := none }) (v := ?v11z8) rfl (by kernel_rfl) (by kernel_rfl) (by kernel_rfl) (fun _ _ _ h => h) (Or.inl ⟨by rfl, ?hy11z8⟩) hH ?r11z8
  case hy11z8 => (intro W hSw; (try dsimp only at hSw); go_simp; try (with_reducible rfl))
  try simp only [Act.put, List.setIfInBounds_toArray, List.set_cons_zero, List.set_cons_succ]
  refine wpAnyH_ready (rs := [12]) (by kernel_rfl) (by simp) ?_
  refine AllReadyH.cons (o := { dst := some 132, op := Op.call { callee := Callee.value (Operand.func 3), args := #[], argTypes := #[] }, type := 4, pos := "law.go:109", after := #[{ on := 11, ground := Ground.chain }, { on := 11, ground := Ground.guard }], guard := some (11, true) }) rfl (fun K hKq => ?_) AllReadyH.nil
  go_simp
  refine (runs_any _ (cell0 Z8.out KQ)).mono ?_
  rintro e y5 ⟨rfl, kq⟩
  refine hKq.out _ _ (MK.out _ (KQ.trans kq)) (fun hN => ?_)
  clear kq
  clear hKq K hH KQ
  have hH := hN
  clear hN
  have KQ := hH.2.2.2.2.out
  try simp only [Act.put, List.setIfInBounds_toArray, List.set_cons_zero, List.set_cons_succ]
  refine wpAnyH_take (i := 13) (oi := { dst := some 133, op := Op.pick (Operand.tmp 131) (Operand.tmp 132) (Operand.const (Value.bool false)), type := 4, pos := "law.go:109", after := #[{ on := 11, ground := Ground.data }, { on := 12, ground := Ground.data }], guard := none }) (v := ?v13z9) rfl (by kernel_rfl) (by kernel_rfl) (by kernel_rfl) (fun _ _ _ h => h) (Or.inl ⟨by rfl, ?hy13z9⟩) hH ?r13z9
  case hy13z9 => (intro W hSw; (try dsimp only at hSw); go_simp; try (with_reducible rfl))
  try simp only [Act.put, List.setIfInBounds_toArray, List.set_cons_zero, List.set_cons_succ]
  refine wpAnyH_take (i := 14) (oi := { dst := some 8, op := Op.assign (Operand.tmp 133), type := 4, pos := "law.go:109", after := #[{ on := 13, ground := Ground.data }, { on := 12, ground := Ground.chain }, { on := 0, ground := Ground.phase }, { on := 1, ground := Ground.phase }, { on := 2, ground := Ground.phase }, { on := 3, ground := Ground.phase }, { on := 4, ground := Ground.phase }, { on := 5, ground := Ground.phase }, { on := 6, ground := Ground.phase }, { on := 7, ground := Ground.phase }, { on := 8, ground := Ground.phase }, { on := 9, ground := Ground.phase }, { on := 10, ground := Ground.phase }, { on := 11, ground := Ground.phase }, { on := 12, ground := Ground.phase }, { on := 13, ground := Ground.phase }], guard := none }) (v := ?v14z10) rfl (by kernel_rfl) (by kernel_rfl) (by kernel_rfl) (fun _ _ _ h => h) (Or.inl ⟨by rfl, ?hy14z10⟩) hH ?r14z10
  case hy14z10 => (intro W hSw; (try dsimp only at hSw); go_simp; try (with_reducible rfl))
  try simp only [Act.put, List.setIfInBounds_toArray, List.set_cons_zero, List.set_cons_succ]
  refine wpAnyH_done (by kernel_rfl) ?_ _
  refine NoPanic.normal ?_
  go_wp2_with fail
  go_ret
  exact ⟨rfl, K8.out.trans KQ⟩
theorem sets_any (p : Nat → Bool) (f t : Nat) (hf : f < 256) (ht : t < 256) (ere : Bool) (w : World) (h0 : ∃ m, w.cell? ⟨0, 0, none⟩ = some (.int .i64 m)) :
    Calls Tryz.prog 7 #[sv p, .int .u8 (f : Int), .int .u8 (t : Int), .bool ere] w fun e w' => e = .returned (.bool true) ∧ Kp w w' := by
  by_cases hz : cnt p 256 = 0
  · exact sets_none p f t ere w hz h0
  · exact sets_some p f t hf ht ere w (by omega) h0
end Go.Proofs.YtikmgckefbjbkaaGreatDoor

/-! ### OpenSet -/

namespace Go.Proofs.YtikmgckefbjbkaaGreatDoor
open Go.ChangeShapes Go.WideShapes Go.ChangeAt Go.RowKit

theorem cells22 : Tryz.prog.cellsOf 22 = 1 := by kernel_rfl
theorem cells24 : Tryz.prog.cellsOf 24 = 4 := by kernel_rfl

theorem list4 {α : Type} (l : List α) (h : (⟨l⟩ : Array α).size = 4) : ∃ a b c d, l = [a, b, c, d] := by
  match l, h with
  | [a, b, c, d], _ => exact ⟨a, b, c, d, rfl⟩

set_option maxRecDepth 100000 in
theorem open_set {H : Type} {enc : TypeId × Value → H} {W : World} {base : Nat} {v : Value} {d : DataW H} {ps : List MemPlace}
    (hv : Value.okWide Tryz.prog W .any base 24 v) (h : DataW.Trod enc Tryz.prog W 0 (fun _ => true) true 24 v d ps) : ∃ p : Nat → Bool, v = sv p := by
  obtain ⟨cs, rfl, hsz, _⟩ : ∃ cs, v = .agg cs ∧ cs.size = Tryz.prog.cellsOf 24 ∧ Row.okWide Tryz.prog W .any base 24 cs := by
    simpa [Value.okWide, Tryz.underlying24] using hv
  rw [cells24] at hsz
  obtain ⟨l⟩ := cs
  obtain ⟨c0, c1, c2, c3, rfl⟩ := list4 l hsz
  obtain ⟨fuel, hf⟩ := h
  obtain ⟨y0, y1, y2, y3, m, hx, hy0, hy1, hy2, hy3⟩ := trod_array4 Tryz.underlying24 cells22 hf
  obtain ⟨x0, e0, rfl, w0⟩ := DataW.trod_int Tryz.underlying22 hy0
  obtain ⟨x1, e1, rfl, w1⟩ := DataW.trod_int Tryz.underlying22 hy1
  obtain ⟨x2, e2, rfl, w2⟩ := DataW.trod_int Tryz.underlying22 hy2
  obtain ⟨x3, e3, rfl, w3⟩ := DataW.trod_int Tryz.underlying22 hy3
  simp at e0 e1 e2 e3
  subst e0 e1 e2 e3
  obtain ⟨a0, b0⟩ := bounds_u64 w0
  obtain ⟨a1, b1⟩ := bounds_u64 w1
  obtain ⟨a2, b2⟩ := bounds_u64 w2
  obtain ⟨a3, b3⟩ := bounds_u64 w3
  obtain ⟨n0, rfl⟩ := Int.eq_ofNat_of_zero_le a0
  obtain ⟨n1, rfl⟩ := Int.eq_ofNat_of_zero_le a1
  obtain ⟨n2, rfl⟩ := Int.eq_ofNat_of_zero_le a2
  obtain ⟨n3, rfl⟩ := Int.eq_ofNat_of_zero_le a3
  exact ⟨_, vv_sv n0 n1 n2 n3 (by omega) (by omega) (by omega) (by omega)⟩
end Go.Proofs.YtikmgckefbjbkaaGreatDoor

/-! ### Wrap -/

namespace Go.Proofs.YtikmgckefbjbkaaGreatDoor
open Go.ChangeShapes Go.WideShapes Go.ChangeAt Go.RowKit

theorem and_shaped {H : Type} {enc : TypeId × Value → H} {a : Assume} {C : Checked} {os : Go.Os} {f : FuncId} {fn : Func} {s : ChangeSpec} {conds : List PathCond} {apart fresh handsOn again : Bool} {X : World → Array Value → Prop}
    (hX : ∀ (w w' : World) (args : Array Value), w.heap = w'.heap → X w args → X w' args)
    (own : ownKnob C.prog.godebug = none) (started : os.Started) (noInit : C.prog.inits.idxOf? f = none) (hfn : C.prog.funcs[f]? = some fn)
    (witness : ∃ (w : World) (tape : Tape) (i : Input), w.os = os ∧ (w.forCall tape i).Shaped C.prog ∧ i.vars = [] ∧ Input.okWide C.prog (w.forCall tape i) .any w.heap.size f i ∧
      ((s.pre enc C.prog fn conds apart (w.forCall tape i).memory i.args ∧ X (w.forCall tape i).memory i.args) ∧ sizedMet enc C.prog fn (OpenSpec.ofChange s) apart (w.forCall tape i).memory i.args) ∧ a.holds C.prog (lone (Frame.enter C.prog f i.args .normal) [] (w.forCall tape i)))
    (contract : ∀ (W : World) (base : Nat) (args : Array Value) (ds gs : List (DataW H)) (before : List MemPlace),
      (∀ (j : Nat) t v, fn.params[j]? = some t → args[j]? = some v → Value.okWide C.prog W .any base t v) →
      DataW.Whole enc C.prog fn.params.toList s.vars apart W args.toList ds gs before →
      conds.all (PathCond.test C.prog ⟨fn.params.toList, ds, s.plain.varTypes C.prog, gs⟩) = true →
      (DataW.weightsEach C.prog (fn.params.toList ++ s.plain.varTypes C.prog) (ds ++ gs)).all (· ≤ reachBytes) = true → X W args → W.ShapedOpen C.prog →
      Calls C.prog f args W fun e W' => ∃ v, e = .returned v ∧ s.post enc C.prog fn apart fresh handsOn again W args v W') :
    ReturnsInHanded a C os f .any (fun w args => (s.pre enc C.prog fn conds apart w args ∧ X w args) ∧ sizedMet enc C.prog fn (OpenSpec.ofChange s) apart w args) (s.post enc C.prog fn apart fresh handsOn again) := by
  refine returnsInHanded_of_calls own started noInit witness ?_
  intro w tape i _ hsh _ hok hpre hholds
  obtain ⟨_, _, _, fn', hfn', _, _, _, _, hval⟩ := hok
  have e : fn' = fn := Option.some.inj (hfn'.symm.trans hfn)
  subst e
  obtain ⟨⟨⟨ds, gs, before, hw, hc⟩, hx⟩, hz⟩ := hpre
  have hw' := DataW.Whole.of_heap (w' := w.forCall tape i) (by rfl) hw
  refine (contract (w.forCall tape i) w.heap.size i.args ds gs before hval hw' hc (hz.weights hw) (hX _ _ _ (by rfl) hx) hsh).mono fun e W' ⟨v, he, hp⟩ => ?_
  subst he
  exact ChangeSpec.post_blind hp

theorem own : ownKnob Tryz.prog.godebug = none := by kernel_rfl

/-- What every row of this seat lists. -/
abbrev laid3 : List (String × DataW Unit) := [("math/bits.deBruijn32tab", Rows.laid_math_bits_deBruijn32tab), ("math/bits.deBruijn64tab", Rows.laid_math_bits_deBruijn64tab), ("internal/strconv.uint64pow10", Rows.laid_internal_strconv_uint64pow10)]

/-- The door's own heap meets the condition. -/
theorem door_met (os : Go.Os) (args : Array Value) : laidMetH Tryz.prog laid3 ((World.doorLaid Tryz.prog 24 os).forCall (fun _ _ => 0) ⟨#[], args, []⟩).memory :=
  laidMetH_of_parts3 (fuel := 8) (laidMet_of_run' 8 (by kernel_rfl) (by kernel_rfl)) (by kernel_rfl) (by kernel_rfl)

/-- MaxLen holds a number. -/
theorem maxLen {W : World} (h : W.ShapedOpen Tryz.prog) : ∃ m, W.cell? ⟨0, 0, none⟩ = some (.int .i64 m) :=
  cell_of_shapedOpen_int (P := Tryz.prog) (g := 0) (t := 3) (zero := #[.int .i64 0]) h (of_decide_eq_true (by kernel_rfl)) (by kernel_rfl) rfl (by kernel_rfl) (by kernel_rfl) Tryz.underlying3
end Go.Proofs.YtikmgckefbjbkaaGreatDoor

/-! ### RxSetsProof -/

namespace Go.Proofs.YtikmgckefbjbkaaGreatDoor.rxSets
open Go.ChangeShapes Go.WideShapes Go.ChangeAt Go.RowKit
open Go.ChangeMaps (open_string shut_string)
set_option linter.unusedVariables false

theorem laidOut : laidOutB Tryz.prog = true := by kernel_rfl
set_option maxRecDepth 100000 in
theorem lifted (os : Go.Os) (started : os.Started) (H : Type) (enc : TypeId × Value → H) :
    ReturnsInHanded {} Tryz.checked os 7 .any (fun w args => (Rows.rxSetsSpec.pre enc Tryz.prog Tryz.f7 [] false w args ∧ laidMetH Tryz.prog laid3 w) ∧ sizedMet enc Tryz.prog Tryz.f7 (OpenSpec.ofChange Rows.rxSetsSpec) false w args)
      (Rows.rxSetsSpec.post enc Tryz.prog Tryz.f7 false true false false) := by
  refine and_shaped (C := Tryz.checked) (X := fun w _ => laidMetH Tryz.prog laid3 w) (fun _ _ _ hh h => h.of_heap hh) own started (by kernel_rfl) Tryz.func7
    (ChangeSpec.witness_shaped (enc := enc) (C := Tryz.checked) (os := os) (X := fun w _ => laidMetH Tryz.prog laid3 w) false (World.doorLaid Tryz.prog 24 os) #[.agg #[.int .u64 0, .int .u64 0, .int .u64 0, .int .u64 0], .int .u8 0, .int .u8 0, .bool false] 8 rfl (World.shaped_of_RefB (by kernel_rfl) (by kernel_rfl)) (by kernel_rfl) (by kernel_rfl) (by kernel_rfl) (door_met os _)) ?_
  intro W base args ds gs before hval0 hW _ _ hL hsh
  have hval : ∀ (j : Nat) t v, Tryz.f7.params[j]? = some t → args[j]? = some v → Value.okWide Tryz.prog W .any base t v := hval0
  have hW' := hW
  obtain ⟨p, q, hA0, hV, rfl, hfz, hnd⟩ := hW
  have hA : DataW.TrodAll enc Tryz.prog W 0 (fun _ => true) true Tryz.f7.params.toList args.toList ds p := hA0
  rw [Tryz.params7] at hA hval
  obtain ⟨v0, vs0, d0, ds0, p0, q0, hargs, rfl, rfl, h0, r0⟩ := trodAll_cons hA
  obtain ⟨v1, vs1, d1, ds1, p1, q1, rfl, rfl, rfl, h1, r1⟩ := trodAll_cons r0
  obtain ⟨v2, vs2, d2, ds2, p2, q2, rfl, rfl, rfl, h2, r2⟩ := trodAll_cons r1
  obtain ⟨v3, vs3, d3, ds3, p3, q3, rfl, rfl, rfl, h3, r3⟩ := trodAll_cons r2
  obtain ⟨rfl, rfl, rfl⟩ := trodAll_nil r3
  obtain rfl : args = #[v0, v1, v2, v3] := by cases args; simp_all
  obtain ⟨rfl, rfl⟩ := trodVars_none hV
  have k0 := h0
  have lt0 : ∀ x ∈ p0, x.block < W.heap.size := by obtain ⟨m, hm⟩ := k0; exact DataW.trod_lt m _ _ _ hm
  obtain ⟨sp0, rfl⟩ := open_set (hval 0 24 v0 rfl rfl) k0
  obtain ⟨a1, rfl, rfl, rfl, w1⟩ := open_int Tryz.underlying5 (hval 1 5 v1 rfl rfl) h1
  obtain ⟨x1, hx1, hxx1⟩ : ∃ x : Nat, a1 = (x : Int) ∧ x < 256 := by
    obtain ⟨h1, h2⟩ := bounds_u8 w1
    exact ⟨a1.toNat, by omega, by omega⟩
  subst hx1
  obtain ⟨a2, rfl, rfl, rfl, w2⟩ := open_int Tryz.underlying5 (hval 2 5 v2 rfl rfl) h2
  obtain ⟨x2, hx2, hxx2⟩ : ∃ x : Nat, a2 = (x : Int) ∧ x < 256 := by
    obtain ⟨h1, h2⟩ := bounds_u8 w2
    exact ⟨a2.toNat, by omega, by omega⟩
  subst hx2
  obtain ⟨a3, rfl, rfl, rfl⟩ := open_bool Tryz.underlying4 (hval 3 4 v3 rfl rfl) h3
  clear hA0 hval0
  refine (sets_any sp0 x1 x2 hxx1 hxx2 a3 W (maxLen hsh)).mono fun e W' ⟨he, bel⟩ => ?_
  subst he
  exact ⟨_, rfl, _, _, _, [], _, [], hW', trodAll_mk1 (shut_bool Tryz.underlying4 _), (trodAll_cons_mk (Below.trod laidOut (by kernel_rfl) (of_decide_eq_true (by kernel_rfl)) k0 bel lt0) (trodAll_cons_mk (shut_int Tryz.underlying5 w1) (trodAll_cons_mk (shut_int Tryz.underlying5 w2) (trodAll_cons_mk (shut_bool Tryz.underlying4 a3) trodAll_mk0)))), rfl, Below.frame bel _, fun h => by cases h⟩

theorem over : Rows.rxSetsRow.holds Tryz.pinned (OpenSpec.ofChange Rows.rxSetsSpec) :=
  OpenClaim.holds_of_wide 7 Tryz.f7 rfl rfl rfl rfl rfl rfl rfl ⟨rfl, rfl, rfl, rfl, rfl⟩ rfl rfl rfl rfl rfl (by kernel_rfl) Tryz.func7 (by kernel_rfl)
    (of_decide_eq_true (by kernel_rfl)) (by unfold Func.isWrapper; first | (rw [if_pos (by decide +kernel)]; kernel_rfl) | (rw [if_neg (by decide +kernel)]; exact ⟨rfl, rfl⟩))
    (fun os started H enc _ => lifted os started H enc)

theorem carded : Rows.RxSetsCardSaid :=
  Claim7.holds_tied_plain_at .later [] [.data, .data, .data] true (true, "b0fe336dcdce6718dfc6eec349fd5cdbe898f712e022f33c787b29cefe3acb2a") false
    over (fun _ h => by cases h) (by kernel_rfl) (fun _ h => by cases h) rxSets_row_tie rfl ⟨rfl, rfl⟩ (by kernel_rfl) rfl
    (fun f fn hf hfn => by
      obtain rfl : f = 7 := Option.some.inj ((show Tryz.prog.funcNamed "gloss/glosslaw4.RxSets" = some 7 by kernel_rfl).symm.trans hf) |>.symm
      obtain rfl : fn = Tryz.f7 := (Option.some.inj (Tryz.func7.symm.trans hfn)).symm
      exact ⟨by kernel_rfl, fun j t ht => by
        rw [Tryz.params7] at ht
        have hm : t ∈ [24, 5, 5, 4] := by simpa using Array.mem_of_getElem? ht
        have hall : ([24, 5, 5, 4].all fun u => !Tryz.prog.wantsStandIn u) = true := by kernel_rfl
        exact (show Tryz.prog.wantsStandIn t = false by simpa using List.all_eq_true.1 hall t hm)⟩)
    (by kernel_rfl)

end Go.Proofs.YtikmgckefbjbkaaGreatDoor.rxSets
namespace Go.Proofs.YtikmgckefbjbkaaGreatDoor

theorem rxSets_holds : Rows.RxSetsCardSaid := rxSets.carded

end Go.Proofs.YtikmgckefbjbkaaGreatDoor
