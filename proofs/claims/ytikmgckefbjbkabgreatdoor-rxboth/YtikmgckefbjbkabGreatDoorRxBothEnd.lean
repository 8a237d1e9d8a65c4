/-
  Proved: the law RxBoth of glosslaw4 returns true for every two rows of numbers, and leaves them as they were (P4.1 to P4.3). The tied card, no condition.
-/
import Derived.Test.YtikmgckefbjbkabGreatDoorM6
import Derived.ProofKit
import Derived.OpenShut
import Derived.ChangeSame
import Derived.Test.YtikmgckefbjbkabGreatDoorRows
import Derived.Test.YtikmgckefbjbkabGreatDoorChecked
import Derived.HandedShaped
import Derived.Shelf.Vars
import Derived.LaidMore
import Derived.LaidHandle
import Derived.LaidLaws
import Derived.Stop.Joined
import Derived.Test.YtikmgckefbjbkabGreatDoorTie
import Derived.Test.YtikmgckefbjbkabGreatDoorCards
import Derived.Below
import Derived.WalkKit
import Derived.ShutString
import Derived.ChangeOld
import Derived.SevenTiedAt

/-! ### BothW -/

namespace Go.Proofs.YtikmgckefbjbkabGreatDoor
open Go.RowKit

set_option maxHeartbeats 4000000 in
set_option maxRecDepth 100000 in
theorem both_any (aK : Option Addr) (lK cK : Nat) (aN : Option Addr) (lN cN : Nat) (w : World) (hK : Nums w w.heap.size aK lK) (hN : Nums w w.heap.size aN lN) (h0 : ∃ m, w.cell? ⟨0, 0, none⟩ = some (.int .i64 m)) :
    Calls Tryz.prog 5 #[.agg #[.slice aK lK cK, .slice aN lN cN]] w fun e w' => e = .returned (.bool true) ∧ Kp w w' := by
  have HK := hid hK
  have HN := hid hN
  have Z0 := hid h0
  clear hK hN h0
  go_enter Tryz.func5, Tryz.ntmps5
  go_upto_region 1 with fail
  refine opq (fun V0 => V0.heap[w.heap.size]? = some (.cells #[.slice aK lK cK, .slice aN lN cN] 42) ∧ Kp w V0 ∧ (∃ mz, V0.cell? ⟨0, 0, none⟩ = some (.int .i64 mz))) ⟨by exact last_of _ _, by exact (by repeat (first | exact Kp.refl _ | refine Kp.alloc ?_ _ | refine Kp.drew ?_ | refine Kp.drewN _ ?_)), by exact cell0 Z0.out (by repeat (first | exact Kp.refl _ | refine Kp.alloc ?_ _ | refine Kp.drew ?_ | refine Kp.drewN _ ?_))⟩ ?_
  rintro V0 ⟨xA_1, xK_1, xZ_1⟩
  have A_1 : Hid (V0.heap[w.heap.size]? = some (.cells #[.slice aK lK cK, .slice aN lN cN] 42)) := xA_1
  have K_1 : Hid (Kp w V0) := xK_1
  have Z_1 : Hid ((∃ mz, V0.cell? ⟨0, 0, none⟩ = some (.int .i64 mz))) := xZ_1
  clear xA_1 xK_1 xZ_1
  have NK := hid ((HK.out.km (K_1.out.km (Nat.le_refl _))).up K_1.out.size)
  have NN := hid ((HN.out.km (K_1.out.km (Nat.le_refl _))).up K_1.out.size)
  clear Z0 HK HN
  have p0 := bl_cell (A_1.out) 0 _ rfl
  have p1 := bl_cell (A_1.out) 1 _ rfl
  go_wp2_with fail
  refine (made_any false row_false aK lK cK aN lN cN V0 NK.out NN.out).mono ?_
  rintro e V1 ⟨⟨T, v, rfl, hI, hR, hO, kv⟩⟩
  obtain ⟨k1, mn1, mx1, mm1, t1, ad1, l1, c1, rfl⟩ := hI.form
  have PD1 : Hid (Pd V1 T k1 mn1 mx1 mm1 t1 ad1 l1 c1) := ⟨hI.weak (fun _ _ _ => trivial)⟩
  clear hI p0 p1 NK NN
  have K_2 : Hid (Kp w V1) := K_1.out.trans kv
  have Z_2 : Hid ((∃ mz, V1.cell? ⟨0, 0, none⟩ = some (.int .i64 mz))) := cell0 Z_1.out kv
  clear A_1 K_1 Z_1
  clear kv
  have hRt := Trip.right_both T hR
  have hn := nds_right false T hR
  obtain ⟨St, hSt⟩ : ∃ S, bs (printT true T) = S := ⟨_, rfl⟩
  obtain ⟨Sf, hSf⟩ : ∃ S, bs (printT false T) = S := ⟨_, rfl⟩
  obtain ⟨N, hN⟩ : ∃ N, nds T = N := ⟨_, rfl⟩
  have PRt := hid (talk_print T true hO St hSt)
  have PRf := hid (talk_print T false hO Sf hSf)
  have PAt := hid (parse_at St true T 0 0 (hSt ▸ print_size true T hO) (hSt ▸ Trip.print_trip true T hO hRt))
  have PAf := hid (parse_at Sf false T 0 0 (hSf ▸ print_size false T hO) (hSf ▸ Trip.print_trip false T hO hR))
  have RGt := hid (talk_right T true true hO hRt)
  have RGf := hid (talk_right T false true hO hR)
  have SM := hid (talk_same T T true hO (sameR_refl T))
  have ND := hid (talk_nodes T N hO hN (by omega))
  clear hR hRt hO hSt hSf hN hn
  go_upto_region 2 with fail
  refine opq (fun U1 => Kp w U1 ∧ (∃ mz, U1.cell? ⟨0, 0, none⟩ = some (.int .i64 mz)) ∧ Pd U1 T k1 mn1 mx1 mm1 t1 ad1 l1 c1 ∧ U1.heap[V1.heap.size]? = some (rxo k1 mn1 mx1 mm1 t1 (.slice ad1 l1 c1))) ⟨by exact K_2.out.trans (by repeat (first | exact Kp.refl _ | refine Kp.alloc ?_ _ | refine Kp.drew ?_ | refine Kp.drewN _ ?_)), by exact cell0 Z_2.out (by repeat (first | exact Kp.refl _ | refine Kp.alloc ?_ _ | refine Kp.drew ?_ | refine Kp.drewN _ ?_)), by exact PD1.out.kp (by repeat (first | exact Kp.refl _ | refine Kp.alloc ?_ _ | refine Kp.drew ?_ | refine Kp.drewN _ ?_)), by (first | exact last_at _ _ _ (by simp) | (refine bl_alloc ?_ _; first | exact last_at _ _ _ (by simp) | (refine bl_alloc ?_ _; first | exact last_at _ _ _ (by simp) | (refine bl_alloc ?_ _; exact last_at _ _ _ (by simp)))))⟩ ?_
  rintro U1 ⟨xK_3, xZ_3, xPD1_3, xR1_3⟩
  have K_3 : Hid (Kp w U1) := xK_3
  have Z_3 : Hid ((∃ mz, U1.cell? ⟨0, 0, none⟩ = some (.int .i64 mz))) := xZ_3
  have PD1_3 : Hid (Pd U1 T k1 mn1 mx1 mm1 t1 ad1 l1 c1) := xPD1_3
  have R1_3 : Hid (U1.heap[V1.heap.size]? = some (rxo k1 mn1 mx1 mm1 t1 (.slice ad1 l1 c1))) := xR1_3
  clear xK_3 xZ_3 xPD1_3 xR1_3
  clear K_2 Z_2 PD1
  have p0 := bl_cell (R1_3.out) 0 _ rfl
  have p1 := bl_cell (R1_3.out) 1 _ rfl
  have p2 := bl_cell (R1_3.out) 2 _ rfl
  have p3 := bl_cell (R1_3.out) 3 _ rfl
  have p4 := bl_cell (R1_3.out) 4 _ rfl
  have p5 := bl_cell (R1_3.out) 5 _ rfl
  have p6 := bl_cell (R1_3.out) 6 _ rfl
  have p7 := bl_cell (R1_3.out) 7 _ rfl
  have p8 := bl_cell (R1_3.out) 8 _ rfl
  go_wp2_with fail
  refine (PRt.out _ PD1_3.out).mono ?_
  rintro e Y1 ⟨rfl, kv⟩
  clear p0 p1 p2 p3 p4 p5 p6 p7 p8
  have K_4 : Hid (Kp w Y1) := K_3.out.trans kv
  have Z_4 : Hid ((∃ mz, Y1.cell? ⟨0, 0, none⟩ = some (.int .i64 mz))) := cell0 Z_3.out kv
  have PD1_4 : Hid (Pd Y1 T k1 mn1 mx1 mm1 t1 ad1 l1 c1) := PD1_3.out.kp kv
  have R1_4 : Hid (Y1.heap[V1.heap.size]? = some (rxo k1 mn1 mx1 mm1 t1 (.slice ad1 l1 c1))) := bl_kp R1_3.out kv
  clear K_3 Z_3 PD1_3 R1_3
  clear kv
  go_wp2_with fail
  refine (PAt.out _ Z_4.out).mono ?_
  rintro en V2 ⟨k2, mn2, mx2, mm2, t2, ad2, l2, c2, rfl, pd, kv⟩
  have PD2 : Hid (Pd V2 T k2 mn2 mx2 mm2 t2 ad2 l2 c2) := pd
  clear pd
  have K_5 : Hid (Kp w V2) := K_4.out.trans kv
  have Z_5 : Hid ((∃ mz, V2.cell? ⟨0, 0, none⟩ = some (.int .i64 mz))) := cell0 Z_4.out kv
  have PD1_5 : Hid (Pd V2 T k1 mn1 mx1 mm1 t1 ad1 l1 c1) := PD1_4.out.kp kv
  have R1_5 : Hid (V2.heap[V1.heap.size]? = some (rxo k1 mn1 mx1 mm1 t1 (.slice ad1 l1 c1))) := bl_kp R1_4.out kv
  clear K_4 Z_4 PD1_4 R1_4
  clear kv
  go_upto_region 4 with fail
  refine opq (fun U2 => Kp w U2 ∧ (∃ mz, U2.cell? ⟨0, 0, none⟩ = some (.int .i64 mz)) ∧ Pd U2 T k1 mn1 mx1 mm1 t1 ad1 l1 c1 ∧ U2.heap[V1.heap.size]? = some (rxo k1 mn1 mx1 mm1 t1 (.slice ad1 l1 c1)) ∧ Pd U2 T k2 mn2 mx2 mm2 t2 ad2 l2 c2 ∧ U2.heap[V2.heap.size]? = some (rxo k2 mn2 mx2 mm2 t2 (.slice ad2 l2 c2))) ⟨by exact K_5.out.trans (by repeat (first | exact Kp.refl _ | refine Kp.alloc ?_ _ | refine Kp.drew ?_ | refine Kp.drewN _ ?_)), by exact cell0 Z_5.out (by repeat (first | exact Kp.refl _ | refine Kp.alloc ?_ _ | refine Kp.drew ?_ | refine Kp.drewN _ ?_)), by exact PD1_5.out.kp (by repeat (first | exact Kp.refl _ | refine Kp.alloc ?_ _ | refine Kp.drew ?_ | refine Kp.drewN _ ?_)), by exact bl_kp R1_5.out (by repeat (first | exact Kp.refl _ | refine Kp.alloc ?_ _ | refine Kp.drew ?_ | refine Kp.drewN _ ?_)), by exact PD2.out.kp (by repeat (first | exact Kp.refl _ | refine Kp.alloc ?_ _ | refine Kp.drew ?_ | refine Kp.drewN _ ?_)), by (first | exact last_at _ _ _ (by simp) | (refine bl_alloc ?_ _; first | exact last_at _ _ _ (by simp) | (refine bl_alloc ?_ _; first | exact last_at _ _ _ (by simp) | (refine bl_alloc ?_ _; exact last_at _ _ _ (by simp)))))⟩ ?_
  rintro U2 ⟨xK_6, xZ_6, xPD1_6, xR1_6, xPD2_6, xR2_6⟩
  have K_6 : Hid (Kp w U2) := xK_6
  have Z_6 : Hid ((∃ mz, U2.cell? ⟨0, 0, none⟩ = some (.int .i64 mz))) := xZ_6
  have PD1_6 : Hid (Pd U2 T k1 mn1 mx1 mm1 t1 ad1 l1 c1) := xPD1_6
  have R1_6 : Hid (U2.heap[V1.heap.size]? = some (rxo k1 mn1 mx1 mm1 t1 (.slice ad1 l1 c1))) := xR1_6
  have PD2_6 : Hid (Pd U2 T k2 mn2 mx2 mm2 t2 ad2 l2 c2) := xPD2_6
  have R2_6 : Hid (U2.heap[V2.heap.size]? = some (rxo k2 mn2 mx2 mm2 t2 (.slice ad2 l2 c2))) := xR2_6
  clear xK_6 xZ_6 xPD1_6 xR1_6 xPD2_6 xR2_6
  clear K_5 Z_5 PD1_5 R1_5 PD2
  have p0 := bl_cell (R2_6.out) 0 _ rfl
  have p1 := bl_cell (R2_6.out) 1 _ rfl
  have p2 := bl_cell (R2_6.out) 2 _ rfl
  have p3 := bl_cell (R2_6.out) 3 _ rfl
  have p4 := bl_cell (R2_6.out) 4 _ rfl
  have p5 := bl_cell (R2_6.out) 5 _ rfl
  have p6 := bl_cell (R2_6.out) 6 _ rfl
  have p7 := bl_cell (R2_6.out) 7 _ rfl
  have p8 := bl_cell (R2_6.out) 8 _ rfl
  go_wp2_with fail
  refine (PRf.out _ PD2_6.out).mono ?_
  rintro e Y2 ⟨rfl, kv⟩
  clear p0 p1 p2 p3 p4 p5 p6 p7 p8
  have K_7 : Hid (Kp w Y2) := K_6.out.trans kv
  have Z_7 : Hid ((∃ mz, Y2.cell? ⟨0, 0, none⟩ = some (.int .i64 mz))) := cell0 Z_6.out kv
  have PD1_7 : Hid (Pd Y2 T k1 mn1 mx1 mm1 t1 ad1 l1 c1) := PD1_6.out.kp kv
  have R1_7 : Hid (Y2.heap[V1.heap.size]? = some (rxo k1 mn1 mx1 mm1 t1 (.slice ad1 l1 c1))) := bl_kp R1_6.out kv
  have PD2_7 : Hid (Pd Y2 T k2 mn2 mx2 mm2 t2 ad2 l2 c2) := PD2_6.out.kp kv
  have R2_7 : Hid (Y2.heap[V2.heap.size]? = some (rxo k2 mn2 mx2 mm2 t2 (.slice ad2 l2 c2))) := bl_kp R2_6.out kv
  clear K_6 Z_6 PD1_6 R1_6 PD2_6 R2_6
  clear kv
  go_wp2_with fail
  refine (PAf.out _ Z_7.out).mono ?_
  rintro en V3 ⟨k3, mn3, mx3, mm3, t3, ad3, l3, c3, rfl, pd, kv⟩
  have PD3 : Hid (Pd V3 T k3 mn3 mx3 mm3 t3 ad3 l3 c3) := pd
  clear pd
  have K_8 : Hid (Kp w V3) := K_7.out.trans kv
  have Z_8 : Hid ((∃ mz, V3.cell? ⟨0, 0, none⟩ = some (.int .i64 mz))) := cell0 Z_7.out kv
  have PD1_8 : Hid (Pd V3 T k1 mn1 mx1 mm1 t1 ad1 l1 c1) := PD1_7.out.kp kv
  have R1_8 : Hid (V3.heap[V1.heap.size]? = some (rxo k1 mn1 mx1 mm1 t1 (.slice ad1 l1 c1))) := bl_kp R1_7.out kv
  have PD2_8 : Hid (Pd V3 T k2 mn2 mx2 mm2 t2 ad2 l2 c2) := PD2_7.out.kp kv
  have R2_8 : Hid (V3.heap[V2.heap.size]? = some (rxo k2 mn2 mx2 mm2 t2 (.slice ad2 l2 c2))) := bl_kp R2_7.out kv
  clear K_7 Z_7 PD1_7 R1_7 PD2_7 R2_7
  clear kv
  go_upto_region 6 with fail
  refine opq (fun U3 => Kp w U3 ∧ (∃ mz, U3.cell? ⟨0, 0, none⟩ = some (.int .i64 mz)) ∧ Pd U3 T k1 mn1 mx1 mm1 t1 ad1 l1 c1 ∧ U3.heap[V1.heap.size]? = some (rxo k1 mn1 mx1 mm1 t1 (.slice ad1 l1 c1)) ∧ Pd U3 T k2 mn2 mx2 mm2 t2 ad2 l2 c2 ∧ U3.heap[V2.heap.size]? = some (rxo k2 mn2 mx2 mm2 t2 (.slice ad2 l2 c2)) ∧ Pd U3 T k3 mn3 mx3 mm3 t3 ad3 l3 c3 ∧ U3.heap[V3.heap.size]? = some (rxo k3 mn3 mx3 mm3 t3 (.slice ad3 l3 c3))) ⟨by exact K_8.out.trans (by repeat (first | exact Kp.refl _ | refine Kp.alloc ?_ _ | refine Kp.drew ?_ | refine Kp.drewN _ ?_)), by exact cell0 Z_8.out (by repeat (first | exact Kp.refl _ | refine Kp.alloc ?_ _ | refine Kp.drew ?_ | refine Kp.drewN _ ?_)), by exact PD1_8.out.kp (by repeat (first | exact Kp.refl _ | refine Kp.alloc ?_ _ | refine Kp.drew ?_ | refine Kp.drewN _ ?_)), by exact bl_kp R1_8.out (by repeat (first | exact Kp.refl _ | refine Kp.alloc ?_ _ | refine Kp.drew ?_ | refine Kp.drewN _ ?_)), by exact PD2_8.out.kp (by repeat (first | exact Kp.refl _ | refine Kp.alloc ?_ _ | refine Kp.drew ?_ | refine Kp.drewN _ ?_)), by exact bl_kp R2_8.out (by repeat (first | exact Kp.refl _ | refine Kp.alloc ?_ _ | refine Kp.drew ?_ | refine Kp.drewN _ ?_)), by exact PD3.out.kp (by repeat (first | exact Kp.refl _ | refine Kp.alloc ?_ _ | refine Kp.drew ?_ | refine Kp.drewN _ ?_)), by (first | exact last_at _ _ _ (by simp) | (refine bl_alloc ?_ _; first | exact last_at _ _ _ (by simp) | (refine bl_alloc ?_ _; first | exact last_at _ _ _ (by simp) | (refine bl_alloc ?_ _; exact last_at _ _ _ (by simp)))))⟩ ?_
  rintro U3 ⟨xK_9, xZ_9, xPD1_9, xR1_9, xPD2_9, xR2_9, xPD3_9, xR3_9⟩
  have K_9 : Hid (Kp w U3) := xK_9
  have Z_9 : Hid ((∃ mz, U3.cell? ⟨0, 0, none⟩ = some (.int .i64 mz))) := xZ_9
  have PD1_9 : Hid (Pd U3 T k1 mn1 mx1 mm1 t1 ad1 l1 c1) := xPD1_9
  have R1_9 : Hid (U3.heap[V1.heap.size]? = some (rxo k1 mn1 mx1 mm1 t1 (.slice ad1 l1 c1))) := xR1_9
  have PD2_9 : Hid (Pd U3 T k2 mn2 mx2 mm2 t2 ad2 l2 c2) := xPD2_9
  have R2_9 : Hid (U3.heap[V2.heap.size]? = some (rxo k2 mn2 mx2 mm2 t2 (.slice ad2 l2 c2))) := xR2_9
  have PD3_9 : Hid (Pd U3 T k3 mn3 mx3 mm3 t3 ad3 l3 c3) := xPD3_9
  have R3_9 : Hid (U3.heap[V3.heap.size]? = some (rxo k3 mn3 mx3 mm3 t3 (.slice ad3 l3 c3))) := xR3_9
  clear xK_9 xZ_9 xPD1_9 xR1_9 xPD2_9 xR2_9 xPD3_9 xR3_9
  clear K_8 Z_8 PD1_8 R1_8 PD2_8 R2_8 PD3
  have Q0 : Kp U3 U3.drew := (Kp.refl _).drew
  have MK : Hid (∀ W, Kp U3 W → W.cell? ⟨V1.heap.size, 0, none⟩ = some (.int .i64 k1) ∧ W.cell? ⟨V1.heap.size, 1, none⟩ = some (.int .i64 mn1) ∧ W.cell? ⟨V1.heap.size, 2, none⟩ = some (.int .i64 mx1) ∧ W.cell? ⟨V1.heap.size, 3, none⟩ = some (.int .i64 mm1) ∧ W.cell? ⟨V1.heap.size, 4, none⟩ = some (.int .u64 (t1.a : Int)) ∧ W.cell? ⟨V1.heap.size, 5, none⟩ = some (.int .u64 (t1.b : Int)) ∧ W.cell? ⟨V1.heap.size, 6, none⟩ = some (.int .u64 (t1.c : Int)) ∧ W.cell? ⟨V1.heap.size, 7, none⟩ = some (.int .u64 (t1.d : Int)) ∧ W.cell? ⟨V1.heap.size, 8, none⟩ = some (.slice ad1 l1 c1) ∧ W.cell? ⟨V2.heap.size, 0, none⟩ = some (.int .i64 k2) ∧ W.cell? ⟨V2.heap.size, 1, none⟩ = some (.int .i64 mn2) ∧ W.cell? ⟨V2.heap.size, 2, none⟩ = some (.int .i64 mx2) ∧ W.cell? ⟨V2.heap.size, 3, none⟩ = some (.int .i64 mm2) ∧ W.cell? ⟨V2.heap.size, 4, none⟩ = some (.int .u64 (t2.a : Int)) ∧ W.cell? ⟨V2.heap.size, 5, none⟩ = some (.int .u64 (t2.b : Int)) ∧ W.cell? ⟨V2.heap.size, 6, none⟩ = some (.int .u64 (t2.c : Int)) ∧ W.cell? ⟨V2.heap.size, 7, none⟩ = some (.int .u64 (t2.d : Int)) ∧ W.cell? ⟨V2.heap.size, 8, none⟩ = some (.slice ad2 l2 c2) ∧ W.cell? ⟨V3.heap.size, 0, none⟩ = some (.int .i64 k3) ∧ W.cell? ⟨V3.heap.size, 1, none⟩ = some (.int .i64 mn3) ∧ W.cell? ⟨V3.heap.size, 2, none⟩ = some (.int .i64 mx3) ∧ W.cell? ⟨V3.heap.size, 3, none⟩ = some (.int .i64 mm3) ∧ W.cell? ⟨V3.heap.size, 4, none⟩ = some (.int .u64 (t3.a : Int)) ∧ W.cell? ⟨V3.heap.size, 5, none⟩ = some (.int .u64 (t3.b : Int)) ∧ W.cell? ⟨V3.heap.size, 6, none⟩ = some (.int .u64 (t3.c : Int)) ∧ W.cell? ⟨V3.heap.size, 7, none⟩ = some (.int .u64 (t3.d : Int)) ∧ W.cell? ⟨V3.heap.size, 8, none⟩ = some (.slice ad3 l3 c3) ∧ Hid (Kp U3 W)) := fun W k => ⟨bl_cell (bl_kp R1_9.out k) 0 _ rfl, bl_cell (bl_kp R1_9.out k) 1 _ rfl, bl_cell (bl_kp R1_9.out k) 2 _ rfl, bl_cell (bl_kp R1_9.out k) 3 _ rfl, bl_cell (bl_kp R1_9.out k) 4 _ rfl, bl_cell (bl_kp R1_9.out k) 5 _ rfl, bl_cell (bl_kp R1_9.out k) 6 _ rfl, bl_cell (bl_kp R1_9.out k) 7 _ rfl, bl_cell (bl_kp R1_9.out k) 8 _ rfl, bl_cell (bl_kp R2_9.out k) 0 _ rfl, bl_cell (bl_kp R2_9.out k) 1 _ rfl, bl_cell (bl_kp R2_9.out k) 2 _ rfl, bl_cell (bl_kp R2_9.out k) 3 _ rfl, bl_cell (bl_kp R2_9.out k) 4 _ rfl, bl_cell (bl_kp R2_9.out k) 5 _ rfl, bl_cell (bl_kp R2_9.out k) 6 _ rfl, bl_cell (bl_kp R2_9.out k) 7 _ rfl, bl_cell (bl_kp R2_9.out k) 8 _ rfl, bl_cell (bl_kp R3_9.out k) 0 _ rfl, bl_cell (bl_kp R3_9.out k) 1 _ rfl, bl_cell (bl_kp R3_9.out k) 2 _ rfl, bl_cell (bl_kp R3_9.out k) 3 _ rfl, bl_cell (bl_kp R3_9.out k) 4 _ rfl, bl_cell (bl_kp R3_9.out k) 5 _ rfl, bl_cell (bl_kp R3_9.out k) 6 _ rfl, bl_cell (bl_kp R3_9.out k) 7 _ rfl, bl_cell (bl_kp R3_9.out k) 8 _ rfl, k⟩
  refine wp_region_noPanic ?_
  refine wp_region_held_drew (S := (fun W => W.cell? ⟨V1.heap.size, 0, none⟩ = some (.int .i64 k1) ∧ W.cell? ⟨V1.heap.size, 1, none⟩ = some (.int .i64 mn1) ∧ W.cell? ⟨V1.heap.size, 2, none⟩ = some (.int .i64 mx1) ∧ W.cell? ⟨V1.heap.size, 3, none⟩ = some (.int .i64 mm1) ∧ W.cell? ⟨V1.heap.size, 4, none⟩ = some (.int .u64 (t1.a : Int)) ∧ W.cell? ⟨V1.heap.size, 5, none⟩ = some (.int .u64 (t1.b : Int)) ∧ W.cell? ⟨V1.heap.size, 6, none⟩ = some (.int .u64 (t1.c : Int)) ∧ W.cell? ⟨V1.heap.size, 7, none⟩ = some (.int .u64 (t1.d : Int)) ∧ W.cell? ⟨V1.heap.size, 8, none⟩ = some (.slice ad1 l1 c1) ∧ W.cell? ⟨V2.heap.size, 0, none⟩ = some (.int .i64 k2) ∧ W.cell? ⟨V2.heap.size, 1, none⟩ = some (.int .i64 mn2) ∧ W.cell? ⟨V2.heap.size, 2, none⟩ = some (.int .i64 mx2) ∧ W.cell? ⟨V2.heap.size, 3, none⟩ = some (.int .i64 mm2) ∧ W.cell? ⟨V2.heap.size, 4, none⟩ = some (.int .u64 (t2.a : Int)) ∧ W.cell? ⟨V2.heap.size, 5, none⟩ = some (.int .u64 (t2.b : Int)) ∧ W.cell? ⟨V2.heap.size, 6, none⟩ = some (.int .u64 (t2.c : Int)) ∧ W.cell? ⟨V2.heap.size, 7, none⟩ = some (.int .u64 (t2.d : Int)) ∧ W.cell? ⟨V2.heap.size, 8, none⟩ = some (.slice ad2 l2 c2) ∧ W.cell? ⟨V3.heap.size, 0, none⟩ = some (.int .i64 k3) ∧ W.cell? ⟨V3.heap.size, 1, none⟩ = some (.int .i64 mn3) ∧ W.cell? ⟨V3.heap.size, 2, none⟩ = some (.int .i64 mx3) ∧ W.cell? ⟨V3.heap.size, 3, none⟩ = some (.int .i64 mm3) ∧ W.cell? ⟨V3.heap.size, 4, none⟩ = some (.int .u64 (t3.a : Int)) ∧ W.cell? ⟨V3.heap.size, 5, none⟩ = some (.int .u64 (t3.b : Int)) ∧ W.cell? ⟨V3.heap.size, 6, none⟩ = some (.int .u64 (t3.c : Int)) ∧ W.cell? ⟨V3.heap.size, 7, none⟩ = some (.int .u64 (t3.d : Int)) ∧ W.cell? ⟨V3.heap.size, 8, none⟩ = some (.slice ad3 l3 c3) ∧ Hid (Kp U3 W))) (by kernel_rfl) ?_ (fun hH => ?_)
  · exact MK.out _ Q0
  have KQ := Q0
  refine wpAnyH_take (i := 0) (oi := { dst := some 30, op := Op.load 30 (Operand.tmp 3), type := 30, pos := "law.go:191", after := #[], guard := none }) (v := ?v0z1) rfl (by kernel_rfl) (by kernel_rfl) (by kernel_rfl) (fun _ _ _ h => h) (Or.inl ⟨by rfl, ?hy0z1⟩) hH ?r0z1
  case hy0z1 => (intro W hSw; (try dsimp only at hSw); go_simp; try (with_reducible rfl))
  try simp only [Act.put, List.setIfInBounds_toArray, List.set_cons_zero, List.set_cons_succ]
  refine wpAnyH_ready (rs := [1]) (by kernel_rfl) (by simp) ?_
  refine AllReadyH.cons (o := { dst := some 31, op := Op.call { callee := Callee.value (Operand.func 11), args := #[Operand.tmp 30, Operand.const (Value.bool false)], argTypes := #[30, 4] }, type := 4, pos := "law.go:191", after := #[{ on := 0, ground := Ground.data }], guard := none }) rfl (fun K hKq => ?_) AllReadyH.nil
  go_simp
  refine (RGf.out _ (PD1_9.out.kp KQ)).mono ?_
  rintro e y1 ⟨rfl, kq⟩
  refine hKq.out _ _ (MK.out _ (KQ.trans kq)) (fun hN => ?_)
  clear kq
  clear hKq K hH KQ
  have hH := hN
  clear hN
  have KQ := hH.2.2.2.2.2.2.2.2.2.2.2.2.2.2.2.2.2.2.2.2.2.2.2.2.2.2.2.out
  try simp only [Act.put, List.setIfInBounds_toArray, List.set_cons_zero, List.set_cons_succ]
  refine wpAnyH_take (i := 2) (oi := { dst := some 32, op := Op.move (Operand.tmp 31), type := 4, pos := "law.go:191", after := #[{ on := 1, ground := Ground.data }, { on := 1, ground := Ground.chain }], guard := none }) (v := ?v2z2) rfl (by kernel_rfl) (by kernel_rfl) (by kernel_rfl) (fun _ _ _ h => h) (Or.inl ⟨by rfl, ?hy2z2⟩) hH ?r2z2
  case hy2z2 => (intro W hSw; (try dsimp only at hSw); go_simp; try (with_reducible rfl))
  try simp only [Act.put, List.setIfInBounds_toArray, List.set_cons_zero, List.set_cons_succ]
  refine wpAnyH_take (i := 3) (oi := { dst := some 33, op := Op.load 30 (Operand.tmp 3), type := 30, pos := "law.go:191", after := #[{ on := 2, ground := Ground.guard }], guard := some (2, true) }) (v := ?v3z3) rfl (by kernel_rfl) (by kernel_rfl) (by kernel_rfl) (fun _ _ _ h => h) (Or.inl ⟨by rfl, ?hy3z3⟩) hH ?r3z3
  case hy3z3 => (intro W hSw; (try dsimp only at hSw); go_simp; try (with_reducible rfl))
  try simp only [Act.put, List.setIfInBounds_toArray, List.set_cons_zero, List.set_cons_succ]
  refine wpAnyH_ready (rs := [4]) (by kernel_rfl) (by simp) ?_
  refine AllReadyH.cons (o := { dst := some 34, op := Op.call { callee := Callee.value (Operand.func 11), args := #[Operand.tmp 33, Operand.const (Value.bool true)], argTypes := #[30, 4] }, type := 4, pos := "law.go:191", after := #[{ on := 3, ground := Ground.data }, { on := 2, ground := Ground.chain }, { on := 2, ground := Ground.guard }], guard := some (2, true) }) rfl (fun K hKq => ?_) AllReadyH.nil
  go_simp
  refine (RGt.out _ (PD1_9.out.kp KQ)).mono ?_
  rintro e y2 ⟨rfl, kq⟩
  refine hKq.out _ _ (MK.out _ (KQ.trans kq)) (fun hN => ?_)
  clear kq
  clear hKq K hH KQ
  have hH := hN
  clear hN
  have KQ := hH.2.2.2.2.2.2.2.2.2.2.2.2.2.2.2.2.2.2.2.2.2.2.2.2.2.2.2.out
  try simp only [Act.put, List.setIfInBounds_toArray, List.set_cons_zero, List.set_cons_succ]
  refine wpAnyH_take (i := 5) (oi := { dst := some 35, op := Op.pick (Operand.tmp 32) (Operand.tmp 34) (Operand.const (Value.bool false)), type := 4, pos := "law.go:191", after := #[{ on := 2, ground := Ground.data }, { on := 4, ground := Ground.data }], guard := none }) (v := ?v5z4) rfl (by kernel_rfl) (by kernel_rfl) (by kernel_rfl) (fun _ _ _ h => h) (Or.inl ⟨by rfl, ?hy5z4⟩) hH ?r5z4
  case hy5z4 => (intro W hSw; (try dsimp only at hSw); go_simp; try (with_reducible rfl))
  try simp only [Act.put, List.setIfInBounds_toArray, List.set_cons_zero, List.set_cons_succ]
  refine wpAnyH_take (i := 6) (oi := { dst := some 36, op := Op.move (Operand.tmp 35), type := 4, pos := "law.go:191", after := #[{ on := 5, ground := Ground.data }, { on := 4, ground := Ground.chain }], guard := none }) (v := ?v6z5) rfl (by kernel_rfl) (by kernel_rfl) (by kernel_rfl) (fun _ _ _ h => h) (Or.inl ⟨by rfl, ?hy6z5⟩) hH ?r6z5
  case hy6z5 => (intro W hSw; (try dsimp only at hSw); go_simp; try (with_reducible rfl))
  try simp only [Act.put, List.setIfInBounds_toArray, List.set_cons_zero, List.set_cons_succ]
  refine wpAnyH_take (i := 7) (oi := { dst := some 37, op := Op.move (Operand.tmp 7), type := 31, pos := "law.go:191", after := #[{ on := 6, ground := Ground.guard }], guard := some (6, true) }) (v := ?v7z6) rfl (by kernel_rfl) (by kernel_rfl) (by kernel_rfl) (fun _ _ _ h => h) (Or.inl ⟨by rfl, ?hy7z6⟩) hH ?r7z6
  case hy7z6 => (intro W hSw; (try dsimp only at hSw); go_simp; try (with_reducible rfl))
  try simp only [Act.put, List.setIfInBounds_toArray, List.set_cons_zero, List.set_cons_succ]
  refine wpAnyH_take (i := 8) (oi := { dst := some 38, op := Op.binOp BinOp.eql 31 (Operand.tmp 37) (Operand.const (Value.int IntKind.i64 0)) 31, type := 4, pos := "law.go:191", after := #[{ on := 7, ground := Ground.data }, { on := 6, ground := Ground.guard }], guard := some (6, true) }) (v := ?v8z7) rfl (by kernel_rfl) (by kernel_rfl) (by kernel_rfl) (fun _ _ _ h => h) (Or.inl ⟨by rfl, ?hy8z7⟩) hH ?r8z7
  case hy8z7 => (intro W hSw; (try dsimp only at hSw); go_simp; try (with_reducible rfl))
  try simp only [Act.put, List.setIfInBounds_toArray, List.set_cons_zero, List.set_cons_succ]
  refine wpAnyH_take (i := 9) (oi := { dst := some 39, op := Op.pick (Operand.tmp 36) (Operand.tmp 38) (Operand.const (Value.bool false)), type := 4, pos := "law.go:191", after := #[{ on := 6, ground := Ground.data }, { on := 8, ground := Ground.data }], guard := none }) (v := ?v9z8) rfl (by kernel_rfl) (by kernel_rfl) (by kernel_rfl) (fun _ _ _ h => h) (Or.inl ⟨by rfl, ?hy9z8⟩) hH ?r9z8
  case hy9z8 => (intro W hSw; (try dsimp only at hSw); go_simp; try (with_reducible rfl))
  try simp only [Act.put, List.setIfInBounds_toArray, List.set_cons_zero, List.set_cons_succ]
  refine wpAnyH_take (i := 10) (oi := { dst := some 40, op := Op.move (Operand.tmp 39), type := 4, pos := "law.go:191", after := #[{ on := 9, ground := Ground.data }, { on := 6, ground := Ground.chain }], guard := none }) (v := ?v10z9) rfl (by kernel_rfl) (by kernel_rfl) (by kernel_rfl) (fun _ _ _ h => h) (Or.inl ⟨by rfl, ?hy10z9⟩) hH ?r10z9
  case hy10z9 => (intro W hSw; (try dsimp only at hSw); go_simp; try (with_reducible rfl))
  try simp only [Act.put, List.setIfInBounds_toArray, List.set_cons_zero, List.set_cons_succ]
  refine wpAnyH_take (i := 11) (oi := { dst := some 41, op := Op.move (Operand.tmp 11), type := 31, pos := "law.go:191", after := #[{ on := 10, ground := Ground.guard }], guard := some (10, true) }) (v := ?v11z10) rfl (by kernel_rfl) (by kernel_rfl) (by kernel_rfl) (fun _ _ _ h => h) (Or.inl ⟨by rfl, ?hy11z10⟩) hH ?r11z10
  case hy11z10 => (intro W hSw; (try dsimp only at hSw); go_simp; try (with_reducible rfl))
  try simp only [Act.put, List.setIfInBounds_toArray, List.set_cons_zero, List.set_cons_succ]
  refine wpAnyH_take (i := 12) (oi := { dst := some 42, op := Op.binOp BinOp.eql 31 (Operand.tmp 41) (Operand.const (Value.int IntKind.i64 0)) 31, type := 4, pos := "law.go:191", after := #[{ on := 11, ground := Ground.data }, { on := 10, ground := Ground.guard }], guard := some (10, true) }) (v := ?v12z11) rfl (by kernel_rfl) (by kernel_rfl) (by kernel_rfl) (fun _ _ _ h => h) (Or.inl ⟨by rfl, ?hy12z11⟩) hH ?r12z11
  case hy12z11 => (intro W hSw; (try dsimp only at hSw); go_simp; try (with_reducible rfl))
  try simp only [Act.put, List.setIfInBounds_toArray, List.set_cons_zero, List.set_cons_succ]
  refine wpAnyH_take (i := 13) (oi := { dst := some 43, op := Op.pick (Operand.tmp 40) (Operand.tmp 42) (Operand.const (Value.bool false)), type := 4, pos := "law.go:191", after := #[{ on := 10, ground := Ground.data }, { on := 12, ground := Ground.data }], guard := none }) (v := ?v13z12) rfl (by kernel_rfl) (by kernel_rfl) (by kernel_rfl) (fun _ _ _ h => h) (Or.inl ⟨by rfl, ?hy13z12⟩) hH ?r13z12
  case hy13z12 => (intro W hSw; (try dsimp only at hSw); go_simp; try (with_reducible rfl))
  try simp only [Act.put, List.setIfInBounds_toArray, List.set_cons_zero, List.set_cons_succ]
  refine wpAnyH_take (i := 14) (oi := { dst := some 44, op := Op.move (Operand.tmp 43), type := 4, pos := "law.go:191", after := #[{ on := 13, ground := Ground.data }, { on := 10, ground := Ground.chain }], guard := none }) (v := ?v14z13) rfl (by kernel_rfl) (by kernel_rfl) (by kernel_rfl) (fun _ _ _ h => h) (Or.inl ⟨by rfl, ?hy14z13⟩) hH ?r14z13
  case hy14z13 => (intro W hSw; (try dsimp only at hSw); go_simp; try (with_reducible rfl))
  try simp only [Act.put, List.setIfInBounds_toArray, List.set_cons_zero, List.set_cons_succ]
  refine wpAnyH_take (i := 15) (oi := { dst := some 45, op := Op.load 30 (Operand.tmp 5), type := 30, pos := "law.go:191", after := #[{ on := 14, ground := Ground.guard }], guard := some (14, true) }) (v := ?v15z14) rfl (by kernel_rfl) (by kernel_rfl) (by kernel_rfl) (fun _ _ _ h => h) (Or.inl ⟨by rfl, ?hy15z14⟩) hH ?r15z14
  case hy15z14 => (intro W hSw; (try dsimp only at hSw); go_simp; try (with_reducible rfl))
  try simp only [Act.put, List.setIfInBounds_toArray, List.set_cons_zero, List.set_cons_succ]
  refine wpAnyH_take (i := 16) (oi := { dst := some 46, op := Op.load 30 (Operand.tmp 3), type := 30, pos := "law.go:191", after := #[{ on := 14, ground := Ground.guard }], guard := some (14, true) }) (v := ?v16z15) rfl (by kernel_rfl) (by kernel_rfl) (by kernel_rfl) (fun _ _ _ h => h) (Or.inl ⟨by rfl, ?hy16z15⟩) hH ?r16z15
  case hy16z15 => (intro W hSw; (try dsimp only at hSw); go_simp; try (with_reducible rfl))
  try simp only [Act.put, List.setIfInBounds_toArray, List.set_cons_zero, List.set_cons_succ]
  refine wpAnyH_ready (rs := [17]) (by kernel_rfl) (by simp) ?_
  refine AllReadyH.cons (o := { dst := some 47, op := Op.call { callee := Callee.value (Operand.func 17), args := #[Operand.tmp 45, Operand.tmp 46], argTypes := #[30, 30] }, type := 4, pos := "law.go:191", after := #[{ on := 15, ground := Ground.data }, { on := 16, ground := Ground.data }, { on := 14, ground := Ground.chain }, { on := 14, ground := Ground.guard }], guard := some (14, true) }) rfl (fun K hKq => ?_) AllReadyH.nil
  go_simp
  refine (SM.out _ (PD2_9.out.kp KQ) (PD1_9.out.kp KQ)).mono ?_
  rintro e y3 ⟨rfl, kq⟩
  refine hKq.out _ _ (MK.out _ (KQ.trans kq)) (fun hN => ?_)
  clear kq
  clear hKq K hH KQ
  have hH := hN
  clear hN
  have KQ := hH.2.2.2.2.2.2.2.2.2.2.2.2.2.2.2.2.2.2.2.2.2.2.2.2.2.2.2.out
  try simp only [Act.put, List.setIfInBounds_toArray, List.set_cons_zero, List.set_cons_succ]
  refine wpAnyH_take (i := 18) (oi := { dst := some 48, op := Op.pick (Operand.tmp 44) (Operand.tmp 47) (Operand.const (Value.bool false)), type := 4, pos := "law.go:191", after := #[{ on := 14, ground := Ground.data }, { on := 17, ground := Ground.data }], guard := none }) (v := ?v18z16) rfl (by kernel_rfl) (by kernel_rfl) (by kernel_rfl) (fun _ _ _ h => h) (Or.inl ⟨by rfl, ?hy18z16⟩) hH ?r18z16
  case hy18z16 => (intro W hSw; (try dsimp only at hSw); go_simp; try (with_reducible rfl))
  try simp only [Act.put, List.setIfInBounds_toArray, List.set_cons_zero, List.set_cons_succ]
  refine wpAnyH_take (i := 19) (oi := { dst := some 49, op := Op.move (Operand.tmp 48), type := 4, pos := "law.go:191", after := #[{ on := 18, ground := Ground.data }, { on := 17, ground := Ground.chain }], guard := none }) (v := ?v19z17) rfl (by kernel_rfl) (by kernel_rfl) (by kernel_rfl) (fun _ _ _ h => h) (Or.inl ⟨by rfl, ?hy19z17⟩) hH ?r19z17
  case hy19z17 => (intro W hSw; (try dsimp only at hSw); go_simp; try (with_reducible rfl))
  try simp only [Act.put, List.setIfInBounds_toArray, List.set_cons_zero, List.set_cons_succ]
  refine wpAnyH_take (i := 20) (oi := { dst := some 50, op := Op.load 30 (Operand.tmp 9), type := 30, pos := "law.go:191", after := #[{ on := 19, ground := Ground.guard }], guard := some (19, true) }) (v := ?v20z18) rfl (by kernel_rfl) (by kernel_rfl) (by kernel_rfl) (fun _ _ _ h => h) (Or.inl ⟨by rfl, ?hy20z18⟩) hH ?r20z18
  case hy20z18 => (intro W hSw; (try dsimp only at hSw); go_simp; try (with_reducible rfl))
  try simp only [Act.put, List.setIfInBounds_toArray, List.set_cons_zero, List.set_cons_succ]
  refine wpAnyH_take (i := 21) (oi := { dst := some 51, op := Op.load 30 (Operand.tmp 3), type := 30, pos := "law.go:191", after := #[{ on := 19, ground := Ground.guard }], guard := some (19, true) }) (v := ?v21z19) rfl (by kernel_rfl) (by kernel_rfl) (by kernel_rfl) (fun _ _ _ h => h) (Or.inl ⟨by rfl, ?hy21z19⟩) hH ?r21z19
  case hy21z19 => (intro W hSw; (try dsimp only at hSw); go_simp; try (with_reducible rfl))
  try simp only [Act.put, List.setIfInBounds_toArray, List.set_cons_zero, List.set_cons_succ]
  refine wpAnyH_ready (rs := [22]) (by kernel_rfl) (by simp) ?_
  refine AllReadyH.cons (o := { dst := some 52, op := Op.call { callee := Callee.value (Operand.func 17), args := #[Operand.tmp 50, Operand.tmp 51], argTypes := #[30, 30] }, type := 4, pos := "law.go:191", after := #[{ on := 20, ground := Ground.data }, { on := 21, ground := Ground.data }, { on := 19, ground := Ground.chain }, { on := 19, ground := Ground.guard }], guard := some (19, true) }) rfl (fun K hKq => ?_) AllReadyH.nil
  go_simp
  refine (SM.out _ (PD3_9.out.kp KQ) (PD1_9.out.kp KQ)).mono ?_
  rintro e y4 ⟨rfl, kq⟩
  refine hKq.out _ _ (MK.out _ (KQ.trans kq)) (fun hN => ?_)
  clear kq
  clear hKq K hH KQ
  have hH := hN
  clear hN
  have KQ := hH.2.2.2.2.2.2.2.2.2.2.2.2.2.2.2.2.2.2.2.2.2.2.2.2.2.2.2.out
  try simp only [Act.put, List.setIfInBounds_toArray, List.set_cons_zero, List.set_cons_succ]
  refine wpAnyH_take (i := 23) (oi := { dst := some 53, op := Op.pick (Operand.tmp 49) (Operand.tmp 52) (Operand.const (Value.bool false)), type := 4, pos := "law.go:191", after := #[{ on := 19, ground := Ground.data }, { on := 22, ground := Ground.data }], guard := none }) (v := ?v23z20) rfl (by kernel_rfl) (by kernel_rfl) (by kernel_rfl) (fun _ _ _ h => h) (Or.inl ⟨by rfl, ?hy23z20⟩) hH ?r23z20
  case hy23z20 => (intro W hSw; (try dsimp only at hSw); go_simp; try (with_reducible rfl))
  try simp only [Act.put, List.setIfInBounds_toArray, List.set_cons_zero, List.set_cons_succ]
  refine wpAnyH_take (i := 24) (oi := { dst := some 54, op := Op.move (Operand.tmp 53), type := 4, pos := "law.go:191", after := #[{ on := 23, ground := Ground.data }, { on := 22, ground := Ground.chain }], guard := none }) (v := ?v24z21) rfl (by kernel_rfl) (by kernel_rfl) (by kernel_rfl) (fun _ _ _ h => h) (Or.inl ⟨by rfl, ?hy24z21⟩) hH ?r24z21
  case hy24z21 => (intro W hSw; (try dsimp only at hSw); go_simp; try (with_reducible rfl))
  try simp only [Act.put, List.setIfInBounds_toArray, List.set_cons_zero, List.set_cons_succ]
  refine wpAnyH_take (i := 25) (oi := { dst := some 55, op := Op.load 30 (Operand.tmp 3), type := 30, pos := "law.go:191", after := #[{ on := 24, ground := Ground.guard }], guard := some (24, true) }) (v := ?v25z22) rfl (by kernel_rfl) (by kernel_rfl) (by kernel_rfl) (fun _ _ _ h => h) (Or.inl ⟨by rfl, ?hy25z22⟩) hH ?r25z22
  case hy25z22 => (intro W hSw; (try dsimp only at hSw); go_simp; try (with_reducible rfl))
  try simp only [Act.put, List.setIfInBounds_toArray, List.set_cons_zero, List.set_cons_succ]
  refine wpAnyH_take (i := 27) (oi := { dst := some 57, op := Op.move (Operand.tmp 8), type := 9, pos := "law.go:191", after := #[{ on := 24, ground := Ground.guard }], guard := some (24, true) }) (v := ?v27z23) rfl (by kernel_rfl) (by kernel_rfl) (by kernel_rfl) (fun _ _ _ h => h) (Or.inl ⟨by rfl, ?hy27z23⟩) hH ?r27z23
  case hy27z23 => (intro W hSw; (try dsimp only at hSw); go_simp; try (with_reducible rfl))
  try simp only [Act.put, List.setIfInBounds_toArray, List.set_cons_zero, List.set_cons_succ]
  refine wpAnyH_ready (rs := [26]) (by kernel_rfl) (by simp) ?_
  refine AllReadyH.cons (o := { dst := some 56, op := Op.call { callee := Callee.value (Operand.func 16), args := #[Operand.tmp 55, Operand.const (Value.bool false)], argTypes := #[30, 4] }, type := 9, pos := "law.go:191", after := #[{ on := 25, ground := Ground.data }, { on := 24, ground := Ground.chain }, { on := 24, ground := Ground.guard }], guard := some (24, true) }) rfl (fun K hKq => ?_) AllReadyH.nil
  go_simp
  refine (PRf.out _ (PD1_9.out.kp KQ)).mono ?_
  rintro e y5 ⟨rfl, kq⟩
  refine hKq.out _ _ (MK.out _ (KQ.trans kq)) (fun hN => ?_)
  clear kq
  clear hKq K hH KQ
  have hH := hN
  clear hN
  have KQ := hH.2.2.2.2.2.2.2.2.2.2.2.2.2.2.2.2.2.2.2.2.2.2.2.2.2.2.2.out
  try simp only [Act.put, List.setIfInBounds_toArray, List.set_cons_zero, List.set_cons_succ]
  refine wpAnyH_take (i := 28) (oi := { dst := some 58, op := Op.binOp BinOp.eql 9 (Operand.tmp 56) (Operand.tmp 57) 9, type := 4, pos := "law.go:191", after := #[{ on := 26, ground := Ground.data }, { on := 27, ground := Ground.data }, { on := 24, ground := Ground.guard }], guard := some (24, true) }) (v := ?v28z24) rfl (by kernel_rfl) (by kernel_rfl) (by kernel_rfl) (fun _ _ _ h => h) (Or.inl ⟨by rfl, ?hy28z24⟩) hH ?r28z24
  case hy28z24 => (intro W hSw; (try dsimp only at hSw); go_simp; try (with_reducible rfl))
  try simp only [Act.put, List.setIfInBounds_toArray, List.set_cons_zero, List.set_cons_succ]
  refine wpAnyH_take (i := 29) (oi := { dst := some 59, op := Op.pick (Operand.tmp 54) (Operand.tmp 58) (Operand.const (Value.bool false)), type := 4, pos := "law.go:191", after := #[{ on := 24, ground := Ground.data }, { on := 28, ground := Ground.data }], guard := none }) (v := ?v29z25) rfl (by kernel_rfl) (by kernel_rfl) (by kernel_rfl) (fun _ _ _ h => h) (Or.inl ⟨by rfl, ?hy29z25⟩) hH ?r29z25
  case hy29z25 => (intro W hSw; (try dsimp only at hSw); go_simp; try (with_reducible rfl))
  try simp only [Act.put, List.setIfInBounds_toArray, List.set_cons_zero, List.set_cons_succ]
  refine wpAnyH_take (i := 30) (oi := { dst := some 60, op := Op.move (Operand.tmp 59), type := 4, pos := "law.go:191", after := #[{ on := 29, ground := Ground.data }, { on := 26, ground := Ground.chain }], guard := none }) (v := ?v30z26) rfl (by kernel_rfl) (by kernel_rfl) (by kernel_rfl) (fun _ _ _ h => h) (Or.inl ⟨by rfl, ?hy30z26⟩) hH ?r30z26
  case hy30z26 => (intro W hSw; (try dsimp only at hSw); go_simp; try (with_reducible rfl))
  try simp only [Act.put, List.setIfInBounds_toArray, List.set_cons_zero, List.set_cons_succ]
  refine wpAnyH_take (i := 31) (oi := { dst := some 61, op := Op.load 30 (Operand.tmp 5), type := 30, pos := "law.go:191", after := #[{ on := 30, ground := Ground.guard }], guard := some (30, true) }) (v := ?v31z27) rfl (by kernel_rfl) (by kernel_rfl) (by kernel_rfl) (fun _ _ _ h => h) (Or.inl ⟨by rfl, ?hy31z27⟩) hH ?r31z27
  case hy31z27 => (intro W hSw; (try dsimp only at hSw); go_simp; try (with_reducible rfl))
  try simp only [Act.put, List.setIfInBounds_toArray, List.set_cons_zero, List.set_cons_succ]
  refine wpAnyH_take (i := 33) (oi := { dst := some 63, op := Op.load 30 (Operand.tmp 3), type := 30, pos := "law.go:191", after := #[{ on := 30, ground := Ground.guard }], guard := some (30, true) }) (v := ?v33z28) rfl (by kernel_rfl) (by kernel_rfl) (by kernel_rfl) (fun _ _ _ h => h) (Or.inl ⟨by rfl, ?hy33z28⟩) hH ?r33z28
  case hy33z28 => (intro W hSw; (try dsimp only at hSw); go_simp; try (with_reducible rfl))
  try simp only [Act.put, List.setIfInBounds_toArray, List.set_cons_zero, List.set_cons_succ]
  refine wpAnyH_ready (rs := [32]) (by kernel_rfl) (by simp) ?_
  refine AllReadyH.cons (o := { dst := some 62, op := Op.call { callee := Callee.value (Operand.func 14), args := #[Operand.tmp 61], argTypes := #[30] }, type := 3, pos := "law.go:191", after := #[{ on := 31, ground := Ground.data }, { on := 30, ground := Ground.chain }, { on := 30, ground := Ground.guard }], guard := some (30, true) }) rfl (fun K hKq => ?_) AllReadyH.nil
  go_simp
  refine (ND.out _ (PD2_9.out.kp KQ)).mono ?_
  rintro e y6 ⟨rfl, kq⟩
  refine hKq.out _ _ (MK.out _ (KQ.trans kq)) (fun hN => ?_)
  clear kq
  clear hKq K hH KQ
  have hH := hN
  clear hN
  have KQ := hH.2.2.2.2.2.2.2.2.2.2.2.2.2.2.2.2.2.2.2.2.2.2.2.2.2.2.2.out
  try simp only [Act.put, List.setIfInBounds_toArray, List.set_cons_zero, List.set_cons_succ]
  refine wpAnyH_ready (rs := [34]) (by kernel_rfl) (by simp) ?_
  refine AllReadyH.cons (o := { dst := some 64, op := Op.call { callee := Callee.value (Operand.func 14), args := #[Operand.tmp 63], argTypes := #[30] }, type := 3, pos := "law.go:191", after := #[{ on := 33, ground := Ground.data }, { on := 32, ground := Ground.chain }, { on := 30, ground := Ground.guard }], guard := some (30, true) }) rfl (fun K hKq => ?_) AllReadyH.nil
  go_simp
  refine (ND.out _ (PD1_9.out.kp KQ)).mono ?_
  rintro e y7 ⟨rfl, kq⟩
  refine hKq.out _ _ (MK.out _ (KQ.trans kq)) (fun hN => ?_)
  clear kq
  clear hKq K hH KQ
  have hH := hN
  clear hN
  have KQ := hH.2.2.2.2.2.2.2.2.2.2.2.2.2.2.2.2.2.2.2.2.2.2.2.2.2.2.2.out
  try simp only [Act.put, List.setIfInBounds_toArray, List.set_cons_zero, List.set_cons_succ]
  refine wpAnyH_take (i := 35) (oi := { dst := some 65, op := Op.binOp BinOp.eql 3 (Operand.tmp 62) (Operand.tmp 64) 3, type := 4, pos := "law.go:191", after := #[{ on := 32, ground := Ground.data }, { on := 34, ground := Ground.data }, { on := 30, ground := Ground.guard }], guard := some (30, true) }) (v := ?v35z29) rfl (by kernel_rfl) (by kernel_rfl) (by kernel_rfl) (fun _ _ _ h => h) (Or.inl ⟨by rfl, ?hy35z29⟩) hH ?r35z29
  case hy35z29 => (intro W hSw; (try dsimp only at hSw); go_simp; try (with_reducible rfl))
  try simp only [Act.put, List.setIfInBounds_toArray, List.set_cons_zero, List.set_cons_succ]
  refine wpAnyH_take (i := 36) (oi := { dst := some 66, op := Op.pick (Operand.tmp 60) (Operand.tmp 65) (Operand.const (Value.bool false)), type := 4, pos := "law.go:191", after := #[{ on := 30, ground := Ground.data }, { on := 35, ground := Ground.data }], guard := none }) (v := ?v36z30) rfl (by kernel_rfl) (by kernel_rfl) (by kernel_rfl) (fun _ _ _ h => h) (Or.inl ⟨by rfl, ?hy36z30⟩) hH ?r36z30
  case hy36z30 => (intro W hSw; (try dsimp only at hSw); go_simp; try (with_reducible rfl))
  try simp only [Act.put, List.setIfInBounds_toArray, List.set_cons_zero, List.set_cons_succ]
  refine wpAnyH_take (i := 37) (oi := { dst := some 67, op := Op.move (Operand.tmp 66), type := 4, pos := "law.go:191", after := #[{ on := 36, ground := Ground.data }, { on := 34, ground := Ground.chain }], guard := none }) (v := ?v37z31) rfl (by kernel_rfl) (by kernel_rfl) (by kernel_rfl) (fun _ _ _ h => h) (Or.inl ⟨by rfl, ?hy37z31⟩) hH ?r37z31
  case hy37z31 => (intro W hSw; (try dsimp only at hSw); go_simp; try (with_reducible rfl))
  try simp only [Act.put, List.setIfInBounds_toArray, List.set_cons_zero, List.set_cons_succ]
  refine wpAnyH_ready (rs := [38]) (by kernel_rfl) (by simp) ?_
  refine AllReadyH.cons (o := { dst := some 68, op := Op.call { callee := Callee.value (Operand.func 12), args := #[], argTypes := #[] }, type := 4, pos := "law.go:191", after := #[{ on := 37, ground := Ground.chain }, { on := 37, ground := Ground.guard }], guard := some (37, true) }) rfl (fun K hKq => ?_) AllReadyH.nil
  go_simp
  refine (runs_any _ (cell0 Z_9.out KQ)).mono ?_
  rintro e y8 ⟨rfl, kq⟩
  refine hKq.out _ _ (MK.out _ (KQ.trans kq)) (fun hN => ?_)
  clear kq
  clear hKq K hH KQ
  have hH := hN
  clear hN
  have KQ := hH.2.2.2.2.2.2.2.2.2.2.2.2.2.2.2.2.2.2.2.2.2.2.2.2.2.2.2.out
  try simp only [Act.put, List.setIfInBounds_toArray, List.set_cons_zero, List.set_cons_succ]
  refine wpAnyH_take (i := 39) (oi := { dst := some 69, op := Op.pick (Operand.tmp 67) (Operand.tmp 68) (Operand.const (Value.bool false)), type := 4, pos := "law.go:191", after := #[{ on := 37, ground := Ground.data }, { on := 38, ground := Ground.data }], guard := none }) (v := ?v39z32) rfl (by kernel_rfl) (by kernel_rfl) (by kernel_rfl) (fun _ _ _ h => h) (Or.inl ⟨by rfl, ?hy39z32⟩) hH ?r39z32
  case hy39z32 => (intro W hSw; (try dsimp only at hSw); go_simp; try (with_reducible rfl))
  try simp only [Act.put, List.setIfInBounds_toArray, List.set_cons_zero, List.set_cons_succ]
  refine wpAnyH_take (i := 40) (oi := { dst := some 2, op := Op.assign (Operand.tmp 69), type := 4, pos := "law.go:191", after := #[{ on := 39, ground := Ground.data }, { on := 38, ground := Ground.chain }, { on := 0, ground := Ground.phase }, { on := 1, ground := Ground.phase }, { on := 2, ground := Ground.phase }, { on := 3, ground := Ground.phase }, { on := 4, ground := Ground.phase }, { on := 5, ground := Ground.phase }, { on := 6, ground := Ground.phase }, { on := 7, ground := Ground.phase }, { on := 8, ground := Ground.phase }, { on := 9, ground := Ground.phase }, { on := 10, ground := Ground.phase }, { on := 11, ground := Ground.phase }, { on := 12, ground := Ground.phase }, { on := 13, ground := Ground.phase }, { on := 14, ground := Ground.phase }, { on := 15, ground := Ground.phase }, { on := 16, ground := Ground.phase }, { on := 17, ground := Ground.phase }, { on := 18, ground := Ground.phase }, { on := 19, ground := Ground.phase }, { on := 20, ground := Ground.phase }, { on := 21, ground := Ground.phase }, { on := 22, ground := Ground.phase }, { on := 23, ground := Ground.phase }, { on := 24, ground := Ground.phase }, { on := 25, ground := Ground.phase }, { on := 26, ground := Ground.phase }, { on := 27, ground := Ground.phase }, { on := 28, ground := Ground.phase }, { on := 29, ground := Ground.phase }, { on := 30, ground := Ground.phase }, { on := 31, ground := Ground.phase }, { on := 32, ground := Ground.phase }, { on := 33, ground := Ground.phase }, { on := 34, ground := Ground.phase }, { on := 35, ground := Ground.phase }, { on := 36, ground := Ground.phase }, { on := 37, ground := Ground.phase }, { on := 38, ground := Ground.phase }, { on := 39, ground := Ground.phase }], guard := none }) (v := ?v40z33) rfl (by kernel_rfl) (by kernel_rfl) (by kernel_rfl) (fun _ _ _ h => h) (Or.inl ⟨by rfl, ?hy40z33⟩) hH ?r40z33
  case hy40z33 => (intro W hSw; (try dsimp only at hSw); go_simp; try (with_reducible rfl))
  try simp only [Act.put, List.setIfInBounds_toArray, List.set_cons_zero, List.set_cons_succ]
  refine wpAnyH_done (by kernel_rfl) ?_ _
  refine NoPanic.normal ?_
  go_wp2_with fail
  go_ret
  exact ⟨rfl, K_9.out.trans KQ⟩
end Go.Proofs.YtikmgckefbjbkabGreatDoor

/-! ### OpenKeep -/

namespace Go.Proofs.YtikmgckefbjbkabGreatDoor
open Go.ChangeShapes Go.WideShapes Go.ChangeAt Go.RowKit

theorem cells42 : Tryz.prog.cellsOf 42 = 2 := by kernel_rfl
theorem cellsNums : Tryz.prog.cellsOf 40 = 1 := by kernel_rfl
theorem list2 {α : Type} (l : List α) (h : (⟨l⟩ : Array α).size = 2) : ∃ a b, l = [a, b] := by
  match l, h with
  | [a, b], _ => exact ⟨a, b, rfl⟩
theorem open_nums {H : Type} {enc : TypeId × Value → H} {W : World} {n : Nat} {c : Value} {y : DataW H × List MemPlace}
    (h : DataW.trod enc Tryz.prog W 0 (fun _ => true) true n 40 [c] = some y) : ∃ a l k, c = .slice a l k ∧ Nums W W.heap.size a l := by
  rcases open_ints Tryz.underlying40 Tryz.underlying3 (by kernel_rfl) h with ⟨hcs, _⟩ | ⟨x, l, k, zs, hcs, _, hl, _, hz, _, hcell, _⟩
  · injection hcs with hcs
    exact ⟨none, 0, 0, hcs, ⟨fun h => absurd h (by omega)⟩⟩
  · injection hcs with hcs
    refine ⟨some x, l, k, hcs, ⟨fun h0 => ?_⟩⟩
    have hz : zs.length = k := by simpa using hz
    obtain ⟨b, off, rfl, hc⟩ := ints_at hcell (by omega)
    exact ⟨b, off, rfl, World.block_lt_of_cell? W _ (hc 0 (by omega)), fun i hi => ⟨_, hc i (by omega)⟩⟩
set_option maxRecDepth 100000 in
theorem open_keep {H : Type} {enc : TypeId × Value → H} {W : World} {base : Nat} {v : Value} {d : DataW H} {ps : List MemPlace}
    (hv : Value.okWide Tryz.prog W .any base 42 v) (h : DataW.Trod enc Tryz.prog W 0 (fun _ => true) true 42 v d ps) : ∃ aK lK cK aN lN cN, v = .agg #[.slice aK lK cK, .slice aN lN cN] ∧ Nums W W.heap.size aK lK ∧ Nums W W.heap.size aN lN := by
  obtain ⟨cs, rfl, hsz⟩ := okWide_struct Tryz.underlying42 hv
  rw [cells42] at hsz
  obtain ⟨l⟩ := cs
  obtain ⟨c0, c1, rfl⟩ := list2 l hsz
  obtain ⟨fuel, hf⟩ := h
  obtain ⟨y0, y1, m, _, _, h0, h1⟩ := trod_struct2 Tryz.underlying42 hf
  simp [Value.cells, cellsNums] at h0 h1
  obtain ⟨aK, lK, cK, rfl, nk⟩ := open_nums h0
  obtain ⟨aN, lN, cN, rfl, nn⟩ := open_nums h1
  exact ⟨aK, lK, cK, aN, lN, cN, rfl, nk, nn⟩
end Go.Proofs.YtikmgckefbjbkabGreatDoor

/-! ### Wrap -/

namespace Go.Proofs.YtikmgckefbjbkabGreatDoor
open Go.ChangeShapes Go.WideShapes Go.ChangeAt Go.RowKit

theorem and_shaped {H : Type} {enc : TypeId × Value → H} {a : Assume} {C : Checked} {os : Go.Os} {f : FuncId} {fn : Func} {s : ChangeSpec} {conds : List PathCond} {apart fresh handsOn again : Bool} {X : World → Array Value → Prop}
    (hX : ∀ (w w' : World) (args : Array Value), w.heap = w'.heap → X w args → X w' args)
    (own : ownKnob C.prog.godebug = none) (started : os.Started) (noInit : C.prog.inits.idxOf? f = none) (hfn : C.prog.funcs[f]? = some fn)
    (witness : ∃ (w : World) (tape : Tape) (i : Input), w.os = os ∧ (w.forCall tape i).Shaped C.prog ∧ i.vars = [] ∧ Input.okWide C.prog (w.forCall tape i) .any w.heap.size f i ∧
      ((s.pre enc C.prog fn conds apart (w.forCall tape i).memory i.args ∧ X (w.forCall tape i).memory i.args) ∧ sizedMet enc C.prog fn (OpenSpec.ofChange s) apart (w.forCall tape i).memory i.args) ∧ a.holds C.prog (lone (Frame.enter C.prog f i.args .normal) [] (w.forCall tape i)))
    (contract : ∀ (W : World) (base : Nat) (args : Array Value) (ds gs : List (DataW H)) (before : List MemPlace),
      (∀ (j : Nat) t v, fn.params[j]? = some t → args[j]? = some v → Value.okWide C.prog W .any base t v) →
      DataW.Whole enc C.prog fn.params.toList s.vars apart W args.toList ds gs before →
      conds.all (PathCond.test C.prog ⟨fn.params.toList, ds, s.plain.varTypes C.prog, gs⟩) = true →
      (DataW.weightsEach C.prog (fn.params.toList ++ s.plain.varTypes C.prog) (ds ++ gs)).all (· ≤ reachBytes) = true → X W args → W.ShapedOpen C.prog →
      Calls C.prog f args W fun e W' => ∃ v, e = .returned v ∧ s.post enc C.prog fn apart fresh handsOn again W args v W') :
    ReturnsInHanded a C os f .any (fun w args => (s.pre enc C.prog fn conds apart w args ∧ X w args) ∧ sizedMet enc C.prog fn (OpenSpec.ofChange s) apart w args) (s.post enc C.prog fn apart fresh handsOn again) := by
  refine returnsInHanded_of_calls own started noInit witness ?_
  intro w tape i _ hsh _ hok hpre hholds
  obtain ⟨_, _, _, fn', hfn', _, _, _, _, hval⟩ := hok
  have e : fn' = fn := Option.some.inj (hfn'.symm.trans hfn)
  subst e
  obtain ⟨⟨⟨ds, gs, before, hw, hc⟩, hx⟩, hz⟩ := hpre
  have hw' := DataW.Whole.of_heap (w' := w.forCall tape i) (by rfl) hw
  refine (contract (w.forCall tape i) w.heap.size i.args ds gs before hval hw' hc (hz.weights hw) (hX _ _ _ (by rfl) hx) hsh).mono fun e W' ⟨v, he, hp⟩ => ?_
  subst he
  exact ChangeSpec.post_blind hp

theorem own : ownKnob Tryz.prog.godebug = none := by kernel_rfl

/-- What every row of this seat lists. -/
abbrev laid3 : List (String × DataW Unit) := [("math/bits.deBruijn32tab", Rows.laid_math_bits_deBruijn32tab), ("math/bits.deBruijn64tab", Rows.laid_math_bits_deBruijn64tab), ("internal/strconv.uint64pow10", Rows.laid_internal_strconv_uint64pow10)]

/-- The door's own heap meets the condition. -/
theorem door_met (os : Go.Os) (args : Array Value) : laidMetH Tryz.prog laid3 ((World.doorLaid Tryz.prog 24 os).forCall (fun _ _ => 0) ⟨#[], args, []⟩).memory :=
  laidMetH_of_parts3 (fuel := 8) (laidMet_of_run' 8 (by kernel_rfl) (by kernel_rfl)) (by kernel_rfl) (by kernel_rfl)

/-- MaxLen holds a number. -/
theorem maxLen {W : World} (h : W.ShapedOpen Tryz.prog) : ∃ m, W.cell? ⟨0, 0, none⟩ = some (.int .i64 m) :=
  cell_of_shapedOpen_int (P := Tryz.prog) (g := 0) (t := 3) (zero := #[.int .i64 0]) h (of_decide_eq_true (by kernel_rfl)) (by kernel_rfl) rfl (by kernel_rfl) (by kernel_rfl) Tryz.underlying3
end Go.Proofs.YtikmgckefbjbkabGreatDoor

/-! ### RxBothProof -/

namespace Go.Proofs.YtikmgckefbjbkabGreatDoor.rxBoth
open Go.ChangeShapes Go.WideShapes Go.ChangeAt Go.RowKit
open Go.ChangeMaps (open_string shut_string)
set_option linter.unusedVariables false

theorem laidOut : laidOutB Tryz.prog = true := by kernel_rfl
set_option maxRecDepth 100000 in
theorem lifted (os : Go.Os) (started : os.Started) (H : Type) (enc : TypeId × Value → H) :
    ReturnsInHanded {} Tryz.checked os 5 .any (fun w args => (Rows.rxBothSpec.pre enc Tryz.prog Tryz.f5 [] false w args ∧ laidMetH Tryz.prog laid3 w) ∧ sizedMet enc Tryz.prog Tryz.f5 (OpenSpec.ofChange Rows.rxBothSpec) false w args)
      (Rows.rxBothSpec.post enc Tryz.prog Tryz.f5 false true false false) := by
  refine and_shaped (C := Tryz.checked) (X := fun w _ => laidMetH Tryz.prog laid3 w) (fun _ _ _ hh h => h.of_heap hh) own started (by kernel_rfl) Tryz.func5
    (ChangeSpec.witness_shaped (enc := enc) (C := Tryz.checked) (os := os) (X := fun w _ => laidMetH Tryz.prog laid3 w) false (World.doorLaid Tryz.prog 24 os) #[.agg #[.slice none 0 0, .slice none 0 0]] 8 rfl (World.shaped_of_RefB (by kernel_rfl) (by kernel_rfl)) (by kernel_rfl) (by kernel_rfl) (by kernel_rfl) (door_met os _)) ?_
  intro W base args ds gs before hval0 hW _ _ hL hsh
  have hval : ∀ (j : Nat) t v, Tryz.f5.params[j]? = some t → args[j]? = some v → Value.okWide Tryz.prog W .any base t v := hval0
  have hW' := hW
  obtain ⟨p, q, hA0, hV, rfl, hfz, hnd⟩ := hW
  have hA : DataW.TrodAll enc Tryz.prog W 0 (fun _ => true) true Tryz.f5.params.toList args.toList ds p := hA0
  rw [Tryz.params5] at hA hval
  obtain ⟨v0, vs0, d0, ds0, p0, q0, hargs, rfl, rfl, h0, r0⟩ := trodAll_cons hA
  obtain ⟨rfl, rfl, rfl⟩ := trodAll_nil r0
  obtain rfl : args = #[v0] := by cases args; simp_all
  obtain ⟨rfl, rfl⟩ := trodVars_none hV
  have k0 := h0
  have lt0 : ∀ x ∈ p0, x.block < W.heap.size := by obtain ⟨m, hm⟩ := k0; exact DataW.trod_lt m _ _ _ hm
  obtain ⟨aK0, lK0, cK0, aN0, lN0, cN0, rfl, nk0, nn0⟩ := open_keep (hval 0 42 v0 rfl rfl) k0
  clear hA0 hval0
  refine (both_any aK0 lK0 cK0 aN0 lN0 cN0 W nk0 nn0 (maxLen hsh)).mono fun e W' ⟨he, bel⟩ => ?_
  subst he
  exact ⟨_, rfl, _, _, _, [], _, [], hW', trodAll_mk1 (shut_bool Tryz.underlying4 _), (trodAll_cons_mk (Below.trod laidOut (by kernel_rfl) (of_decide_eq_true (by kernel_rfl)) k0 bel lt0) trodAll_mk0), rfl, Below.frame bel _, fun h => by cases h⟩

theorem over : Rows.rxBothRow.holds Tryz.pinned (OpenSpec.ofChange Rows.rxBothSpec) :=
  OpenClaim.holds_of_wide 5 Tryz.f5 rfl rfl rfl rfl rfl rfl rfl ⟨rfl, rfl, rfl, rfl, rfl⟩ rfl rfl rfl rfl rfl (by kernel_rfl) Tryz.func5 (by kernel_rfl)
    (of_decide_eq_true (by kernel_rfl)) (by unfold Func.isWrapper; first | (rw [if_pos (by decide +kernel)]; kernel_rfl) | (rw [if_neg (by decide +kernel)]; exact ⟨rfl, rfl⟩))
    (fun os started H enc _ => lifted os started H enc)

theorem carded : Rows.RxBothCardSaid :=
  Claim7.holds_tied_plain_at .later [] [.data, .data, .data] true (true, "d7f39d193829e72837050156560bcd563f74548b4f356ef346653581ae90b154") false
    over (fun _ h => by cases h) (by kernel_rfl) (fun _ h => by cases h) rxBoth_row_tie rfl ⟨rfl, rfl⟩ (by kernel_rfl) rfl
    (fun f fn hf hfn => by
      obtain rfl : f = 5 := Option.some.inj ((show Tryz.prog.funcNamed "gloss/glosslaw4.RxBoth" = some 5 by kernel_rfl).symm.trans hf) |>.symm
      obtain rfl : fn = Tryz.f5 := (Option.some.inj (Tryz.func5.symm.trans hfn)).symm
      exact ⟨by kernel_rfl, fun j t ht => by
        rw [Tryz.params5] at ht
        have hm : t ∈ [42] := by simpa using Array.mem_of_getElem? ht
        have hall : ([42].all fun u => !Tryz.prog.wantsStandIn u) = true := by kernel_rfl
        exact (show Tryz.prog.wantsStandIn t = false by simpa using List.all_eq_true.1 hall t hm)⟩)
    (by kernel_rfl)

end Go.Proofs.YtikmgckefbjbkabGreatDoor.rxBoth
namespace Go.Proofs.YtikmgckefbjbkabGreatDoor

theorem rxBoth_holds : Rows.RxBothCardSaid := rxBoth.carded

end Go.Proofs.YtikmgckefbjbkabGreatDoor
