/-
 Proved: the law CmdLabels of glosslaw8 returns true for every two numbers and every byte (P8.1, P8.2). The tied card, no condition.
-/
import Derived.Test.YtommgdgilcemdaaGreatDoorCmdLM30
import Derived.Test.YtommgdgilcemdaaGreatDoorCmdLM28
import Derived.Test.YtommgdgilcemdaaGreatDoorCmdLM22
import Derived.Test.YtommgdgilcemdaaGreatDoorCmdLM4
import Derived.Test.YtommgdgilcemdaaGreatDoorRows
import Derived.Test.YtommgdgilcemdaaGreatDoorChecked
import Derived.HandedShaped
import Derived.Shelf.Vars
import Derived.LaidMore
import Derived.LaidHandle
import Derived.LaidLaws
import Derived.Stop.Joined
import Derived.ProofKit
import Derived.Test.YtommgdgilcemdaaGreatDoorCmdLM24
import Derived.Lib.LaidTab
import Derived.LaidSub
import Derived.Test.YtommgdgilcemdaaGreatDoorTie
import Derived.Test.YtommgdgilcemdaaGreatDoorCards
import Derived.Below
import Derived.WalkKit
import Derived.OpenShut
import Derived.ShutString
import Derived.ChangeOld
import Derived.SevenTiedAt

/-! ### CmI -/

namespace Go.Proofs.YtommgdgilcemdaaGreatDoor
open Go.RowKit

def q1 : ByteArray := ⟨#[120]⟩
def q2 : ByteArray := ⟨#[97]⟩
abbrev cA (r1 r2 : Rv) (pa : Option Addr) (pl pc : Nat) : Cv := ⟨⟨1, 1, Rv.z⟩, ⟨3, 0, r1⟩, true, 115, ⟨#[]⟩, r2, pa, pl, pc, true, true, 2, ⟨#[]⟩, ⟨#[]⟩⟩
abbrev cB (op : Nat) (nt : Bool) (tx : ByteArray) : Cv := ⟨Av.z, Av.z, nt, op, tx, Rv.z, none, 0, 0, false, false, 0, ⟨#[]⟩, ⟨#[]⟩⟩
def pB : List Pc := [⟨-1, ⟨#[98]⟩⟩]
theorem f1 : (pParse q1 false).2 = (0, 0) ∧ rxOkB (pParse q1 false).1 = true ∧ (pParse q2 false).2 = (0, 0) ∧ rxOkB (pParse q2 false).1 = true ∧
  cmdT (cA Rv.z Rv.z none 0 0) zR (pParse q1 false).1 (pParse q2 false).1 pB false = [49, 44, 47, 120, 47, 33, 115, 47, 97, 47, 98, 47, 103, 112, 50] := by decide +kernel
theorem f2 : cmdT (cB 97 false ⟨#[120]⟩) zR zR zR [] false = [97, 92, 10, 120] ∧ rightC (cB 125 true ⟨#[]⟩) zR zR zR [] false = false := by decide +kernel
theorem cmdT_cA (r1 r2 : Rv) (pa : Option Addr) (pl pc : Nat) (A B R : Rx) (P : List Pc) (ere : Bool) : cmdT (cA r1 r2 pa pl pc) A B R P ere = cmdT (cA Rv.z Rv.z none 0 0) A B R P ere := rfl
theorem pcsEq_refl : ∀ P : List Pc, pcsEq P P = true
 | [] => rfl
 | p :: P => by rw [pcsEq, pcsEq_refl P]; simp [pcEq]
theorem sameC_refl (c : Cv) (A B R : Rx) (P : List Pc) : sameC c c A B R A B R P P = true := by
 unfold sameC adEq
 simp [sameR_refl, pcsEq_refl]
theorem cA_ok (r1 r2 : Rv) (pa : Option Addr) (pl pc : Nat) {T1 T2 : Rx} (h1 : RxOk T1) (h2 : RxOk T2) : COk (cA r1 r2 pa pl pc) zR T1 T2 pB := ⟨zR_ok, h1, h2, by decide, by show (115 : Nat) < 256; omega, by show (0 : Nat) ≤ 1000000; omega, by show (0 : Nat) ≤ 1000000; omega, by show (0 : Nat) ≤ 1000000; omega⟩
theorem cB_is (op : Nat) (nt : Bool) (tx : ByteArray) (w : World) : CIs w (cB op nt tx) zR zR zR [] := ⟨zR_is w, zR_is w, zR_is w, PcAt.nil w⟩
theorem cB_ok (op : Nat) (nt : Bool) (tx : ByteArray) (ho : op < 256) (ht : tx.size ≤ 1000000) : COk (cB op nt tx) zR zR zR [] := ⟨zR_ok, zR_ok, zR_ok, by simp, ho, ht, by show (0 : Nat) ≤ 1000000; omega, by show (0 : Nat) ≤ 1000000; omega⟩

set_option maxHeartbeats 4000000 in
set_option maxRecDepth 100000 in
theorem cmdRuns_any (w : World) (h0 : ∃ m, w.cell? ⟨1, 0, none⟩ = some (.int .i64 m)) (hT : Tb w) : Calls Tryz.prog 3 #[] w fun e w' => e = .returned (.bool true) ∧ Kp w w' := by
 have Z0 := hid h0
 have TB0 := hid hT
 clear h0 hT
 obtain ⟨g1, g2, g3, g4, g5⟩ := f1
 obtain ⟨T1, n1, e1, hp1⟩ : ∃ T n e, pParse q1 false = (T, n, e) := ⟨_, _, _, rfl⟩
 obtain ⟨T2, n2, e2, hp2⟩ : ∃ T n e, pParse q2 false = (T, n, e) := ⟨_, _, _, rfl⟩
 rw [hp1] at g1 g2 g5
 rw [hp2] at g3 g4 g5
 injection g1 with g1 g1'
 injection g3 with g3 g3'
 subst g1
 subst g1'
 subst g3
 subst g3'
 have PA1 := hid (parse_at q1 false T1 0 0 (by decide) hp1)
 have PA2 := hid (parse_at q2 false T2 0 0 (by decide) hp2)
 have O1 := hid (rxOk_of _ g2)
 have O2 := hid (rxOk_of _ g4)
 have TX := hid g5
 clear hp1 hp2 g2 g4 g5
 go_enter Tryz.func3, Tryz.ntmps3
 go_wp2_with fail
 refine (PA1.out _ Z0.out).mono ?_
 rintro e w1 ⟨k1, mn1, mx1, mm1, t1, ad1, l1, c1, rfl, hd, hk⟩
 have D1 := hid hd
 have K1 := hid hk
 clear hd hk
 go_upto_region 2 with fail
 refine opq (fun W2 => W2.heap[w1.heap.size]? = some (rxo k1 mn1 mx1 mm1 t1 (.slice ad1 l1 c1)) ∧ Pd W2 T1 k1 mn1 mx1 mm1 t1 ad1 l1 c1 ∧ Kp w W2) ⟨by (first | exact last_at _ _ _ (by simp) | (refine bl_alloc ?_ _; first | exact last_at _ _ _ (by simp) | (refine bl_alloc ?_ _; first | exact last_at _ _ _ (by simp) | (refine bl_alloc ?_ _; exact last_at _ _ _ (by simp))))), by exact D1.out.kp (by repeat (first | exact Kp.refl _ | refine Kp.alloc ?_ _ | refine Kp.drew ?_ | refine Kp.drewN _ ?_)), by exact K1.out.trans (by repeat (first | exact Kp.refl _ | refine Kp.alloc ?_ _ | refine Kp.drew ?_ | refine Kp.drewN _ ?_))⟩ ?_
 rintro W2 ⟨xR2, xD2, xK2⟩
 have R2 : Hid (W2.heap[w1.heap.size]? = some (rxo k1 mn1 mx1 mm1 t1 (.slice ad1 l1 c1))) := xR2
 have D2 : Hid (Pd W2 T1 k1 mn1 mx1 mm1 t1 ad1 l1 c1) := xD2
 have K2 : Hid (Kp w W2) := xK2
 clear xR2 xD2 xK2
 clear D1 K1
 go_wp2_with fail
 refine (PA2.out _ (cell0 Z0.out K2.out)).mono ?_
 rintro e w3 ⟨k2, mn2, mx2, mm2, t2, ad2, l2, c2, rfl, hd, hk⟩
 have E3 := hid hd
 have D3 := hid (D2.out.kp hk)
 have R3 := hid (bl_kp R2.out hk)
 have K3 := hid (K2.out.trans hk)
 clear hd hk D2 R2 K2
 go_upto_region 3 with fail
 refine opq (fun W4 => W4.heap[w3.heap.size]? = some (rxo k2 mn2 mx2 mm2 t2 (.slice ad2 l2 c2)) ∧ W4.heap[w1.heap.size]? = some (rxo k1 mn1 mx1 mm1 t1 (.slice ad1 l1 c1)) ∧ Pd W4 T1 k1 mn1 mx1 mm1 t1 ad1 l1 c1 ∧ Pd W4 T2 k2 mn2 mx2 mm2 t2 ad2 l2 c2 ∧ Kp w W4) ⟨by (first | exact last_at _ _ _ (by simp) | (refine bl_alloc ?_ _; first | exact last_at _ _ _ (by simp) | (refine bl_alloc ?_ _; first | exact last_at _ _ _ (by simp) | (refine bl_alloc ?_ _; exact last_at _ _ _ (by simp))))), by exact bl_kp R3.out (by repeat (first | exact Kp.refl _ | refine Kp.alloc ?_ _ | refine Kp.drew ?_ | refine Kp.drewN _ ?_)), by exact D3.out.kp (by repeat (first | exact Kp.refl _ | refine Kp.alloc ?_ _ | refine Kp.drew ?_ | refine Kp.drewN _ ?_)), by exact E3.out.kp (by repeat (first | exact Kp.refl _ | refine Kp.alloc ?_ _ | refine Kp.drew ?_ | refine Kp.drewN _ ?_)), by exact K3.out.trans (by repeat (first | exact Kp.refl _ | refine Kp.alloc ?_ _ | refine Kp.drew ?_ | refine Kp.drewN _ ?_))⟩ ?_
 rintro W4 ⟨xQ4, xR4, xD4, xE4, xK4⟩
 have Q4 : Hid (W4.heap[w3.heap.size]? = some (rxo k2 mn2 mx2 mm2 t2 (.slice ad2 l2 c2))) := xQ4
 have R4 : Hid (W4.heap[w1.heap.size]? = some (rxo k1 mn1 mx1 mm1 t1 (.slice ad1 l1 c1))) := xR4
 have D4 : Hid (Pd W4 T1 k1 mn1 mx1 mm1 t1 ad1 l1 c1) := xD4
 have E4 : Hid (Pd W4 T2 k2 mn2 mx2 mm2 t2 ad2 l2 c2) := xE4
 have K4 : Hid (Kp w W4) := xK4
 clear xQ4 xR4 xD4 xE4 xK4
 clear D3 E3 R3 K3
 obtain ⟨a0, a1, a2, a3, a4, a5, a6, a7, a8⟩ := cells9 (r := ⟨k1, mn1, mx1, mm1, t1, ad1, l1, c1⟩) R4.out
 obtain ⟨b0, b1, b2, b3, b4, b5, b6, b7, b8⟩ := cells9 (r := ⟨k2, mn2, mx2, mm2, t2, ad2, l2, c2⟩) Q4.out
 have PR1 : Hid (∀ w, CIs w (cA ⟨k1, mn1, mx1, mm1, t1, ad1, l1, c1⟩ ⟨k2, mn2, mx2, mm2, t2, ad2, l2, c2⟩ (some ⟨W4.heap.size, 0, none⟩) 1 1) zR T1 T2 pB → Tb w → Calls Tryz.prog 10 #[Cv.v (cA ⟨k1, mn1, mx1, mm1, t1, ad1, l1, c1⟩ ⟨k2, mn2, mx2, mm2, t2, ad2, l2, c2⟩ (some ⟨W4.heap.size, 0, none⟩) 1 1), .bool false] w fun e w' => e = .returned (.string ⟨#[49, 44, 47, 120, 47, 33, 115, 47, 97, 47, 98, 47, 103, 112, 50]⟩) ∧ Kp w w') := fun w h t => by
  have := print2_any (cA ⟨k1, mn1, mx1, mm1, t1, ad1, l1, c1⟩ ⟨k2, mn2, mx2, mm2, t2, ad2, l2, c2⟩ (some ⟨W4.heap.size, 0, none⟩) 1 1) zR T1 T2 pB false (cA_ok _ _ _ _ _ O1.out O2.out) w h t
  rw [cmdT_cA, TX.out] at this
  exact this
 have SM1 : Hid (∀ w, CIs w (cA ⟨k1, mn1, mx1, mm1, t1, ad1, l1, c1⟩ ⟨k2, mn2, mx2, mm2, t2, ad2, l2, c2⟩ (some ⟨W4.heap.size, 0, none⟩) 1 1) zR T1 T2 pB → Calls Tryz.prog 12 #[Cv.v (cA ⟨k1, mn1, mx1, mm1, t1, ad1, l1, c1⟩ ⟨k2, mn2, mx2, mm2, t2, ad2, l2, c2⟩ (some ⟨W4.heap.size, 0, none⟩) 1 1), Cv.v (cA ⟨k1, mn1, mx1, mm1, t1, ad1, l1, c1⟩ ⟨k2, mn2, mx2, mm2, t2, ad2, l2, c2⟩ (some ⟨W4.heap.size, 0, none⟩) 1 1)] w fun e w' => e = .returned (.bool true) ∧ Kp w w') := fun w h => by
  have := cmdSame_any (cA ⟨k1, mn1, mx1, mm1, t1, ad1, l1, c1⟩ ⟨k2, mn2, mx2, mm2, t2, ad2, l2, c2⟩ (some ⟨W4.heap.size, 0, none⟩) 1 1) (cA ⟨k1, mn1, mx1, mm1, t1, ad1, l1, c1⟩ ⟨k2, mn2, mx2, mm2, t2, ad2, l2, c2⟩ (some ⟨W4.heap.size, 0, none⟩) 1 1) zR T1 T2 zR T1 T2 pB pB (cA_ok _ _ _ _ _ O1.out O2.out) w h h
  rw [sameC_refl] at this
  exact this
 have PR2 : Hid (∀ w, Tb w → Calls Tryz.prog 10 #[Cv.v (cB 97 false ⟨#[120]⟩), .bool false] w fun e w' => e = .returned (.string ⟨#[97, 92, 10, 120]⟩) ∧ Kp w w') := fun w t => by
  have := print2_any (cB 97 false ⟨#[120]⟩) zR zR zR [] false (cB_ok 97 false ⟨#[120]⟩ (by decide) (by decide)) w (cB_is _ _ _ w) t
  rw [f2.1] at this
  exact this
 have RT3 : Hid (∀ w, Calls Tryz.prog 11 #[Cv.v (cB 125 true ⟨#[]⟩), .bool false] w fun e w' => e = .returned (.bool false) ∧ Kp w w') := fun w => by
  have := rightC_any (cB 125 true ⟨#[]⟩) zR zR zR [] false (cB_ok 125 true ⟨#[]⟩ (by decide) (by decide)) w (cB_is _ _ _ w)
  rw [f2.2] at this
  exact this
 clear TX
 go_upto_region 4 with (refine wpList_store_cv rfl rfl rfl (cA ⟨k1, mn1, mx1, mm1, t1, ad1, l1, c1⟩ ⟨k2, mn2, mx2, mm2, t2, ad2, l2, c2⟩ (some ⟨W4.heap.size, 0, none⟩) 1 1) rfl (last_at _ _ _ (by simp)) rfl ?_; intro W5 A5x A5k; simp only [Act.put])
 refine opq (fun W6 => W6.heap[(W4.heap.size + 1)]? = some (Cv.o (cA ⟨k1, mn1, mx1, mm1, t1, ad1, l1, c1⟩ ⟨k2, mn2, mx2, mm2, t2, ad2, l2, c2⟩ (some ⟨W4.heap.size, 0, none⟩) 1 1)) ∧ CIs W6 (cA ⟨k1, mn1, mx1, mm1, t1, ad1, l1, c1⟩ ⟨k2, mn2, mx2, mm2, t2, ad2, l2, c2⟩ (some ⟨W4.heap.size, 0, none⟩) 1 1) zR T1 T2 pB ∧ Kp w W6) ⟨by exact A5x, by exact ⟨zR_is _, D4.out.kp (A5k.up (((Kp.refl _).alloc _).alloc _) (by omega)), E4.out.kp (A5k.up (((Kp.refl _).alloc _).alloc _) (by omega)), ⟨rfl, Nat.le_refl _, fun _ => ⟨_, _, rfl, by have := A5k.size; simp at this; omega, fun j p hj => by match j, hj with | 0, hj => (simp [pB] at hj; subst hj; exact ⟨bl_cell (bl_ks (bl_alloc (last_of _ _) _) (by omega) A5k) 0 _ rfl, bl_cell (bl_ks (bl_alloc (last_of _ _) _) (by omega) A5k) 1 _ rfl⟩) | j + 1, hj => simp [pB] at hj⟩⟩⟩, by exact K4.out.trans (A5k.up (((Kp.refl _).alloc _).alloc _) (by omega))⟩ ?_
 rintro W6 ⟨xA6, xI6, xK6⟩
 have A6 : Hid (W6.heap[(W4.heap.size + 1)]? = some (Cv.o (cA ⟨k1, mn1, mx1, mm1, t1, ad1, l1, c1⟩ ⟨k2, mn2, mx2, mm2, t2, ad2, l2, c2⟩ (some ⟨W4.heap.size, 0, none⟩) 1 1))) := xA6
 have I6 : Hid (CIs W6 (cA ⟨k1, mn1, mx1, mm1, t1, ad1, l1, c1⟩ ⟨k2, mn2, mx2, mm2, t2, ad2, l2, c2⟩ (some ⟨W4.heap.size, 0, none⟩) 1 1) zR T1 T2 pB) := xI6
 have K6 : Hid (Kp w W6) := xK6
 clear xA6 xI6 xK6
 have T6 := hid (TB0.out.kp K6.out)
 clear A5x A5k a0 a1 a2 a3 a4 a5 a6 a7 a8 b0 b1 b2 b3 b4 b5 b6 b7 b8 Q4 R4 D4 E4 K4
 go_wp2_with (refine wpList_load_cv rfl rfl (cA ⟨k1, mn1, mx1, mm1, t1, ad1, l1, c1⟩ ⟨k2, mn2, mx2, mm2, t2, ad2, l2, c2⟩ (some ⟨W4.heap.size, 0, none⟩) 1 1) A6.out (by rfl) ?_; simp only [Act.put, List.setIfInBounds_toArray, List.set_cons_zero, List.set_cons_succ])
 refine (PR1.out _ I6.out T6.out).mono ?_
 rintro e V1 ⟨rfl, k1⟩
 have A7 := hid (bl_kp A6.out k1)
 have I7 := hid (I6.out.kp k1)
 have T7 := hid (T6.out.kp k1)
 have K7 := hid (K6.out.trans k1)
 clear k1
 go_wp2_with fail
 refine (PR2.out _ T7.out).mono ?_
 rintro e V2 ⟨rfl, k1⟩
 have A8 := hid (bl_kp A7.out k1)
 have I8 := hid (I7.out.kp k1)
 have K8 := hid (K7.out.trans k1)
 clear k1
 go_wp2_with fail
 refine (RT3.out _).mono ?_
 rintro e V3 ⟨rfl, k1⟩
 have A9 := hid (bl_kp A8.out k1)
 have I9 := hid (I8.out.kp k1)
 have K9 := hid (K8.out.trans k1)
 clear k1
 go_wp2_with (refine wpList_load_cv rfl rfl (cA ⟨k1, mn1, mx1, mm1, t1, ad1, l1, c1⟩ ⟨k2, mn2, mx2, mm2, t2, ad2, l2, c2⟩ (some ⟨W4.heap.size, 0, none⟩) 1 1) A9.out (by rfl) ?_; simp only [Act.put, List.setIfInBounds_toArray, List.set_cons_zero, List.set_cons_succ])
 refine (SM1.out _ I9.out).mono ?_
 rintro e V4 ⟨rfl, k1⟩
 have K10 := hid (K9.out.trans k1)
 clear k1
 go_wp2_with fail
 go_ret
 exact ⟨rfl, K10.out⟩

end Go.Proofs.YtommgdgilcemdaaGreatDoor

/-! ### Within2 -/

namespace Go.Proofs.YtommgdgilcemdaaGreatDoor
open Go.RowKit

/-- The book's Within(n, lo, hi). -/
def wit (n lo hi : Int) : Int := if n.tmod (hi - lo + 1) < 0 then lo + (n.tmod (hi - lo + 1) + (hi - lo + 1)) else lo + n.tmod (hi - lo + 1)
theorem wit_le (n lo hi : Int) (h : lo ≤ hi) : lo ≤ wit n lo hi ∧ wit n lo hi ≤ hi := by
 have hm1 : -(hi - lo + 1) < n.tmod (hi - lo + 1) := by
  have h2 := Int.tmod_lt_of_pos (-n) (show 0 < hi - lo + 1 by omega)
  rw [Int.neg_tmod] at h2; omega
 have hm2 : n.tmod (hi - lo + 1) < hi - lo + 1 := Int.tmod_lt_of_pos n (by omega)
 unfold wit; split <;> omega
theorem within_any (n lo hi : Int) (w : World) (h : lo ≤ hi) (h0 : -10 ≤ lo) (h1 : hi ≤ 1000000) :
  Calls Tryz.prog 21 #[.int .i64 n, .int .i64 lo, .int .i64 hi] w fun e w' => e = .returned (.int .i64 (wit n lo hi)) ∧ w' = w := by
 have hm1 : -(hi - lo + 1) < n.tmod (hi - lo + 1) := by
  have h2 := Int.tmod_lt_of_pos (-n) (show 0 < hi - lo + 1 by omega)
  rw [Int.neg_tmod] at h2; omega
 have hm2 : n.tmod (hi - lo + 1) < hi - lo + 1 := Int.tmod_lt_of_pos n (by omega)
 have ri : ∀ {a b : Int}, a = b → Ending.returned (.int .i64 a) = .returned (.int .i64 b) := fun h => by rw [h]
 by_cases hneg : n.tmod (hi - lo + 1) < 0
 ·
  have E : Hid (wit n lo hi = lo + (n.tmod (hi - lo + 1) + (hi - lo + 1))) := by show _ = _; unfold wit; rw [if_pos hneg]
  go_enter Tryz.func21, Tryz.ntmps21
  go_wp2
  go_ret
  exact ⟨ri (by rw [E.out]; omega), rfl⟩
 ·
  have E : Hid (wit n lo hi = lo + n.tmod (hi - lo + 1)) := by show _ = _; unfold wit; rw [if_neg hneg]
  go_enter Tryz.func21, Tryz.ntmps21
  go_wp2
  go_ret
  exact ⟨ri (by rw [E.out]), rfl⟩
end Go.Proofs.YtommgdgilcemdaaGreatDoor

/-! ### CmJ -/

namespace Go.Proofs.YtommgdgilcemdaaGreatDoor
open Go.RowKit

theorem right_b (X : ByteArray) : rightC (cB 98 false X) zR zR zR [] false = labO X := by
 have h1 : placedR (cB 98 false X) zR zR false = true := by
  show placedR (cB 98 false ⟨#[]⟩) zR zR false = true
  decide +kernel
 have h2 : leanR (cB 98 false X) zR [] = true := by
  unfold leanR
  rw [show kindN (cB 98 false X).op = 3 from (by decide : kindN 98 = 3)]
  show (decide ((⟨#[]⟩ : ByteArray).size = 0) && decide ((⟨#[]⟩ : ByteArray).size = 0) && !false && !false && decide ((0 : Int) = 0) && noR zR && ([] : List Pc).isEmpty) = true
  decide +kernel
 have h3 : askedR (cB 98 false X) zR [] false = labO X := by
  unfold askedR
  rw [show kindN (cB 98 false X).op = 3 from (by decide : kindN 98 = 3)]
  rfl
 unfold rightC
 rw [h1, h2, h3]
 rfl
theorem right_c (X : ByteArray) : rightC (cB 58 false X) zR zR zR [] false = labB X := by
 have h1 : placedR (cB 58 false X) zR zR false = true := by
  show placedR (cB 58 false ⟨#[]⟩) zR zR false = true
  decide +kernel
 have h2 : leanR (cB 58 false X) zR [] = true := by
  unfold leanR
  rw [show kindN (cB 58 false X).op = 4 from (by decide : kindN 58 = 4)]
  show (decide ((⟨#[]⟩ : ByteArray).size = 0) && decide ((⟨#[]⟩ : ByteArray).size = 0) && !false && !false && decide ((0 : Int) = 0) && noR zR && ([] : List Pc).isEmpty) = true
  decide +kernel
 have h3 : askedR (cB 58 false X) zR [] false = labB X := by
  unfold askedR
  rw [show kindN (cB 58 false X).op = 4 from (by decide : kindN 58 = 4)]
  rfl
 unfold rightC
 rw [h1, h2, h3]
 rfl
theorem right_w (X : ByteArray) : rightC (cB 119 false X) zR zR zR [] false = labB X := by
 have h1 : placedR (cB 119 false X) zR zR false = true := by
  show placedR (cB 119 false ⟨#[]⟩) zR zR false = true
  decide +kernel
 have h2 : leanR (cB 119 false X) zR [] = true := by
  unfold leanR
  rw [show kindN (cB 119 false X).op = 4 from (by decide : kindN 119 = 4)]
  show (decide ((⟨#[]⟩ : ByteArray).size = 0) && decide ((⟨#[]⟩ : ByteArray).size = 0) && !false && !false && decide ((0 : Int) = 0) && noR zR && ([] : List Pc).isEmpty) = true
  decide +kernel
 have h3 : askedR (cB 119 false X) zR [] false = labB X := by
  unfold askedR
  rw [show kindN (cB 119 false X).op = 4 from (by decide : kindN 119 = 4)]
  rfl
 unfold rightC
 rw [h1, h2, h3]
 rfl
theorem right_a (X : ByteArray) : rightC (cB 97 false X) zR zR zR [] false = decide (X.size ≤ 400) := by
 have h1 : placedR (cB 97 false X) zR zR false = true := by
  show placedR (cB 97 false ⟨#[]⟩) zR zR false = true
  decide +kernel
 have h2 : leanR (cB 97 false X) zR [] = true := by
  unfold leanR
  rw [show kindN (cB 97 false X).op = 2 from (by decide : kindN 97 = 2)]
  show (decide ((⟨#[]⟩ : ByteArray).size = 0) && decide ((⟨#[]⟩ : ByteArray).size = 0) && !false && !false && decide ((0 : Int) = 0) && noR zR && ([] : List Pc).isEmpty) = true
  decide +kernel
 have h3 : askedR (cB 97 false X) zR [] false = decide (X.size ≤ 400) := by
  unfold askedR
  rw [show kindN (cB 97 false X).op = 2 from (by decide : kindN 97 = 2)]
  rfl
 unfold rightC
 rw [h1, h2, h3]
 rfl
def ops15 : ByteArray := ⟨#[123, 125, 61, 100, 68, 103, 71, 104, 72, 110, 78, 112, 80, 113, 120]⟩
theorem ops_right : ∀ j : Fin 15, rightC (cB (ch ops15 j.val) false ⟨#[]⟩) zR zR zR [] false = true ∧ rightC (cB (ch ops15 j.val) false ⟨#[120]⟩) zR zR zR [] false = false ∧ ch ops15 j.val < 256 := by decide +kernel
theorem within_n (n : Int) (hi : Nat) (h : hi ≤ 1000000) (w : World) : Calls Tryz.prog 21 #[.int .i64 n, .int .i64 0, .int .i64 (hi : Int)] w fun e w' => ∃ k : Nat, k ≤ hi ∧ e = .returned (.int .i64 (k : Int)) ∧ w' = w := by
 refine (within_any n 0 hi w (by omega) (by omega) (by omega)).mono ?_
 rintro e w' ⟨rfl, rfl⟩
 obtain ⟨h1, h2⟩ := wit_le n 0 hi (by omega)
 exact ⟨(wit n 0 hi).toNat, by omega, by rw [Int.toNat_of_nonneg h1], rfl⟩
def xs (k : Nat) : ByteArray := bs (List.replicate k 120)
theorem xs_size (k : Nat) : (xs k).size = k := by unfold xs; rw [bs_size]; simp
theorem xs_more (k : Nat) : xs k ++ bs [120] = xs (k + 1) := by unfold xs; rw [bs_app, List.replicate_succ']
theorem xs_lab (k : Nat) : labB (xs k) = (decide (1 ≤ k) && decide (k ≤ 8)) := by
 unfold labB
 rw [xs_size, show (xs k).data.toList = List.replicate k 120 by simp [xs, bs]]
 have : (List.replicate k (120 : UInt8)).all (fun b => lab1 b.toNat) = true := by
  rw [List.all_eq_true]
  intro x hx
  rw [List.eq_of_mem_replicate hx]
  decide
 rw [this, Bool.and_true]
theorem lab_two (x : Nat) (hx : x < 256) : labB (bs [97] ++ bs [UInt8.ofNat x]) = lab1 x := by
 rw [bs_app]
 unfold labB
 rw [bs_size]
 have e : (UInt8.ofNat x).toNat = x := by simp; omega
 show (true && true && (lab1 97 && (lab1 (UInt8.ofNat x).toNat && true))) = _
 rw [e, show lab1 97 = true from by decide]
 simp

set_option maxHeartbeats 8000000 in
set_option maxRecDepth 100000 in
theorem labels_any (a : Int) (x : Nat) (o : Int) (hx : x < 256) (w : World) (h0 : ∃ m, w.cell? ⟨1, 0, none⟩ = some (.int .i64 m)) (hT : Tb w) : Calls Tryz.prog 7 #[.int .i64 a, .int .u8 (x : Int), .int .i64 o] w fun e w' => e = .returned (.bool true) ∧ Kp w w' := by
 have Z0 := hid h0
 have T0 := hid hT
 clear h0 hT
 obtain ⟨M, hM⟩ : ∃ M, lab1 x = M := ⟨_, rfl⟩
 have HM := hid hM
 have L2 : Hid (∀ w, Calls Tryz.prog 17 #[.string (bs [97] ++ bs [UInt8.ofNat x])] w fun e w' => e = .returned (.bool M) ∧ Kp w w') := fun w => by
  have := label_any (bs [97] ++ bs [UInt8.ofNat x]) w (by rw [bs_app, bs_size]; simp)
  rw [lab_two x hx, hM] at this
  exact this
 clear hM
 have z1 : (bs [120]).size = 1 := rfl
 have z2 : (bs [97]).size = 1 := rfl
 go_enter Tryz.func7, Tryz.ntmps7
 go_wp2_with fail
 refine (within_n a 12 (by omega) _).mono ?_
 rintro e w' ⟨k, hk, rfl, rfl⟩
 go_wp2_with fail
 go_loopg [8, 15] k (fun gg s v wr => ∃ q : Nat, q + gg = k ∧ v = .int .i64 (q : Int) ∧ s = .string (xs q) ∧ wr = w')
 case atStart => exact ⟨0, by omega, rfl, rfl, rfl⟩
 case round =>
  obtain ⟨q, hq, rfl, rfl, rfl⟩ := hrel
  by_cases hlt : q < k
  ·
   have gkw : IntKind.i64.wrap ((q : Int) + 1) = (q : Int) + 1 := by rw [IntKind.wrap_i64]; omega
   have ga : (q : Int) < (k : Int) := by omega
   have zq : (xs q).size ≤ 100 := by rw [xs_size]; omega
   go_wp2_with fail
   go_roundg (gk - 1)
   case measure => omega
   case rel => exact ⟨q + 1, by omega, by go_num, by rw [← xs_more]; rfl, rfl⟩
  ·
   have ga : ¬ (q : Int) < (k : Int) := by omega
   obtain rfl : q = k := by omega
   clear hq ga hlt
   have KW : Hid (Kp wr wr) := Kp.refl _
   have KW0 : Hid (Kp wr wr) := Kp.refl _
   go_upto_region 7 with fail
   go_cut [9] (fun v wc => v = .bool M ∧ Kp wr wc)
   case first =>
    by_cases h1 : 97 ≤ x
    ·
     have g1 : (x : Int) ≥ 97 := by omega
     by_cases h2 : x ≤ 122
     ·
      have g2 : (x : Int) ≤ 122 := by omega
      have E : Hid (M = true) := by show _ = _; rw [← HM.out]; unfold lab1; first | (simp; omega) | simp
      go_wp2_with fail
      go_meet
      case rel => exact ⟨by rw [E.out], KW.out⟩
     ·
      have g2 : ¬ (x : Int) ≤ 122 := by omega
      have g3 : (x : Int) ≥ 65 := by omega
      have g4 : ¬ (x : Int) ≤ 90 := by omega
      have g5 : (x : Int) ≥ 48 := by omega
      have g6 : ¬ (x : Int) ≤ 57 := by omega
      have g7 : ((x : Int) == 95) = false := by simp; omega
      have E : Hid (M = false) := by show _ = _; rw [← HM.out]; unfold lab1; first | (simp; omega) | simp
      go_wp2_with fail
      go_meet
      case rel => exact ⟨by rw [E.out], KW.out⟩
    ·
     have g1 : ¬ (x : Int) ≥ 97 := by omega
     by_cases h2 : 65 ≤ x
     ·
      have g2 : (x : Int) ≥ 65 := by omega
      by_cases h3 : x ≤ 90
      ·
       have g3 : (x : Int) ≤ 90 := by omega
       have E : Hid (M = true) := by show _ = _; rw [← HM.out]; unfold lab1; first | (simp; omega) | simp
       go_wp2_with fail
       go_meet
       case rel => exact ⟨by rw [E.out], KW.out⟩
      ·
       have g3 : ¬ (x : Int) ≤ 90 := by omega
       have g5 : (x : Int) ≥ 48 := by omega
       have g6 : ¬ (x : Int) ≤ 57 := by omega
       by_cases h4 : x = 95
       ·
        have g7 : ((x : Int) == 95) = true := by simp; omega
        have E : Hid (M = true) := by show _ = _; rw [← HM.out]; unfold lab1; first | (simp; omega) | simp
        clear h4
        go_wp2_with fail
        go_meet
        case rel => exact ⟨by rw [E.out], KW.out⟩
       ·
        have g7 : ((x : Int) == 95) = false := by simp; omega
        have E : Hid (M = false) := by show _ = _; rw [← HM.out]; unfold lab1; first | (simp; omega) | simp
        go_wp2_with fail
        go_meet
        case rel => exact ⟨by rw [E.out], KW.out⟩
     ·
      have g2 : ¬ (x : Int) ≥ 65 := by omega
      have g7 : ((x : Int) == 95) = false := by simp; omega
      by_cases h3 : 48 ≤ x
      ·
       have g3 : (x : Int) ≥ 48 := by omega
       by_cases h4 : x ≤ 57
       ·
        have g4 : (x : Int) ≤ 57 := by omega
        have E : Hid (M = true) := by show _ = _; rw [← HM.out]; unfold lab1; first | (simp; omega) | simp
        go_wp2_with fail
        go_meet
        case rel => exact ⟨by rw [E.out], KW.out⟩
       ·
        have g4 : ¬ (x : Int) ≤ 57 := by omega
        have E : Hid (M = false) := by show _ = _; rw [← HM.out]; unfold lab1; first | (simp; omega) | simp
        go_wp2_with fail
        go_meet
        case rel => exact ⟨by rw [E.out], KW.out⟩
      ·
       have g3 : ¬ (x : Int) ≥ 48 := by omega
       have E : Hid (M = false) := by show _ = _; rw [← HM.out]; unfold lab1; first | (simp; omega) | simp
       go_wp2_with fail
       go_meet
       case rel => exact ⟨by rw [E.out], KW.out⟩
   case rest =>
    obtain ⟨rfl, k1⟩ := hcut
    rename World => W1
    have K1 := hid k1
    clear k1
    obtain ⟨X, hX⟩ : ∃ X, xs q = X := ⟨_, rfl⟩
    have hs : X.size = q := by rw [← hX]; exact xs_size q
    have hl : labB X = (decide (1 ≤ q) && decide (q ≤ 8)) := by rw [← hX]; exact xs_lab q
    have he : X.toList.isEmpty = decide (q = 0) := by rw [str_nil, hs]
    have zD : (bs [UInt8.ofNat x]).size = 1 := rfl
    rw [hX]
    clear hX
    have RC : Hid (∀ (op : Nat) (tx : ByteArray) (res : Bool), op < 256 → tx.size ≤ 1000000 → rightC (cB op false tx) zR zR zR [] false = res → ∀ w, Calls Tryz.prog 11 #[Cv.v (cB op false tx), .bool false] w fun e w' => e = .returned (.bool res) ∧ Kp w w') := fun op tx res h1 h2 h3 w => by
     rw [← h3]
     exact rightC_any (cB op false tx) zR zR zR [] false (cB_ok op false tx h1 h2) w (cB_is _ _ _ w)
    have R3 := hid (RC.out 98 X _ (by omega) (by omega) (right_b X))
    have R4 := hid (RC.out 58 X _ (by omega) (by omega) (right_c X))
    have R5 := hid (RC.out 119 X _ (by omega) (by omega) (right_w X))
    have R6 := hid (RC.out 97 X _ (by omega) (by omega) (right_a X))
    have LX := hid (fun w => label_any X w (by omega))
    have h400 : decide (X.size ≤ 400) = true := decide_eq_true (by omega)
    unfold labO at R3
    rw [hl] at R3 R4 R5 LX
    rw [h400] at R6
    rw [hs] at R3
    clear hl h400
    have ru : Hid (∀ w, Kp wr w → Calls Tryz.prog 3 #[] w fun e w' => e = .returned (.bool true) ∧ Kp w w') := fun w h => cmdRuns_any w (cell0 Z0.out (KW0.out.trans h)) (T0.out.kp (KW0.out.trans h))
    have hq : q = 0 ∨ (1 ≤ q ∧ q ≤ 8) ∨ 9 ≤ q := by omega
    rcases hq with hq | hq | hq
    ·
     as_aux_lemma =>
     have f1 : (decide (1 ≤ q) && decide (q ≤ 8)) = false := by simp; omega
     have f2 : decide (q = 0) = true := by simp; omega
     rw [f1, f2] at R3
     rw [f1] at R4 R5 LX
     rw [f2] at he
     clear f1 f2
     have i1 : ¬ (q : Int) ≥ 1 := by omega
     have i2 : (q : Int) ≤ 8 := by omega
     go_wp2_with fail
     refine (LX.out _).mono ?_
     rintro e Y1 ⟨rfl, k1⟩
     have K2 := hid (K1.out.trans k1)
     clear k1
     have cv := conv_one Y1 x hx
     go_wp2_with fail
     refine (L2.out _).mono ?_
     rintro e Y2 ⟨rfl, k1⟩
     have K3 := hid ((K2.out.alloc (Obj.cells #[.int .u8 (x : Int)] 5)).trans k1)
     clear k1 cv
     go_wp2_with fail
     refine (within_n o 14 (by omega) _).mono ?_
     rintro e Y2 ⟨j, hj, rfl, rfl⟩
     obtain ⟨o1, o2, o3⟩ := ops_right ⟨j, by omega⟩
     dsimp only at o1 o2 o3
     obtain ⟨p, hp⟩ : ∃ p, ch ops15 j = p := ⟨_, rfl⟩
     rw [hp] at o1 o2 o3
     have rc : ∀ w, (Instr.index 9 (.string ⟨#[123, 125, 61, 100, 68, 103, 71, 104, 72, 110, 78, 112, 80, 113, 120]⟩) (.int .i64 (j : Int))).run Tryz.prog w = .ok (.int .u8 (p : Int)) w := fun w => by rw [← hp]; exact run_ch ops15 j (by show j < 15; omega) w
     have R1 := hid (RC.out p ⟨#[]⟩ _ o3 (by decide) o1)
     have R2 := hid (RC.out p ⟨#[120]⟩ _ o3 (by decide) o2)
     clear o1 o2 o3 hp hj
     go_wp2_with fail
     clear rc
     refine (R1.out _).mono ?_
     rintro e Y3 ⟨rfl, k1⟩
     have K4 := hid (K3.out.trans k1)
     clear k1
     go_wp2_with fail
     refine (R2.out _).mono ?_
     rintro e Y4 ⟨rfl, k1⟩
     have K5 := hid (K4.out.trans k1)
     clear k1
     go_wp2_with fail
     refine (R3.out _).mono ?_
     rintro e Y5 ⟨rfl, k1⟩
     have K6 := hid (K5.out.trans k1)
     clear k1
     go_wp2_with fail
     refine (R4.out _).mono ?_
     rintro e Y6 ⟨rfl, k1⟩
     have K7 := hid (K6.out.trans k1)
     clear k1
     go_wp2_with fail
     refine (R5.out _).mono ?_
     rintro e Y7 ⟨rfl, k1⟩
     have K8 := hid (K7.out.trans k1)
     clear k1
     go_wp2_with fail
     refine (R6.out _).mono ?_
     rintro e Y8 ⟨rfl, k1⟩
     have K9 := hid (K8.out.trans k1)
     clear k1
     go_wp2_with fail
     refine (ru.out _ K9.out).mono ?_
     rintro e Y9 ⟨rfl, k1⟩
     have KE := hid (K9.out.trans k1)
     clear k1
     go_wp2_with fail
     go_ret
     exact ⟨rfl, KW0.out.trans KE.out⟩
    ·
     as_aux_lemma =>
     have f1 : (decide (1 ≤ q) && decide (q ≤ 8)) = true := by simp; omega
     have f2 : decide (q = 0) = false := by simp; omega
     rw [f1, f2] at R3
     rw [f1] at R4 R5 LX
     rw [f2] at he
     clear f1 f2
     have i1 : (q : Int) ≥ 1 := by omega
     have i2 : (q : Int) ≤ 8 := by omega
     go_wp2_with fail
     refine (LX.out _).mono ?_
     rintro e Y1 ⟨rfl, k1⟩
     have K2 := hid (K1.out.trans k1)
     clear k1
     have cv := conv_one Y1 x hx
     go_wp2_with fail
     refine (L2.out _).mono ?_
     rintro e Y2 ⟨rfl, k1⟩
     have K3 := hid ((K2.out.alloc (Obj.cells #[.int .u8 (x : Int)] 5)).trans k1)
     clear k1 cv
     go_wp2_with fail
     refine (within_n o 14 (by omega) _).mono ?_
     rintro e Y2 ⟨j, hj, rfl, rfl⟩
     obtain ⟨o1, o2, o3⟩ := ops_right ⟨j, by omega⟩
     dsimp only at o1 o2 o3
     obtain ⟨p, hp⟩ : ∃ p, ch ops15 j = p := ⟨_, rfl⟩
     rw [hp] at o1 o2 o3
     have rc : ∀ w, (Instr.index 9 (.string ⟨#[123, 125, 61, 100, 68, 103, 71, 104, 72, 110, 78, 112, 80, 113, 120]⟩) (.int .i64 (j : Int))).run Tryz.prog w = .ok (.int .u8 (p : Int)) w := fun w => by rw [← hp]; exact run_ch ops15 j (by show j < 15; omega) w
     have R1 := hid (RC.out p ⟨#[]⟩ _ o3 (by decide) o1)
     have R2 := hid (RC.out p ⟨#[120]⟩ _ o3 (by decide) o2)
     clear o1 o2 o3 hp hj
     go_wp2_with fail
     clear rc
     refine (R1.out _).mono ?_
     rintro e Y3 ⟨rfl, k1⟩
     have K4 := hid (K3.out.trans k1)
     clear k1
     go_wp2_with fail
     refine (R2.out _).mono ?_
     rintro e Y4 ⟨rfl, k1⟩
     have K5 := hid (K4.out.trans k1)
     clear k1
     go_wp2_with fail
     refine (R3.out _).mono ?_
     rintro e Y5 ⟨rfl, k1⟩
     have K6 := hid (K5.out.trans k1)
     clear k1
     go_wp2_with fail
     refine (R4.out _).mono ?_
     rintro e Y6 ⟨rfl, k1⟩
     have K7 := hid (K6.out.trans k1)
     clear k1
     go_wp2_with fail
     refine (R5.out _).mono ?_
     rintro e Y7 ⟨rfl, k1⟩
     have K8 := hid (K7.out.trans k1)
     clear k1
     go_wp2_with fail
     refine (R6.out _).mono ?_
     rintro e Y8 ⟨rfl, k1⟩
     have K9 := hid (K8.out.trans k1)
     clear k1
     go_wp2_with fail
     refine (ru.out _ K9.out).mono ?_
     rintro e Y9 ⟨rfl, k1⟩
     have KE := hid (K9.out.trans k1)
     clear k1
     go_wp2_with fail
     go_ret
     exact ⟨rfl, KW0.out.trans KE.out⟩
    ·
     as_aux_lemma =>
     have f1 : (decide (1 ≤ q) && decide (q ≤ 8)) = false := by simp; omega
     have f2 : decide (q = 0) = false := by simp; omega
     rw [f1, f2] at R3
     rw [f1] at R4 R5 LX
     rw [f2] at he
     clear f1 f2
     have i1 : (q : Int) ≥ 1 := by omega
     have i2 : decide ((q : Int) ≤ 8) = false := decide_eq_false (by omega)
     have i3 : ¬ (q : Int) ≤ 8 := by omega
     go_wp2_with fail
     refine (LX.out _).mono ?_
     rintro e Y1 ⟨rfl, k1⟩
     have K2 := hid (K1.out.trans k1)
     clear k1
     have cv := conv_one Y1 x hx
     go_wp2_with fail
     refine (L2.out _).mono ?_
     rintro e Y2 ⟨rfl, k1⟩
     have K3 := hid ((K2.out.alloc (Obj.cells #[.int .u8 (x : Int)] 5)).trans k1)
     clear k1 cv
     go_wp2_with fail
     refine (within_n o 14 (by omega) _).mono ?_
     rintro e Y2 ⟨j, hj, rfl, rfl⟩
     obtain ⟨o1, o2, o3⟩ := ops_right ⟨j, by omega⟩
     dsimp only at o1 o2 o3
     obtain ⟨p, hp⟩ : ∃ p, ch ops15 j = p := ⟨_, rfl⟩
     rw [hp] at o1 o2 o3
     have rc : ∀ w, (Instr.index 9 (.string ⟨#[123, 125, 61, 100, 68, 103, 71, 104, 72, 110, 78, 112, 80, 113, 120]⟩) (.int .i64 (j : Int))).run Tryz.prog w = .ok (.int .u8 (p : Int)) w := fun w => by rw [← hp]; exact run_ch ops15 j (by show j < 15; omega) w
     have R1 := hid (RC.out p ⟨#[]⟩ _ o3 (by decide) o1)
     have R2 := hid (RC.out p ⟨#[120]⟩ _ o3 (by decide) o2)
     clear o1 o2 o3 hp hj
     go_wp2_with fail
     clear rc
     refine (R1.out _).mono ?_
     rintro e Y3 ⟨rfl, k1⟩
     have K4 := hid (K3.out.trans k1)
     clear k1
     go_wp2_with fail
     refine (R2.out _).mono ?_
     rintro e Y4 ⟨rfl, k1⟩
     have K5 := hid (K4.out.trans k1)
     clear k1
     go_wp2_with fail
     refine (R3.out _).mono ?_
     rintro e Y5 ⟨rfl, k1⟩
     have K6 := hid (K5.out.trans k1)
     clear k1
     go_wp2_with fail
     refine (R4.out _).mono ?_
     rintro e Y6 ⟨rfl, k1⟩
     have K7 := hid (K6.out.trans k1)
     clear k1
     go_wp2_with fail
     refine (R5.out _).mono ?_
     rintro e Y7 ⟨rfl, k1⟩
     have K8 := hid (K7.out.trans k1)
     clear k1
     go_wp2_with fail
     refine (R6.out _).mono ?_
     rintro e Y8 ⟨rfl, k1⟩
     have K9 := hid (K8.out.trans k1)
     clear k1
     go_wp2_with fail
     refine (ru.out _ K9.out).mono ?_
     rintro e Y9 ⟨rfl, k1⟩
     have KE := hid (K9.out.trans k1)
     clear k1
     go_wp2_with fail
     go_ret
     exact ⟨rfl, KW0.out.trans KE.out⟩

end Go.Proofs.YtommgdgilcemdaaGreatDoor

/-! ### Wrap -/

namespace Go.Proofs.YtommgdgilcemdaaGreatDoor
open Go.ChangeShapes Go.WideShapes Go.ChangeAt Go.RowKit

theorem and_shaped {H : Type} {enc : TypeId × Value → H} {a : Assume} {C : Checked} {os : Go.Os} {f : FuncId} {fn : Func} {s : ChangeSpec} {conds : List PathCond} {apart fresh handsOn again : Bool} {X : World → Array Value → Prop}
  (hX : ∀ (w w' : World) (args : Array Value), w.heap = w'.heap → X w args → X w' args)
  (own : ownKnob C.prog.godebug = none) (started : os.Started) (noInit : C.prog.inits.idxOf? f = none) (hfn : C.prog.funcs[f]? = some fn)
  (witness : ∃ (w : World) (tape : Tape) (i : Input), w.os = os ∧ (w.forCall tape i).Shaped C.prog ∧ i.vars = [] ∧ Input.okWide C.prog (w.forCall tape i) .any w.heap.size f i ∧
   ((s.pre enc C.prog fn conds apart (w.forCall tape i).memory i.args ∧ X (w.forCall tape i).memory i.args) ∧ sizedMet enc C.prog fn (OpenSpec.ofChange s) apart (w.forCall tape i).memory i.args) ∧ a.holds C.prog (lone (Frame.enter C.prog f i.args .normal) [] (w.forCall tape i)))
  (contract : ∀ (W : World) (base : Nat) (args : Array Value) (ds gs : List (DataW H)) (before : List MemPlace),
   (∀ (j : Nat) t v, fn.params[j]? = some t → args[j]? = some v → Value.okWide C.prog W .any base t v) →
   DataW.Whole enc C.prog fn.params.toList s.vars apart W args.toList ds gs before →
   conds.all (PathCond.test C.prog ⟨fn.params.toList, ds, s.plain.varTypes C.prog, gs⟩) = true →
   (DataW.weightsEach C.prog (fn.params.toList ++ s.plain.varTypes C.prog) (ds ++ gs)).all (· ≤ reachBytes) = true → X W args → W.ShapedOpen C.prog →
   Calls C.prog f args W fun e W' => ∃ v, e = .returned v ∧ s.post enc C.prog fn apart fresh handsOn again W args v W') :
  ReturnsInHanded a C os f .any (fun w args => (s.pre enc C.prog fn conds apart w args ∧ X w args) ∧ sizedMet enc C.prog fn (OpenSpec.ofChange s) apart w args) (s.post enc C.prog fn apart fresh handsOn again) := by
 refine returnsInHanded_of_calls own started noInit witness ?_
 intro w tape i _ hsh _ hok hpre hholds
 obtain ⟨_, _, _, fn', hfn', _, _, _, _, hval⟩ := hok
 have e : fn' = fn := Option.some.inj (hfn'.symm.trans hfn)
 subst e
 obtain ⟨⟨⟨ds, gs, before, hw, hc⟩, hx⟩, hz⟩ := hpre
 have hw' := DataW.Whole.of_heap (w' := w.forCall tape i) (by rfl) hw
 refine (contract (w.forCall tape i) w.heap.size i.args ds gs before hval hw' hc (hz.weights hw) (hX _ _ _ (by rfl) hx) hsh).mono fun e W' ⟨v, he, hp⟩ => ?_
 subst he
 exact ChangeSpec.post_blind hp

theorem own : ownKnob Tryz.prog.godebug = none := by kernel_rfl

/-- What every row of this seat lists. -/
abbrev laid3 : List (String × DataW Unit) := [("math/bits.deBruijn32tab", Rows.laid_math_bits_deBruijn32tab), ("math/bits.deBruijn64tab", Rows.laid_math_bits_deBruijn64tab), ("internal/strconv.uint64pow10", Rows.laid_internal_strconv_uint64pow10)]

/-- The door's own heap meets the condition. -/
theorem door_met (os : Go.Os) (args : Array Value) : laidMetH Tryz.prog laid3 ((World.doorLaid Tryz.prog 24 os).forCall (fun _ _ => 0) ⟨#[], args, []⟩).memory :=
 laidMetH_of_parts3 (fuel := 8) (laidMet_of_run' 8 (by kernel_rfl) (by kernel_rfl)) (by kernel_rfl) (by kernel_rfl)

/-- MaxLen holds a number. -/
theorem maxLen {W : World} (h : W.ShapedOpen Tryz.prog) : ∃ m, W.cell? ⟨1, 0, none⟩ = some (.int .i64 m) :=
 cell_of_shapedOpen_int (P := Tryz.prog) (g := 1) (t := 3) (zero := #[.int .i64 0]) h (of_decide_eq_true (by kernel_rfl)) (by kernel_rfl) rfl (by kernel_rfl) (by kernel_rfl) Tryz.underlying3
end Go.Proofs.YtommgdgilcemdaaGreatDoor

/-! ### Wrap2 -/

namespace Go.Proofs.YtommgdgilcemdaaGreatDoor
open Go.RowKit

theorem laid3_tab : laid3.filter (fun x => x.1 == "internal/strconv.uint64pow10") = ([("internal/strconv.uint64pow10", Lib.tabData .u64 Lib.pow10Tab)] : List (String × DataW Unit)) := by kernel_rfl
theorem tb_of {W : World} (h : laidMetH Tryz.prog laid3 W) : Tb W := by
 have h1 : laidMet Tryz.prog laid3 W := h
 have h2 := h1.filter (fun x => x.1 == "internal/strconv.uint64pow10")
 rw [laid3_tab] at h2
 exact Lib.tabIs_of_head (g := 0) (t := 166) (by kernel_rfl) (by kernel_rfl) Tryz.underlying166 Tryz.underlying22 (by kernel_rfl) (by kernel_rfl) h2
end Go.Proofs.YtommgdgilcemdaaGreatDoor

/-! ### CmdLabelsProof -/

namespace Go.Proofs.YtommgdgilcemdaaGreatDoor.cmdLabels
open Go.ChangeShapes Go.WideShapes Go.ChangeAt Go.RowKit
open Go.ChangeMaps (open_string shut_string)
set_option linter.unusedVariables false

theorem laidOut : laidOutB Tryz.prog = true := by kernel_rfl
set_option maxRecDepth 100000 in
theorem lifted (os : Go.Os) (started : os.Started) (H : Type) (enc : TypeId × Value → H) :
  ReturnsInHanded {} Tryz.checked os 7 .any (fun w args => (Rows.cmdLabelsSpec.pre enc Tryz.prog Tryz.f7 [] false w args ∧ laidMetH Tryz.prog laid3 w) ∧ sizedMet enc Tryz.prog Tryz.f7 (OpenSpec.ofChange Rows.cmdLabelsSpec) false w args)
   (Rows.cmdLabelsSpec.post enc Tryz.prog Tryz.f7 false true false false) := by
 refine and_shaped (C := Tryz.checked) (X := fun w _ => laidMetH Tryz.prog laid3 w) (fun _ _ _ hh h => h.of_heap hh) own started (by kernel_rfl) Tryz.func7
  (ChangeSpec.witness_shaped (enc := enc) (C := Tryz.checked) (os := os) (X := fun w _ => laidMetH Tryz.prog laid3 w) false (World.doorLaid Tryz.prog 24 os) #[.int .i64 0, .int .u8 0, .int .i64 0] 8 rfl (World.shaped_of_RefB (by kernel_rfl) (by kernel_rfl)) (by kernel_rfl) (by kernel_rfl) (by kernel_rfl) (door_met os _)) ?_
 intro W base args ds gs before hval0 hW _ _ hL hsh
 have hval : ∀ (j : Nat) t v, Tryz.f7.params[j]? = some t → args[j]? = some v → Value.okWide Tryz.prog W .any base t v := hval0
 have hW' := hW
 obtain ⟨p, q, hA0, hV, rfl, hfz, hnd⟩ := hW
 have hA : DataW.TrodAll enc Tryz.prog W 0 (fun _ => true) true Tryz.f7.params.toList args.toList ds p := hA0
 rw [Tryz.params7] at hA hval
 obtain ⟨v0, vs0, d0, ds0, p0, q0, hargs, rfl, rfl, h0, r0⟩ := trodAll_cons hA
 obtain ⟨v1, vs1, d1, ds1, p1, q1, rfl, rfl, rfl, h1, r1⟩ := trodAll_cons r0
 obtain ⟨v2, vs2, d2, ds2, p2, q2, rfl, rfl, rfl, h2, r2⟩ := trodAll_cons r1
 obtain ⟨rfl, rfl, rfl⟩ := trodAll_nil r2
 obtain rfl : args = #[v0, v1, v2] := by cases args; simp_all
 obtain ⟨rfl, rfl⟩ := trodVars_none hV
 obtain ⟨a0, rfl, rfl, rfl, w0⟩ := open_int Tryz.underlying3 (hval 0 3 v0 rfl rfl) h0
 obtain ⟨a1, rfl, rfl, rfl, w1⟩ := open_int Tryz.underlying5 (hval 1 5 v1 rfl rfl) h1
 obtain ⟨x1, hx1, hxx1⟩ : ∃ x : Nat, a1 = (x : Int) ∧ x < 256 := by
  obtain ⟨h1, h2⟩ := bounds_u8 w1
  exact ⟨a1.toNat, by omega, by omega⟩
 subst hx1
 obtain ⟨a2, rfl, rfl, rfl, w2⟩ := open_int Tryz.underlying3 (hval 2 3 v2 rfl rfl) h2
 clear hA0 hval0
 refine (labels_any a0 x1 a2 hxx1 W (maxLen hsh) (tb_of hL)).mono fun e W' ⟨he, bel⟩ => ?_
 subst he
 exact ⟨_, rfl, _, _, _, [], _, [], hW', trodAll_mk1 (shut_bool Tryz.underlying4 _), (trodAll_cons_mk (shut_int Tryz.underlying3 w0) (trodAll_cons_mk (shut_int Tryz.underlying5 w1) (trodAll_cons_mk (shut_int Tryz.underlying3 w2) trodAll_mk0))), rfl, Below.frame bel _, fun h => by cases h⟩

theorem over : Rows.cmdLabelsRow.holds Tryz.pinned (OpenSpec.ofChange Rows.cmdLabelsSpec) :=
 OpenClaim.holds_of_wide 7 Tryz.f7 rfl rfl rfl rfl rfl rfl rfl ⟨rfl, rfl, rfl, rfl, rfl⟩ rfl rfl rfl rfl rfl (by kernel_rfl) Tryz.func7 (by kernel_rfl)
  (of_decide_eq_true (by kernel_rfl)) (by unfold Func.isWrapper; first | (rw [if_pos (by decide +kernel)]; kernel_rfl) | (rw [if_neg (by decide +kernel)]; exact ⟨rfl, rfl⟩))
  (fun os started H enc _ => lifted os started H enc)

theorem carded : Rows.CmdLabelsCardSaid :=
 Claim7.holds_tied_plain_at .later [] [.data, .data, .data] true (true, "83058e917f773d7ae6798968f2d05561e50962e1245fc37b3c6339206dbeca4b") false
  over (fun _ h => by cases h) (by kernel_rfl) (fun _ h => by cases h) cmdLabels_row_tie rfl ⟨rfl, rfl⟩ (by kernel_rfl) rfl
  (fun f fn hf hfn => by
   obtain rfl : f = 7 := Option.some.inj ((show Tryz.prog.funcNamed "gloss/glosslaw8.CmdLabels" = some 7 by kernel_rfl).symm.trans hf) |>.symm
   obtain rfl : fn = Tryz.f7 := (Option.some.inj (Tryz.func7.symm.trans hfn)).symm
   exact ⟨by kernel_rfl, fun j t ht => by
    rw [Tryz.params7] at ht
    have hm : t ∈ [3, 5, 3] := by simpa using Array.mem_of_getElem? ht
    have hall : ([3, 5, 3].all fun u => !Tryz.prog.wantsStandIn u) = true := by kernel_rfl
    exact (show Tryz.prog.wantsStandIn t = false by simpa using List.all_eq_true.1 hall t hm)⟩)
  (by kernel_rfl)

end Go.Proofs.YtommgdgilcemdaaGreatDoor.cmdLabels
namespace Go.Proofs.YtommgdgilcemdaaGreatDoor

theorem cmdLabels_holds : Rows.CmdLabelsCardSaid := cmdLabels.carded

end Go.Proofs.YtommgdgilcemdaaGreatDoor
