/-
 Proved: the law CmdRuns of glosslaw8 returns true (chapter 8's runs). The tied card, no condition.
-/
import Derived.Test.YtommgdgilcemdaaGreatDoorCmdRM32
import Derived.Test.YtommgdgilcemdaaGreatDoorCmdRM30
import Derived.Test.YtommgdgilcemdaaGreatDoorCmdRM23
import Derived.Test.YtommgdgilcemdaaGreatDoorCmdRM22
import Derived.Test.YtommgdgilcemdaaGreatDoorRows
import Derived.Test.YtommgdgilcemdaaGreatDoorChecked
import Derived.HandedShaped
import Derived.Shelf.Vars
import Derived.LaidMore
import Derived.LaidHandle
import Derived.LaidLaws
import Derived.Stop.Joined
import Derived.ProofKit
import Derived.Test.YtommgdgilcemdaaGreatDoorCmdRM27
import Derived.Lib.LaidTab
import Derived.LaidSub
import Derived.Test.YtommgdgilcemdaaGreatDoorTie
import Derived.Test.YtommgdgilcemdaaGreatDoorCards
import Derived.Below
import Derived.WalkKit
import Derived.OpenShut
import Derived.ShutString
import Derived.ChangeOld
import Derived.SevenTiedAt

/-! ### CmI -/

namespace Go.Proofs.YtommgdgilcemdaaGreatDoor
open Go.RowKit

def q1 : ByteArray := ⟨#[120]⟩
def q2 : ByteArray := ⟨#[97]⟩
abbrev cA (r1 r2 : Rv) (pa : Option Addr) (pl pc : Nat) : Cv := ⟨⟨1, 1, Rv.z⟩, ⟨3, 0, r1⟩, true, 115, ⟨#[]⟩, r2, pa, pl, pc, true, true, 2, ⟨#[]⟩, ⟨#[]⟩⟩
abbrev cB (op : Nat) (nt : Bool) (tx : ByteArray) : Cv := ⟨Av.z, Av.z, nt, op, tx, Rv.z, none, 0, 0, false, false, 0, ⟨#[]⟩, ⟨#[]⟩⟩
def pB : List Pc := [⟨-1, ⟨#[98]⟩⟩]
theorem f1 : (pParse q1 false).2 = (0, 0) ∧ rxOkB (pParse q1 false).1 = true ∧ (pParse q2 false).2 = (0, 0) ∧ rxOkB (pParse q2 false).1 = true ∧
  cmdT (cA Rv.z Rv.z none 0 0) zR (pParse q1 false).1 (pParse q2 false).1 pB false = [49, 44, 47, 120, 47, 33, 115, 47, 97, 47, 98, 47, 103, 112, 50] := by decide +kernel
theorem f2 : cmdT (cB 97 false ⟨#[120]⟩) zR zR zR [] false = [97, 92, 10, 120] ∧ rightC (cB 125 true ⟨#[]⟩) zR zR zR [] false = false := by decide +kernel
theorem cmdT_cA (r1 r2 : Rv) (pa : Option Addr) (pl pc : Nat) (A B R : Rx) (P : List Pc) (ere : Bool) : cmdT (cA r1 r2 pa pl pc) A B R P ere = cmdT (cA Rv.z Rv.z none 0 0) A B R P ere := rfl
theorem pcsEq_refl : ∀ P : List Pc, pcsEq P P = true
 | [] => rfl
 | p :: P => by rw [pcsEq, pcsEq_refl P]; simp [pcEq]
theorem sameC_refl (c : Cv) (A B R : Rx) (P : List Pc) : sameC c c A B R A B R P P = true := by
 unfold sameC adEq
 simp [sameR_refl, pcsEq_refl]
theorem cA_ok (r1 r2 : Rv) (pa : Option Addr) (pl pc : Nat) {T1 T2 : Rx} (h1 : RxOk T1) (h2 : RxOk T2) : COk (cA r1 r2 pa pl pc) zR T1 T2 pB := ⟨zR_ok, h1, h2, by decide, by show (115 : Nat) < 256; omega, by show (0 : Nat) ≤ 1000000; omega, by show (0 : Nat) ≤ 1000000; omega, by show (0 : Nat) ≤ 1000000; omega⟩
theorem cB_is (op : Nat) (nt : Bool) (tx : ByteArray) (w : World) : CIs w (cB op nt tx) zR zR zR [] := ⟨zR_is w, zR_is w, zR_is w, PcAt.nil w⟩
theorem cB_ok (op : Nat) (nt : Bool) (tx : ByteArray) (ho : op < 256) (ht : tx.size ≤ 1000000) : COk (cB op nt tx) zR zR zR [] := ⟨zR_ok, zR_ok, zR_ok, by simp, ho, ht, by show (0 : Nat) ≤ 1000000; omega, by show (0 : Nat) ≤ 1000000; omega⟩

set_option maxHeartbeats 4000000 in
set_option maxRecDepth 100000 in
theorem cmdRuns_any (w : World) (h0 : ∃ m, w.cell? ⟨1, 0, none⟩ = some (.int .i64 m)) (hT : Tb w) : Calls Tryz.prog 3 #[] w fun e w' => e = .returned (.bool true) ∧ Kp w w' := by
 have Z0 := hid h0
 have TB0 := hid hT
 clear h0 hT
 obtain ⟨g1, g2, g3, g4, g5⟩ := f1
 obtain ⟨T1, n1, e1, hp1⟩ : ∃ T n e, pParse q1 false = (T, n, e) := ⟨_, _, _, rfl⟩
 obtain ⟨T2, n2, e2, hp2⟩ : ∃ T n e, pParse q2 false = (T, n, e) := ⟨_, _, _, rfl⟩
 rw [hp1] at g1 g2 g5
 rw [hp2] at g3 g4 g5
 injection g1 with g1 g1'
 injection g3 with g3 g3'
 subst g1
 subst g1'
 subst g3
 subst g3'
 have PA1 := hid (parse_at q1 false T1 0 0 (by decide) hp1)
 have PA2 := hid (parse_at q2 false T2 0 0 (by decide) hp2)
 have O1 := hid (rxOk_of _ g2)
 have O2 := hid (rxOk_of _ g4)
 have TX := hid g5
 clear hp1 hp2 g2 g4 g5
 go_enter Tryz.func3, Tryz.ntmps3
 go_wp2_with fail
 refine (PA1.out _ Z0.out).mono ?_
 rintro e w1 ⟨k1, mn1, mx1, mm1, t1, ad1, l1, c1, rfl, hd, hk⟩
 have D1 := hid hd
 have K1 := hid hk
 clear hd hk
 go_upto_region 2 with fail
 refine opq (fun W2 => W2.heap[w1.heap.size]? = some (rxo k1 mn1 mx1 mm1 t1 (.slice ad1 l1 c1)) ∧ Pd W2 T1 k1 mn1 mx1 mm1 t1 ad1 l1 c1 ∧ Kp w W2) ⟨by (first | exact last_at _ _ _ (by simp) | (refine bl_alloc ?_ _; first | exact last_at _ _ _ (by simp) | (refine bl_alloc ?_ _; first | exact last_at _ _ _ (by simp) | (refine bl_alloc ?_ _; exact last_at _ _ _ (by simp))))), by exact D1.out.kp (by repeat (first | exact Kp.refl _ | refine Kp.alloc ?_ _ | refine Kp.drew ?_ | refine Kp.drewN _ ?_)), by exact K1.out.trans (by repeat (first | exact Kp.refl _ | refine Kp.alloc ?_ _ | refine Kp.drew ?_ | refine Kp.drewN _ ?_))⟩ ?_
 rintro W2 ⟨xR2, xD2, xK2⟩
 have R2 : Hid (W2.heap[w1.heap.size]? = some (rxo k1 mn1 mx1 mm1 t1 (.slice ad1 l1 c1))) := xR2
 have D2 : Hid (Pd W2 T1 k1 mn1 mx1 mm1 t1 ad1 l1 c1) := xD2
 have K2 : Hid (Kp w W2) := xK2
 clear xR2 xD2 xK2
 clear D1 K1
 go_wp2_with fail
 refine (PA2.out _ (cell0 Z0.out K2.out)).mono ?_
 rintro e w3 ⟨k2, mn2, mx2, mm2, t2, ad2, l2, c2, rfl, hd, hk⟩
 have E3 := hid hd
 have D3 := hid (D2.out.kp hk)
 have R3 := hid (bl_kp R2.out hk)
 have K3 := hid (K2.out.trans hk)
 clear hd hk D2 R2 K2
 go_upto_region 3 with fail
 refine opq (fun W4 => W4.heap[w3.heap.size]? = some (rxo k2 mn2 mx2 mm2 t2 (.slice ad2 l2 c2)) ∧ W4.heap[w1.heap.size]? = some (rxo k1 mn1 mx1 mm1 t1 (.slice ad1 l1 c1)) ∧ Pd W4 T1 k1 mn1 mx1 mm1 t1 ad1 l1 c1 ∧ Pd W4 T2 k2 mn2 mx2 mm2 t2 ad2 l2 c2 ∧ Kp w W4) ⟨by (first | exact last_at _ _ _ (by simp) | (refine bl_alloc ?_ _; first | exact last_at _ _ _ (by simp) | (refine bl_alloc ?_ _; first | exact last_at _ _ _ (by simp) | (refine bl_alloc ?_ _; exact last_at _ _ _ (by simp))))), by exact bl_kp R3.out (by repeat (first | exact Kp.refl _ | refine Kp.alloc ?_ _ | refine Kp.drew ?_ | refine Kp.drewN _ ?_)), by exact D3.out.kp (by repeat (first | exact Kp.refl _ | refine Kp.alloc ?_ _ | refine Kp.drew ?_ | refine Kp.drewN _ ?_)), by exact E3.out.kp (by repeat (first | exact Kp.refl _ | refine Kp.alloc ?_ _ | refine Kp.drew ?_ | refine Kp.drewN _ ?_)), by exact K3.out.trans (by repeat (first | exact Kp.refl _ | refine Kp.alloc ?_ _ | refine Kp.drew ?_ | refine Kp.drewN _ ?_))⟩ ?_
 rintro W4 ⟨xQ4, xR4, xD4, xE4, xK4⟩
 have Q4 : Hid (W4.heap[w3.heap.size]? = some (rxo k2 mn2 mx2 mm2 t2 (.slice ad2 l2 c2))) := xQ4
 have R4 : Hid (W4.heap[w1.heap.size]? = some (rxo k1 mn1 mx1 mm1 t1 (.slice ad1 l1 c1))) := xR4
 have D4 : Hid (Pd W4 T1 k1 mn1 mx1 mm1 t1 ad1 l1 c1) := xD4
 have E4 : Hid (Pd W4 T2 k2 mn2 mx2 mm2 t2 ad2 l2 c2) := xE4
 have K4 : Hid (Kp w W4) := xK4
 clear xQ4 xR4 xD4 xE4 xK4
 clear D3 E3 R3 K3
 obtain ⟨a0, a1, a2, a3, a4, a5, a6, a7, a8⟩ := cells9 (r := ⟨k1, mn1, mx1, mm1, t1, ad1, l1, c1⟩) R4.out
 obtain ⟨b0, b1, b2, b3, b4, b5, b6, b7, b8⟩ := cells9 (r := ⟨k2, mn2, mx2, mm2, t2, ad2, l2, c2⟩) Q4.out
 have PR1 : Hid (∀ w, CIs w (cA ⟨k1, mn1, mx1, mm1, t1, ad1, l1, c1⟩ ⟨k2, mn2, mx2, mm2, t2, ad2, l2, c2⟩ (some ⟨W4.heap.size, 0, none⟩) 1 1) zR T1 T2 pB → Tb w → Calls Tryz.prog 10 #[Cv.v (cA ⟨k1, mn1, mx1, mm1, t1, ad1, l1, c1⟩ ⟨k2, mn2, mx2, mm2, t2, ad2, l2, c2⟩ (some ⟨W4.heap.size, 0, none⟩) 1 1), .bool false] w fun e w' => e = .returned (.string ⟨#[49, 44, 47, 120, 47, 33, 115, 47, 97, 47, 98, 47, 103, 112, 50]⟩) ∧ Kp w w') := fun w h t => by
  have := print2_any (cA ⟨k1, mn1, mx1, mm1, t1, ad1, l1, c1⟩ ⟨k2, mn2, mx2, mm2, t2, ad2, l2, c2⟩ (some ⟨W4.heap.size, 0, none⟩) 1 1) zR T1 T2 pB false (cA_ok _ _ _ _ _ O1.out O2.out) w h t
  rw [cmdT_cA, TX.out] at this
  exact this
 have SM1 : Hid (∀ w, CIs w (cA ⟨k1, mn1, mx1, mm1, t1, ad1, l1, c1⟩ ⟨k2, mn2, mx2, mm2, t2, ad2, l2, c2⟩ (some ⟨W4.heap.size, 0, none⟩) 1 1) zR T1 T2 pB → Calls Tryz.prog 12 #[Cv.v (cA ⟨k1, mn1, mx1, mm1, t1, ad1, l1, c1⟩ ⟨k2, mn2, mx2, mm2, t2, ad2, l2, c2⟩ (some ⟨W4.heap.size, 0, none⟩) 1 1), Cv.v (cA ⟨k1, mn1, mx1, mm1, t1, ad1, l1, c1⟩ ⟨k2, mn2, mx2, mm2, t2, ad2, l2, c2⟩ (some ⟨W4.heap.size, 0, none⟩) 1 1)] w fun e w' => e = .returned (.bool true) ∧ Kp w w') := fun w h => by
  have := cmdSame_any (cA ⟨k1, mn1, mx1, mm1, t1, ad1, l1, c1⟩ ⟨k2, mn2, mx2, mm2, t2, ad2, l2, c2⟩ (some ⟨W4.heap.size, 0, none⟩) 1 1) (cA ⟨k1, mn1, mx1, mm1, t1, ad1, l1, c1⟩ ⟨k2, mn2, mx2, mm2, t2, ad2, l2, c2⟩ (some ⟨W4.heap.size, 0, none⟩) 1 1) zR T1 T2 zR T1 T2 pB pB (cA_ok _ _ _ _ _ O1.out O2.out) w h h
  rw [sameC_refl] at this
  exact this
 have PR2 : Hid (∀ w, Tb w → Calls Tryz.prog 10 #[Cv.v (cB 97 false ⟨#[120]⟩), .bool false] w fun e w' => e = .returned (.string ⟨#[97, 92, 10, 120]⟩) ∧ Kp w w') := fun w t => by
  have := print2_any (cB 97 false ⟨#[120]⟩) zR zR zR [] false (cB_ok 97 false ⟨#[120]⟩ (by decide) (by decide)) w (cB_is _ _ _ w) t
  rw [f2.1] at this
  exact this
 have RT3 : Hid (∀ w, Calls Tryz.prog 11 #[Cv.v (cB 125 true ⟨#[]⟩), .bool false] w fun e w' => e = .returned (.bool false) ∧ Kp w w') := fun w => by
  have := rightC_any (cB 125 true ⟨#[]⟩) zR zR zR [] false (cB_ok 125 true ⟨#[]⟩ (by decide) (by decide)) w (cB_is _ _ _ w)
  rw [f2.2] at this
  exact this
 clear TX
 go_upto_region 4 with (refine wpList_store_cv rfl rfl rfl (cA ⟨k1, mn1, mx1, mm1, t1, ad1, l1, c1⟩ ⟨k2, mn2, mx2, mm2, t2, ad2, l2, c2⟩ (some ⟨W4.heap.size, 0, none⟩) 1 1) rfl (last_at _ _ _ (by simp)) rfl ?_; intro W5 A5x A5k; simp only [Act.put])
 refine opq (fun W6 => W6.heap[(W4.heap.size + 1)]? = some (Cv.o (cA ⟨k1, mn1, mx1, mm1, t1, ad1, l1, c1⟩ ⟨k2, mn2, mx2, mm2, t2, ad2, l2, c2⟩ (some ⟨W4.heap.size, 0, none⟩) 1 1)) ∧ CIs W6 (cA ⟨k1, mn1, mx1, mm1, t1, ad1, l1, c1⟩ ⟨k2, mn2, mx2, mm2, t2, ad2, l2, c2⟩ (some ⟨W4.heap.size, 0, none⟩) 1 1) zR T1 T2 pB ∧ Kp w W6) ⟨by exact A5x, by exact ⟨zR_is _, D4.out.kp (A5k.up (((Kp.refl _).alloc _).alloc _) (by omega)), E4.out.kp (A5k.up (((Kp.refl _).alloc _).alloc _) (by omega)), ⟨rfl, Nat.le_refl _, fun _ => ⟨_, _, rfl, by have := A5k.size; simp at this; omega, fun j p hj => by match j, hj with | 0, hj => (simp [pB] at hj; subst hj; exact ⟨bl_cell (bl_ks (bl_alloc (last_of _ _) _) (by omega) A5k) 0 _ rfl, bl_cell (bl_ks (bl_alloc (last_of _ _) _) (by omega) A5k) 1 _ rfl⟩) | j + 1, hj => simp [pB] at hj⟩⟩⟩, by exact K4.out.trans (A5k.up (((Kp.refl _).alloc _).alloc _) (by omega))⟩ ?_
 rintro W6 ⟨xA6, xI6, xK6⟩
 have A6 : Hid (W6.heap[(W4.heap.size + 1)]? = some (Cv.o (cA ⟨k1, mn1, mx1, mm1, t1, ad1, l1, c1⟩ ⟨k2, mn2, mx2, mm2, t2, ad2, l2, c2⟩ (some ⟨W4.heap.size, 0, none⟩) 1 1))) := xA6
 have I6 : Hid (CIs W6 (cA ⟨k1, mn1, mx1, mm1, t1, ad1, l1, c1⟩ ⟨k2, mn2, mx2, mm2, t2, ad2, l2, c2⟩ (some ⟨W4.heap.size, 0, none⟩) 1 1) zR T1 T2 pB) := xI6
 have K6 : Hid (Kp w W6) := xK6
 clear xA6 xI6 xK6
 have T6 := hid (TB0.out.kp K6.out)
 clear A5x A5k a0 a1 a2 a3 a4 a5 a6 a7 a8 b0 b1 b2 b3 b4 b5 b6 b7 b8 Q4 R4 D4 E4 K4
 go_wp2_with (refine wpList_load_cv rfl rfl (cA ⟨k1, mn1, mx1, mm1, t1, ad1, l1, c1⟩ ⟨k2, mn2, mx2, mm2, t2, ad2, l2, c2⟩ (some ⟨W4.heap.size, 0, none⟩) 1 1) A6.out (by rfl) ?_; simp only [Act.put, List.setIfInBounds_toArray, List.set_cons_zero, List.set_cons_succ])
 refine (PR1.out _ I6.out T6.out).mono ?_
 rintro e V1 ⟨rfl, k1⟩
 have A7 := hid (bl_kp A6.out k1)
 have I7 := hid (I6.out.kp k1)
 have T7 := hid (T6.out.kp k1)
 have K7 := hid (K6.out.trans k1)
 clear k1
 go_wp2_with fail
 refine (PR2.out _ T7.out).mono ?_
 rintro e V2 ⟨rfl, k1⟩
 have A8 := hid (bl_kp A7.out k1)
 have I8 := hid (I7.out.kp k1)
 have K8 := hid (K7.out.trans k1)
 clear k1
 go_wp2_with fail
 refine (RT3.out _).mono ?_
 rintro e V3 ⟨rfl, k1⟩
 have A9 := hid (bl_kp A8.out k1)
 have I9 := hid (I8.out.kp k1)
 have K9 := hid (K8.out.trans k1)
 clear k1
 go_wp2_with (refine wpList_load_cv rfl rfl (cA ⟨k1, mn1, mx1, mm1, t1, ad1, l1, c1⟩ ⟨k2, mn2, mx2, mm2, t2, ad2, l2, c2⟩ (some ⟨W4.heap.size, 0, none⟩) 1 1) A9.out (by rfl) ?_; simp only [Act.put, List.setIfInBounds_toArray, List.set_cons_zero, List.set_cons_succ])
 refine (SM1.out _ I9.out).mono ?_
 rintro e V4 ⟨rfl, k1⟩
 have K10 := hid (K9.out.trans k1)
 clear k1
 go_wp2_with fail
 go_ret
 exact ⟨rfl, K10.out⟩

end Go.Proofs.YtommgdgilcemdaaGreatDoor

/-! ### Wrap -/

namespace Go.Proofs.YtommgdgilcemdaaGreatDoor
open Go.ChangeShapes Go.WideShapes Go.ChangeAt Go.RowKit

theorem and_shaped {H : Type} {enc : TypeId × Value → H} {a : Assume} {C : Checked} {os : Go.Os} {f : FuncId} {fn : Func} {s : ChangeSpec} {conds : List PathCond} {apart fresh handsOn again : Bool} {X : World → Array Value → Prop}
  (hX : ∀ (w w' : World) (args : Array Value), w.heap = w'.heap → X w args → X w' args)
  (own : ownKnob C.prog.godebug = none) (started : os.Started) (noInit : C.prog.inits.idxOf? f = none) (hfn : C.prog.funcs[f]? = some fn)
  (witness : ∃ (w : World) (tape : Tape) (i : Input), w.os = os ∧ (w.forCall tape i).Shaped C.prog ∧ i.vars = [] ∧ Input.okWide C.prog (w.forCall tape i) .any w.heap.size f i ∧
   ((s.pre enc C.prog fn conds apart (w.forCall tape i).memory i.args ∧ X (w.forCall tape i).memory i.args) ∧ sizedMet enc C.prog fn (OpenSpec.ofChange s) apart (w.forCall tape i).memory i.args) ∧ a.holds C.prog (lone (Frame.enter C.prog f i.args .normal) [] (w.forCall tape i)))
  (contract : ∀ (W : World) (base : Nat) (args : Array Value) (ds gs : List (DataW H)) (before : List MemPlace),
   (∀ (j : Nat) t v, fn.params[j]? = some t → args[j]? = some v → Value.okWide C.prog W .any base t v) →
   DataW.Whole enc C.prog fn.params.toList s.vars apart W args.toList ds gs before →
   conds.all (PathCond.test C.prog ⟨fn.params.toList, ds, s.plain.varTypes C.prog, gs⟩) = true →
   (DataW.weightsEach C.prog (fn.params.toList ++ s.plain.varTypes C.prog) (ds ++ gs)).all (· ≤ reachBytes) = true → X W args → W.ShapedOpen C.prog →
   Calls C.prog f args W fun e W' => ∃ v, e = .returned v ∧ s.post enc C.prog fn apart fresh handsOn again W args v W') :
  ReturnsInHanded a C os f .any (fun w args => (s.pre enc C.prog fn conds apart w args ∧ X w args) ∧ sizedMet enc C.prog fn (OpenSpec.ofChange s) apart w args) (s.post enc C.prog fn apart fresh handsOn again) := by
 refine returnsInHanded_of_calls own started noInit witness ?_
 intro w tape i _ hsh _ hok hpre hholds
 obtain ⟨_, _, _, fn', hfn', _, _, _, _, hval⟩ := hok
 have e : fn' = fn := Option.some.inj (hfn'.symm.trans hfn)
 subst e
 obtain ⟨⟨⟨ds, gs, before, hw, hc⟩, hx⟩, hz⟩ := hpre
 have hw' := DataW.Whole.of_heap (w' := w.forCall tape i) (by rfl) hw
 refine (contract (w.forCall tape i) w.heap.size i.args ds gs before hval hw' hc (hz.weights hw) (hX _ _ _ (by rfl) hx) hsh).mono fun e W' ⟨v, he, hp⟩ => ?_
 subst he
 exact ChangeSpec.post_blind hp

theorem own : ownKnob Tryz.prog.godebug = none := by kernel_rfl

/-- What every row of this seat lists. -/
abbrev laid3 : List (String × DataW Unit) := [("math/bits.deBruijn32tab", Rows.laid_math_bits_deBruijn32tab), ("math/bits.deBruijn64tab", Rows.laid_math_bits_deBruijn64tab), ("internal/strconv.uint64pow10", Rows.laid_internal_strconv_uint64pow10)]

/-- The door's own heap meets the condition. -/
theorem door_met (os : Go.Os) (args : Array Value) : laidMetH Tryz.prog laid3 ((World.doorLaid Tryz.prog 24 os).forCall (fun _ _ => 0) ⟨#[], args, []⟩).memory :=
 laidMetH_of_parts3 (fuel := 8) (laidMet_of_run' 8 (by kernel_rfl) (by kernel_rfl)) (by kernel_rfl) (by kernel_rfl)

/-- MaxLen holds a number. -/
theorem maxLen {W : World} (h : W.ShapedOpen Tryz.prog) : ∃ m, W.cell? ⟨1, 0, none⟩ = some (.int .i64 m) :=
 cell_of_shapedOpen_int (P := Tryz.prog) (g := 1) (t := 3) (zero := #[.int .i64 0]) h (of_decide_eq_true (by kernel_rfl)) (by kernel_rfl) rfl (by kernel_rfl) (by kernel_rfl) Tryz.underlying3
end Go.Proofs.YtommgdgilcemdaaGreatDoor

/-! ### Wrap2 -/

namespace Go.Proofs.YtommgdgilcemdaaGreatDoor
open Go.RowKit

theorem laid3_tab : laid3.filter (fun x => x.1 == "internal/strconv.uint64pow10") = ([("internal/strconv.uint64pow10", Lib.tabData .u64 Lib.pow10Tab)] : List (String × DataW Unit)) := by kernel_rfl
theorem tb_of {W : World} (h : laidMetH Tryz.prog laid3 W) : Tb W := by
 have h1 : laidMet Tryz.prog laid3 W := h
 have h2 := h1.filter (fun x => x.1 == "internal/strconv.uint64pow10")
 rw [laid3_tab] at h2
 exact Lib.tabIs_of_head (g := 0) (t := 166) (by kernel_rfl) (by kernel_rfl) Tryz.underlying166 Tryz.underlying22 (by kernel_rfl) (by kernel_rfl) h2
end Go.Proofs.YtommgdgilcemdaaGreatDoor

/-! ### CmdRunsProof -/

namespace Go.Proofs.YtommgdgilcemdaaGreatDoor.cmdRuns
open Go.ChangeShapes Go.WideShapes Go.ChangeAt Go.RowKit
open Go.ChangeMaps (open_string shut_string)
set_option linter.unusedVariables false

theorem laidOut : laidOutB Tryz.prog = true := by kernel_rfl
set_option maxRecDepth 100000 in
theorem lifted (os : Go.Os) (started : os.Started) (H : Type) (enc : TypeId × Value → H) :
  ReturnsInHanded {} Tryz.checked os 3 .any (fun w args => (Rows.cmdRunsSpec.pre enc Tryz.prog Tryz.f3 [] false w args ∧ laidMetH Tryz.prog laid3 w) ∧ sizedMet enc Tryz.prog Tryz.f3 (OpenSpec.ofChange Rows.cmdRunsSpec) false w args)
   (Rows.cmdRunsSpec.post enc Tryz.prog Tryz.f3 false true false false) := by
 refine and_shaped (C := Tryz.checked) (X := fun w _ => laidMetH Tryz.prog laid3 w) (fun _ _ _ hh h => h.of_heap hh) own started (by kernel_rfl) Tryz.func3
  (ChangeSpec.witness_shaped (enc := enc) (C := Tryz.checked) (os := os) (X := fun w _ => laidMetH Tryz.prog laid3 w) false (World.doorLaid Tryz.prog 24 os) #[] 8 rfl (World.shaped_of_RefB (by kernel_rfl) (by kernel_rfl)) (by kernel_rfl) (by kernel_rfl) (by kernel_rfl) (door_met os _)) ?_
 intro W base args ds gs before hval0 hW _ _ hL hsh
 have hval : ∀ (j : Nat) t v, Tryz.f3.params[j]? = some t → args[j]? = some v → Value.okWide Tryz.prog W .any base t v := hval0
 have hW' := hW
 obtain ⟨p, q, hA0, hV, rfl, hfz, hnd⟩ := hW
 have hA : DataW.TrodAll enc Tryz.prog W 0 (fun _ => true) true Tryz.f3.params.toList args.toList ds p := hA0
 rw [Tryz.params3] at hA hval
 obtain ⟨rfl, rfl, rfl⟩ := trodAll_none hA
 obtain ⟨rfl, rfl⟩ := trodVars_none hV
 clear hA0 hval0
 refine (cmdRuns_any W (maxLen hsh) (tb_of hL)).mono fun e W' ⟨he, bel⟩ => ?_
 subst he
 exact ⟨_, rfl, _, _, _, [], _, [], hW', trodAll_mk1 (shut_bool Tryz.underlying4 _), rfl, rfl, Below.frame bel _, fun h => by cases h⟩

theorem over : Rows.cmdRunsRow.holds Tryz.pinned (OpenSpec.ofChange Rows.cmdRunsSpec) :=
 OpenClaim.holds_of_wide 3 Tryz.f3 rfl rfl rfl rfl rfl rfl rfl ⟨rfl, rfl, rfl, rfl, rfl⟩ rfl rfl rfl rfl rfl (by kernel_rfl) Tryz.func3 (by kernel_rfl)
  (of_decide_eq_true (by kernel_rfl)) (by unfold Func.isWrapper; first | (rw [if_pos (by decide +kernel)]; kernel_rfl) | (rw [if_neg (by decide +kernel)]; exact ⟨rfl, rfl⟩))
  (fun os started H enc _ => lifted os started H enc)

theorem carded : Rows.CmdRunsCardSaid :=
 Claim7.holds_tied_plain_at .later [] [.data, .data, .data] true (true, "83058e917f773d7ae6798968f2d05561e50962e1245fc37b3c6339206dbeca4b") false
  over (fun _ h => by cases h) (by kernel_rfl) (fun _ h => by cases h) cmdRuns_row_tie rfl ⟨rfl, rfl⟩ (by kernel_rfl) rfl
  (fun f fn hf hfn => by
   obtain rfl : f = 3 := Option.some.inj ((show Tryz.prog.funcNamed "gloss/glosslaw8.CmdRuns" = some 3 by kernel_rfl).symm.trans hf) |>.symm
   obtain rfl : fn = Tryz.f3 := (Option.some.inj (Tryz.func3.symm.trans hfn)).symm
   exact ⟨by kernel_rfl, fun j t ht => by
    rw [Tryz.params3] at ht
    simp at ht⟩)
  (by kernel_rfl)

end Go.Proofs.YtommgdgilcemdaaGreatDoor.cmdRuns
namespace Go.Proofs.YtommgdgilcemdaaGreatDoor

theorem cmdRuns_holds : Rows.CmdRunsCardSaid := cmdRuns.carded

end Go.Proofs.YtommgdgilcemdaaGreatDoor
